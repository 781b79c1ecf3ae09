import PyProof.Rows.All
import Wide.All
import OpenK.AllK
import Wide.FinOn
import Lean
import PyProof.EqAt
import PyProof.EqKinds
import PyProof.TupleCall
import PyProof.TupleKey
import KE.KRevSl
import PyProof.P3Eq
import KE.LcSums
import PyProof.EnumMake
import PyProof.StrWalks
import PyProof.Conv_int_bool
import KE.KIntText
import PyProof.Rows.StrNews2
import PyProof.StrBlock2
import PyProof.Rows.StrNews
import PyProof.StrLawsRepr
import PyProof.ReprStr
import PyProof.ReprRoads
import PyProof.DictIter
import PyProof.Rows.SetFrom
import KE.KDictList
import KE.KDictOf
import PyProof.AttrMissHeap
import KE.KEqDict
import PyProof.DictItems
import KE.KPairComp
import PyProof.Rows.Range3
import KE.IntTextText
import PyProof.StrLawsFirst
import PyProof.ReprBulk
import PyProof.ZipIter
import PyProof.Rows.ZipGen
import PyProof.TupleIter
import PyProof.ListRange
import PyProof.NeKinds
import PyProof.Draws
import PyProof.StrLawsTight
import PyProof.StrLawsChain
import PySem.Challenge.RW_hushduel_k70_plans_as_text
set_option genSizeOf false
noncomputable section
abbrev Zaa:=PySem.Addr->Prop
abbrev Zp:=PySem.Str->Option PySem.Value
abbrev Zl:=List (PySem.Addr×PySem.Obj)
abbrev Zs:=PySem.Value->PySem.Shared->Prop
theorem xq5 {A B C D E:Sort _}{R Q:A->B->C->D->E->Prop}{P:Prop}(h:∃a b c d e,R a b c d e/\Q a b c d e)(k:∀a b c d e,R a b c d e->Q a b c d e->P):P:=by
 obtain ⟨a,b,c,d,e,r,q⟩:=h;exact k a b c d e r q
theorem xq7 {A B C D E F G:Sort _}{R Q S T:A->B->C->D->E->F->G->Prop}{P:Prop}(h:∃a b c d e f g,R a b c d e f g/\Q a b c d e f g/\S a b c d e f g/\T a b c d e f g)(k:∀a b c d e f g,R a b c d e f g->Q a b c d e f g->S a b c d e f g->T a b c d e f g->P):P:=by
 obtain ⟨a,b,c,d,e,f,g,r,q,s,t⟩:=h;exact k a b c d e f g r q s t
theorem xq2 {A B:Sort _}{R Q S:A->B->Prop}{P:Prop}(h:∃a b,R a b/\Q a b/\S a b)(k:∀a b,R a b->Q a b->S a b->P):P:=by
 obtain ⟨a,b,r,q,s⟩:=h;exact k a b r q s
theorem xl1 {A:Type _}{us:List A}(h:us.length=1):∃a,us=[a]:=by
 cases us with
 |nil=>cases h
 |cons a t=>cases t with
  |nil=>exact ⟨a,rfl⟩
  |cons _ _=>cases h
theorem xl0 {A:Type _}{us:List A}{n:Nat}(h:us.length=n+1):∃a t,us=a::t/\t.length=n:=by
 cases us with
 |nil=>cases h
 |cons a t=>exact ⟨a,t,rfl,Nat.succ.inj h⟩
theorem xl2 {A:Type _}{us:List A}(h:us.length=2):∃a b,us=[a,b]:=by
 obtain ⟨a,t,rfl,h'⟩:=xl0 (n:=1) h;obtain ⟨b,rfl⟩:=xl1 h';exact ⟨a,b,rfl⟩
theorem xl3 {A:Type _}{us:List A}(h:us.length=3):∃a b c,us=[a,b,c]:=by
 obtain ⟨a,t,rfl,h'⟩:=xl0 (n:=2) h;obtain ⟨b,c,rfl⟩:=xl2 h';exact ⟨a,b,c,rfl⟩
theorem xl4 {A:Type _}{us:List A}(h:us.length=4):∃a b c d,us=[a,b,c,d]:=by
 obtain ⟨a,t,rfl,h'⟩:=xl0 (n:=3) h;obtain ⟨b,c,d,rfl⟩:=xl3 h';exact ⟨a,b,c,d,rfl⟩
set_option Elab.async false
set_option linter.all false
set_option maxRecDepth 100000
namespace L2
open PySem PySem.Spec PyProof.Rows
abbrev Key:=Sum Int Str
def vA:Key->Value->Bool
 | .inl k,v=>Value.isInt k v
 | .inr x,v=>Value.isStrOf x v
def ZC (w:World):Key->Int
 | .inl k=>hashInt k
 | .inr x=>hashStr w x
theorem bU:∀{k:Key} {v:Value},vA k v=true->(∃i t,k=Sum.inl i/\v=Value.int i t)\/(∃x t,k=Sum.inr x/\v=Value.str x t)
 | .inl i,v,h=>by
  obtain ⟨t,e⟩:=Value.isInt_shape (k:=i) (v:=v) h;exact .inl ⟨i,t,rfl,e⟩
 | .inr x,v,h=>by
  obtain ⟨t,e⟩:=Value.isStrOf_shape (x:=x) (v:=v) h;exact .inr ⟨x,t,rfl,e⟩
theorem Oi (i:Int)(t:Tok):vA (.inl i) (.int i t)=true:=by simp [vA,Value.isInt]
theorem Nk (x:Str)(t:Tok):vA (.inr x) (.str x t)=true:=by simp [vA,Value.isStrOf]
theorem Xz (a b:Int):decide ((Sum.inl a:Key)=Sum.inl b)=(a == b):=by
 by_cases e:a=b
 ·subst e;simp
 ·have h:¬(Sum.inl a:Key)=Sum.inl b:=λq=>e (Sum.inl.inj q);rw [decide_eq_false h];exact (beq_eq_false_iff_ne.mpr e).symm
theorem Yh (a b:Str):decide ((Sum.inr a:Key)=Sum.inr b)=decide (a=b):=by
 by_cases e:a=b
 ·subst e;simp
 ·have h:¬(Sum.inr a:Key)=Sum.inr b:=λq=>e (Sum.inr.inj q);rw [decide_eq_false h,decide_eq_false e]
theorem Yv (a:Int)(b:Str):decide ((Sum.inl a:Key)=Sum.inr b)=false:=decide_eq_false (λq=>nomatch q)
theorem Xm (a:Str)(b:Int):decide ((Sum.inr a:Key)=Sum.inl b)=false:=decide_eq_false (λq=>nomatch q)
def fG (prog:Program)(w:World):PySem.KeyKind prog w Key where
 is:=vA
 hash:=ZC w
 inj:=λv a b ha hb=>by
  rcases bU ha with ⟨i,t,rfl,rfl⟩ | ⟨x,t,rfl,rfl⟩
  ·rcases bU hb with ⟨j,u,rfl,e⟩ | ⟨y,u,rfl,e⟩
   ·injection e with e1 _;rw [e1]
   ·exact nomatch e
  ·rcases bU hb with ⟨j,u,rfl,e⟩ | ⟨y,u,rfl,e⟩
   ·exact nomatch e
   ·injection e with e1 _;rw [e1]
 byValue:=λk v h=>by
  rcases bU h with ⟨i,t,rfl,rfl⟩ | ⟨x,t,rfl,rfl⟩<;>rfl
 pyHash:=λhv h=>by
  rcases bU hv with ⟨i,t,rfl,rfl⟩ | ⟨x,t,rfl,rfl⟩
  ·exact wpAny_pyHash_int h
  ·exact wpAny_pyHash_str h
 eqBool:=λhu hv h=>by
  rcases bU hu with ⟨i,t,rfl,rfl⟩ | ⟨x,t,rfl,rfl⟩
  ·rcases bU hv with ⟨j,u,rfl,rfl⟩ | ⟨y,u,rfl,rfl⟩
   ·rw [Xz] at h;exact wpAny_eqBool_int h
   ·rw [Yv] at h;exact SeqAt.EqAt.int_str i t y u _ _ _ _ h
  ·rcases bU hv with ⟨j,u,rfl,rfl⟩ | ⟨y,u,rfl,rfl⟩
   ·rw [Xm] at h;exact SeqAt.EqAt.str_int x t j u _ _ _ _ h
   ·rw [Yh] at h;exact wpAny_eqBool_str h
 «strs»:=λk x t v h=>by
  rcases bU h with ⟨i,u,rfl,e⟩ | ⟨y,u,rfl,e⟩
  ·exact nomatch e
  ·injection e with e1 _
   subst e1;cases v<;>rfl
theorem Hj (prog:Program)(w:World)(i:Int)(t:Tok):(fG prog w).is (.inl i) (.int i t)=true:=Oi i t
theorem GQ (prog:Program)(w:World)(x:Str)(t:Tok):(fG prog w).is (.inr x) (.str x t)=true:=Nk x t
inductive Kt where
 |k (x:Key) | t (xs:List Kt)
mutual
def Kt.dec:(a b:Kt)->Decidable (a=b)
 | .k x,.k y=>if h:x=y then .isTrue (by rw [h]) else .isFalse λe=>h (by injection e)
 | .t xs,.t ys=>match Kt.decs xs ys with
  | .isTrue h=>.isTrue (by rw [h])
  | .isFalse h=>.isFalse λe=>h (by injection e)
 | .k _,.t _=>.isFalse λe=>nomatch e
 | .t _,.k _=>.isFalse λe=>nomatch e
def Kt.decs:(a b:List Kt)->Decidable (a=b)
 |[],[]=>.isTrue rfl
 |[],_::_=>.isFalse λe=>nomatch e
 |_::_,[]=>.isFalse λe=>nomatch e
 |x::xs,y::ys=>match Kt.dec x y,Kt.decs xs ys with
  | .isTrue h,.isTrue g=>.isTrue (by rw [h,g])
  | .isFalse h,_=>.isFalse λe=>h (by injection e)
  |_,.isFalse g=>.isFalse λe=>g (by injection e)
end
instance:DecidableEq Kt:=Kt.dec
mutual
def uz (w:World):Kt->Int
 | .k x=>ZC w x
 | .t xs=>reduceHash (Builtin.Tuple.tupleHashOf (mC w xs))
def mC (w:World):List Kt->List Int
 |[]=>[]
 |x::xs=>uz w x::mC w xs
end
mutual
def rM:Kt->Nat
 | .k _=>1
 | .t xs=>eG xs+1
def eG:List Kt->Nat
 |[]=>0
 |x::xs=>rM x+eG xs
end
def lu (h:Heap):Nat->Kt->Value->Prop
 |_,.k x,v=>vA x v=true
 |0,.t _,_=>False
 |n+1,.t xs,v=>∃a o items m,v=.ref a/\h.get? a=some o/\o.cls=.type "tuple"/\o.data=.seq items m/\Paired (lu h n) xs items.toList
theorem jC {h:Heap}{n:Nat}{xs:List Kt}{v:Value}:lu h (n+1) (.t xs) v↔∃a o items m,v=.ref a/\h.get? a=some o/\o.cls=.type "tuple"/\o.data=.seq items m/\Paired (lu h n) xs items.toList:=by rw [lu]
theorem oA {h:Heap}{n:Nat}{x:Key}{v:Value}:lu h n (.k x) v↔vA x v=true:=by cases n<;>rw [lu]
theorem yI {α β:Type}{F G:α->β->Prop}(f:∀a b,F a b->G a b):∀{l:List α} {m:List β},Paired F l m->Paired G l m
 |_,_,.nil=>.nil
 |_,_,.cons r t=>.cons (f _ _ r) (yI f t)
theorem zA {α β:Type}{F:α->β->Prop}(f:∀x y b,F x b->F y b->x=y):∀{l l':List α} {m:List β},Paired F l m->Paired F l' m->l=l'
 |_,_,_,.nil,.nil=>rfl
 |_,_,_,.cons r t,.cons r' t'=>by rw [f _ _ _ r r',zA f t t']
theorem yW {h:Heap}:∀(n:Nat) (x y:Kt) (v:Value),lu h n x v->lu h n y v->x=y
 |n,.k x,.k y,v,hx,hy=>by
  rw [oA] at hx hy;rcases bU hx with ⟨i,t,rfl,rfl⟩ | ⟨z,t,rfl,rfl⟩
  ·rcases bU hy with ⟨j,u,rfl,e⟩ | ⟨y,u,rfl,e⟩
   ·injection e with e1 _;rw [e1]
   ·exact nomatch e
  ·rcases bU hy with ⟨j,u,rfl,e⟩ | ⟨y,u,rfl,e⟩
   ·exact nomatch e
   ·injection e with e1 _;rw [e1]
 |0,.t _,_,_,hx,_=>by rw [lu] at hx;exact hx.elim
 |0,.k _,.t _,_,_,hy=>by rw [lu] at hy;exact hy.elim
 |n+1,.k x,.t ys,v,hx,hy=>by
  rw [oA] at hx;obtain ⟨a,_,_,_,e,_⟩:=jC.mp hy;subst e;rcases bU hx with ⟨_,_,_,e⟩ | ⟨_,_,_,e⟩<;>exact nomatch e
 |n+1,.t xs,.k y,v,hx,hy=>by
  rw [oA] at hy;obtain ⟨a,_,_,_,e,_⟩:=jC.mp hx;subst e;rcases bU hy with ⟨_,_,_,e⟩ | ⟨_,_,_,e⟩<;>exact nomatch e
 |n+1,.t xs,.t ys,v,hx,hy=>by
  obtain ⟨a,o,it,m,e,g,_,d,p⟩:=jC.mp hx;obtain ⟨a',o',it',m',e',g',_,d',p'⟩:=jC.mp hy;subst e;injection e' with e'
  subst e';cases g.symm.trans g';rw [d] at d';injection d' with d' _
  subst d';rw [zA (yW n) p p']
theorem yf {h h':Heap}{d:Addr}{o:Obj}{es ep}(ho:h.get? d=some o)(hd:o.data=.dict es ep)(hs:Heap.SameBut d h h'):∀(n:Nat) (x:Kt) (v:Value),lu h n x v->lu h' n x v
 |n,.k x,v,hx=>by rw [oA] at hx ⊢;exact hx
 |0,.t _,_,hx=>by rw [lu] at hx;exact hx.elim
 |n+1,.t xs,v,hx=>by
  obtain ⟨a,o',it,m,e,g,c,dd,p⟩:=jC.mp hx;have ne:a≠d:=by
   rintro rfl;cases g.symm.trans ho;rw [hd] at dd;cases dd
  exact jC.mpr ⟨a,o',it,m,e,(hs.2 a ne).trans g,c,dd,yI (yf ho hd hs n) p⟩
section
variable {pr:Program}{wo:World}{E:Zs}
theorem wM (w:World):∀xs:List Kt,mC w xs=xs.map (uz w)
 |[]=>by rw [mC];rfl
 |x::xs=>by rw [mC,wM w xs];rfl
theorem uM:∀xs ys:List Kt,eG (xs++ys)=eG xs+eG ys
 |[],ys=>by rw [List.nil_append,eG,Nat.zero_add]
 |x::xs,ys=>by rw [List.cons_append,eG,eG,uM xs ys,Nat.add_assoc]
theorem Ei (x:Kt):eG [x]=rM x:=by rw [eG,eG,Nat.add_zero]
theorem Bb:∀(n:Nat) {A:Around} {s:Shared} {x:Kt} {v:Value} {Q:Int->Shared->Prop},A.units+n<cLine->lu s.heap n x v->Q (uz wo x) { s with toks:=s.toks+rM x }->wpAny (model pr wo) A (pyHash v) Q E s
 |n,A,s,.k x,v,Q,hu,hx,q=>by
  rw [oA] at hx;rw [uz,rM] at q;exact (fG pr wo).pyHash hx q
 |0,_,_,.t _,_,_,_,hx,_=>by rw [lu] at hx;exact hx.elim
 |n+1,A,s,.t xs,v,Q,hu,hx,h=>by
  obtain ⟨a,o,items,m,e,ho,hc,hd,hi⟩:=jC.mp hx;subst e;have hT:s.TypeIs (.ref a) "tuple":=⟨o,ho,hc⟩;rw [uz,rM] at h;unfold pyHash
  first | unfold pyHashByItsType | skip
  first | refine wpAny_bind (wpAny_cRoomFor_or (.inr (by omega)) ?_) | skip
  refine wpAny_bind (wpAny_specialOf hT PySem.F.slot_tuple_hash.lookup ?_);show wpAny _ _ (if (some (Value.builtin "tuple.__hash__") == some Value.none)=true then _ else _) Q E s;rw [if_neg (by rw [beq_builtin_none];exact Bool.false_ne_true)];refine wpAny_bind (wpAny_specialOf hT PySem.F.slot_tuple_hash.lookup ?_);show wpAny _ _ (callSpecialIfBoundUnlessNone? (.ref a) "__hash__" _ >>= _) Q E s;refine wpAny_bind (wpAny_callSpecialIfBoundUnlessNone?_slot hT PySem.F.slot_tuple_hash (wpAny_call_entry PySem.F.slot_tuple_hash hT PySem.F.entry_tuple_hash ?_ (PySem.F.args_tuple_hash_1 _)));show wpAny _ _ (Builtin.Tuple.tupleItemsOf (.ref a) >>= _) _ _ s;refine wpAny_bind (wpAny_tupleItemsOf ho hd ?_);refine wpAny_bind ?_;rw [← Array.forIn_toList];refine wpAny_forIn_list _
   (λrest (b:Array Int) s'=>∃done left,xs=done++left/\Paired (lu s.heap n) left rest/\b.toList=done.map (uz wo)/\s'={ s with toks:=s.toks+eG done })
   _ ?_ ?_ _ _ ⟨[],xs,rfl,hi,rfl,by rw [eG];rfl⟩
  ·rintro x rest b s' ⟨done,left,rfl,hl,hb,rfl⟩;cases hl with
   | @cons k _ ks' _ h1 hl'=>
    refine wpAny_bind (Bb n (A:=A.in1) (show A.units+1+n<cLine by omega) (s:={ s with toks:=s.toks+eG done }) h1 ?_);refine wpAny_pure ⟨done++[k],ks',by simp,hl',by simp [hb],?_⟩;rw [uM,Ei,Nat.add_assoc]
  ·rintro b s' ⟨done,left,rfl,hl,hb,rfl⟩;cases hl;rw [List.append_nil] at h;show wpAny _ _ (retInt (Builtin.Tuple.tupleHashOf b.toList)) _ _ _;rw [hb,← wM];refine wpAny_ret_mkInt ?_;show wpAny _ _ (if (decide (-(2:Int) ^ 63<=Builtin.Tuple.tupleHashOf (mC wo done)) && decide (Builtin.Tuple.tupleHashOf (mC wo done)<2 ^ 63))=true then _ else _) Q E _;unfold reduceHash at h;by_cases hr:(decide (-(2:Int) ^ 63<=Builtin.Tuple.tupleHashOf (mC wo done)) && decide (Builtin.Tuple.tupleHashOf (mC wo done)<2 ^ 63))=true
   ·rw [if_pos hr];rw [if_pos hr] at h;exact wpAny_pure (by simpa [Nat.add_assoc] using h)
   ·rw [if_neg hr];rw [if_neg hr] at h;exact wpAny_bind (wpAny_rule (wpAny_pure (by simpa [Nat.add_assoc] using h)))
def qJ (xs ys:List Kt)(j:Nat):Bool:=match xs[j]?,ys[j]? with
 |some x,some y=>decide (x=y)
 |_,_=>true
theorem yc:∀xs ys:List Kt,((List.range (min xs.length ys.length)).all (qJ xs ys) && xs.length == ys.length)=decide (xs=ys)
 |[],[]=>by simp
 |[],_::_=>by simp
 |_::_,[]=>by simp
 |x::xs,y::ys=>by
  have ih:=yc xs ys;rw [List.length_cons,List.length_cons,Nat.succ_min_succ,List.range_succ_eq_map,List.all_cons,List.all_map];have e:(qJ (x::xs) (y::ys) ∘ Nat.succ)=qJ xs ys:=by funext j;simp [qJ]
  rw [e];have e0:qJ (x::xs) (y::ys) 0=decide (x=y):=by simp [qJ]
  rw [e0,Bool.and_assoc];have e1:((xs.length+1 == ys.length+1):Bool)=(xs.length == ys.length):=by simp
  rw [e1,ih];by_cases a:x=y<;>by_cases b:xs=ys<;>simp [a,b]
theorem vP {α β:Type}{F:α->β->Prop}:∀{l:List α} {m:List β} (j:Nat) (h:j<m.length),Paired F l m->∃a,l[j]? = some a/\F a m[j]
 |_,_,j,h,.nil=>absurd h (Nat.not_lt_zero _)
 |_,_,0,_,.cons r _=>⟨_,rfl,r⟩
 |_,_,j+1,h,.cons _ t=>by
  obtain ⟨a,h1,h2⟩:=vP j (by simpa using h) t;exact ⟨a,by simpa using h1,by simpa using h2⟩
theorem Le:∀(n:Nat) (A:Around) (s:Shared) (x y:Kt) (v u:Value),A.units+n<cLine->lu s.heap n x v->lu s.heap n y u->SeqAt.EqAt A s v u (decide (x=y))
 |n,A,s,.k x,.k y,v,u,hu,hx,hy=>by
  rw [oA] at hx hy;intro pr wo E Q q;refine (fG pr wo).eqBool (a:=x) (b:=y) hx hy ?_;have e:decide (Kt.k x=Kt.k y)=decide (x=y):=decide_eq_decide.mpr ⟨λe=>by injection e,λe=>by rw [e]⟩;rw [← e];exact q
 |0,_,_,.t _,_,_,_,_,hx,_=>by rw [lu] at hx;exact hx.elim
 |0,_,_,.k _,.t _,_,_,_,_,hy=>by rw [lu] at hy;exact hy.elim
 |n+1,A,s,.k x,.t ys,v,u,hu,hx,hy=>by
  rw [oA] at hx;obtain ⟨a,o,it,m,e,g,c,d,_⟩:=jC.mp hy;subst e;have hl:s.heap.IsTuple a it:=⟨o,g,c,m,d⟩;rw [show decide (Kt.k x=Kt.t ys)=false from decide_eq_false λe=>nomatch e];rcases bU hx with ⟨i,t,rfl,rfl⟩ | ⟨z,t,rfl,rfl⟩
  ·exact SeqAt.EqAt.int_tuple i t hl (by omega)
  ·exact SeqAt.EqAt.str_tuple z t hl (by omega)
 |n+1,A,s,.t xs,.k y,v,u,hu,hx,hy=>by
  rw [oA] at hy;obtain ⟨a,o,it,m,e,g,c,d,_⟩:=jC.mp hx;subst e;have hl:s.heap.IsTuple a it:=⟨o,g,c,m,d⟩;rw [show decide (Kt.t xs=Kt.k y)=false from decide_eq_false λe=>nomatch e];rcases bU hy with ⟨i,t,rfl,rfl⟩ | ⟨z,t,rfl,rfl⟩
  ·exact SeqAt.EqAt.tuple_int i t hl (by omega)
  ·exact SeqAt.EqAt.tuple_str z t hl (by omega)
 |n+1,A,s,.t xs,.t ys,v,u,hu,hx,hy=>by
  have hx':=hx;have hy':=hy;obtain ⟨a,o,it,m,e,g,c,d,p⟩:=jC.mp hx;obtain ⟨a',o',it',m',e',g',c',d',p'⟩:=jC.mp hy;subst e e';by_cases ne:a=a'
  ·subst ne;rw [yW _ _ _ _ hx' hy',decide_eq_true rfl];exact SeqAt.EqAt.same _
  ·have hl:s.heap.IsTuple a it:=⟨o,g,c,m,d⟩;have hl':s.heap.IsTuple a' it':=⟨o',g',c',m',d'⟩;have n1:it.size=xs.length:=by have:=Paired.length p;simpa using this.symm
   have n2:it'.size=ys.length:=by have:=Paired.length p';simpa using this.symm
   have e2:decide (Kt.t xs=Kt.t ys)=decide (xs=ys):=decide_eq_decide.mpr ⟨λe=>by injection e,λe=>by rw [e]⟩;rw [e2,← yc xs ys,← n1,← n2];refine SeqAt.EqAt.of_refs ne (SeqAt.RcAt.tuples hl hl' (by omega) λj j1 j2=>?_);obtain ⟨b,q1,q2⟩:=vP j (by simpa using j1) p;obtain ⟨b',r1,r2⟩:=vP j (by simpa using j2) p'
   have:qJ xs ys j=decide (b=b'):=by unfold qJ;rw [q1,r1]
   rw [this];exact Le n A.in1 s b b' _ _ (show A.units+1+n<cLine by omega) (by simpa using q2) (by simpa using r2)
theorem Ly:∀(n:Nat) {A:Around} {s:Shared} {x:Kt} {v:Value} {Q:Bool->Shared->Prop},lu s.heap n x v->Q true s->wpAny (model pr wo) A (eqIsQuiet n v) Q E s
 |n,A,s,.k x,v,Q,hx,q=>by
  rw [oA] at hx;rw [eqIsQuiet_byValue _ ((fG pr wo).byValue _ _ hx)];exact wpAny_pure q
 |0,_,_,.t _,_,_,hx,_=>by rw [lu] at hx;exact hx.elim
 |n+1,A,s,.t xs,v,Q,hx,h=>by
  obtain ⟨a,o,items,m,e,ho,hc,hd,hi⟩:=jC.mp hx;subst e;have hT:s.TypeIs (.ref a) "tuple":=⟨o,ho,hc⟩;unfold eqIsQuiet;refine wpAny_bind (wpAny_specialOf hT PySem.F.slot_tuple_eq.lookup ?_);show wpAny _ _ (isInstance (.ref a) (.type "tuple") >>= _) _ _ s;refine wpAny_bind (wpAny_isInstance hT isSubtype_tuple_tuple ?_);simp only [Bool.not_true,Bool.false_eq_true,if_false];refine wpAny_bind (wpAny_seqItems ho hd (wpAny_bind ?_));show wpAny _ _ (forIn items _ _) _ _ s;rw [← Array.forIn_toList];refine wpAny_forIn_list _ (λrest r s'=>r.1=none/\s'=s/\∃ks,Paired (lu s.heap n) ks rest) _ ?_ ?_ _ _ ⟨rfl,rfl,xs,hi⟩
  ·rintro v rest r s' ⟨hr,rfl,ks,al⟩;cases al with
   |cons h1 al'=>
    refine wpAny_bind (Ly n h1 ?_);simp only [Bool.not_true,Bool.false_eq_true,if_false];exact wpAny_pure ⟨rfl,rfl,_,al'⟩
  ·rintro ⟨r1,r2⟩ s' ⟨hr,rfl,_⟩;simp only at hr;subst hr;exact wpAny_pure h
end
def gf (pr:Program)(wo:World):HeapKind pr wo (List Kt) where
 is:=λh ks a=>lu h 8 (.t ks) (.ref a)
 hash:=λks=>uz wo (.t ks)
 draws:=λks=>rM (.t ks)
 room:=λA=>A.units+8<cLine
 inj:=λa b=>by have:=yW _ _ _ _ a b;injection this
 keeps:=λx a b c=>yf a b c _ _ _ x
 pyHash:=λa b c=>Bb 8 a b c
 eqBool:=λ{A E s x y a b Q} h1 h2 h3 h4=>by
  refine Le 8 A s _ _ _ _ h1 h2 h3 _ _ _ _ ?_;rw [show decide (Kt.t x=Kt.t y)=decide (x=y) from decide_eq_decide.mpr ⟨λe=>by injection e,λe=>by rw [e]⟩];exact h4
 quiet:=λa b=>Ly 8 a b
inductive V where
 |non | bl (b:Bool) | int (i:Int) | str (x:Str) | byt (b:Array UInt8) | flt (b:UInt64) | ref (a:Addr) | ty (n:String)
 deriving DecidableEq
def RelV:V->Value->Prop
 | .non,u=>u=Value.none
 | .bl b,u=>u=Value.bool b
 | .int i,u=>∃t,u=Value.int i t
 | .str x,u=>∃t,u=Value.str x t
 | .byt b,u=>∃t,u=Value.bytes b t
 | .flt b,u=>∃t,u=Value.float b t
 | .ref a,u=>u=Value.ref a
 | .ty n,u=>u=Value.type n
abbrev Vals:List V->List Value->Prop:=Paired RelV
theorem Vals.length {xs:List V}{us:List Value}(r:Vals xs us):xs.length=us.length:=Paired.length r
theorem Vals.get:∀{xs:List V} {us:List Value} {i:Nat} {x:V},Vals xs us->xs[i]? = some x->∃u,us[i]? = some u/\RelV x u
 |_,_,_,_,.nil,e=>by simp at e
 |_,_,0,_,.cons r _,e=>by simp at e;subst e;exact ⟨_,rfl,r⟩
 |_,_,i+1,x,.cons _ t,e=>by
  obtain ⟨u,h1,h2⟩:=Vals.get (i:=i) (x:=x) t (by simpa using e);exact ⟨u,by simpa using h1,h2⟩
theorem Vals.append:∀{xs ys:List V} {us ws:List Value},Vals xs us->Vals ys ws->Vals (xs++ys) (us++ws)
 |_,_,_,_,.nil,s=>s
 |_,_,_,_,.cons r t,s=>.cons r (Vals.append t s)
theorem Vals.take:∀{xs:List V} {us:List Value} (n:Nat),Vals xs us->Vals (xs.take n) (us.take n)
 |_,_,0,_=>.nil
 |_,_,_+1,.nil=>.nil
 |_,_,n+1,.cons r t=>.cons r (Vals.take n t)
theorem Vals.drop:∀{xs:List V} {us:List Value} (n:Nat),Vals xs us->Vals (xs.drop n) (us.drop n)
 |_,_,0,r=>r
 |_,_,_+1,.nil=>.nil
 |_,_,n+1,.cons _ t=>Vals.drop n t
def vV:Option V->Option Value->Prop
 |some v,some u=>RelV v u
 |none,none=>True
 |_,_=>False
def KV {κ:Type}:List (κ×V)->List (κ×Value)->Prop:=Paired λ(p:κ×V) (q:κ×Value)=>p.1=q.1/\RelV p.2 q.2
def kV:Key->V
 | .inl i=>.int i
 | .inr x=>.str x
inductive HO where
  |lst (xs:List V)
  |tup (xs:List V)
  |dK (kvs:List (Key×V)) | dT (T:Addr->List V->Prop) (kvs:List (List Kt×V))
  |set (S:Int->Bool) (n:Nat)
  |ins (C dx:Addr) (fs:List (Str×V))
  |own (x:Addr)
  |xd (fs:List (Str×V))
  |met (f x:Addr)
  |rng (lo hi:Int)
  |frz (o:Obj) (u:HO)
  |tbl (ps:Array Value)
  |ext (φ:Heap->Prop)
abbrev Hp:=Addr->Option HO
def upd (H:Hp)(a:Addr)(o:HO):Hp:=λb=>if b=a then some o else H b
theorem aV {H:Hp}{a:Addr}{o:HO}:upd H a o a=some o:=by unfold upd;rw [if_pos rfl]
theorem bc {H:Hp}{a b:Addr}{o:HO}(h:b≠a):upd H a o b=H b:=by unfold upd;rw [if_neg h]
theorem yH {H:Hp}{a b:Addr}{o u:HO}(h:H a=some o)(h':H b=some u)(d:o≠u):a≠b:=by
 intro e;subst e;rw [h] at h';exact d (Option.some.inj h')
theorem jy {H:Hp}{a b:Addr}{o:HO}(h:H a=some o)(h':H b=none):a≠b:=by
 intro e;subst e;rw [h] at h';cases h'
mutual
inductive v9 (T:Addr->List V->Prop)(H:Hp):Nat->V->Kt->Prop where
 |k {n:Nat} {x:Key}:v9 T H n (kV x) (.k x)
 |t {n:Nat} {b:Addr} {vs:List V} {ks:List Kt}:(H b=some (.tup vs)\/T b vs)->pB T H n vs ks->v9 T H (n+1) (.ref b) (.t ks)
inductive pB (T:Addr->List V->Prop)(H:Hp):Nat->List V->List Kt->Prop where
 |nil {n:Nat}:pB T H n [] []
 |cons {n:Nat} {v:V} {vs:List V} {k:Kt} {ks:List Kt}:v9 T H n v k->pB T H n vs ks->pB T H n (v::vs) (k::ks)
end
def TrT (T:Addr->List V->Prop)(H:Hp)(b:Addr)(ks:List Kt):Prop:=∃vs,(H b=some (.tup vs)\/T b vs)/\pB T H 7 vs ks
section
variable {T:Addr->List V->Prop}{H H':Hp}
mutual
theorem v9.imp (ht:∀b xs,H b=some (.tup xs)->H' b=some (.tup xs)):∀{n:Nat} {v:V} {k:Kt},v9 T H n v k->v9 T H' n v k
 |_,_,_,.k=>.k
 |_,_,_,.t h hs=>.t (h.imp (ht _ _) id) (pB.imp ht hs)
theorem pB.imp (ht:∀b xs,H b=some (.tup xs)->H' b=some (.tup xs)):∀{n:Nat} {vs:List V} {ks:List Kt},pB T H n vs ks->pB T H' n vs ks
 |_,_,_,.nil=>.nil
 |_,_,_,.cons h hs=>.cons (v9.imp ht h) (pB.imp ht hs)
end
theorem TrT.imp {b:Addr}{ks:List Kt}(h:TrT T H b ks)(ht:∀b xs,H b=some (.tup xs)->H' b=some (.tup xs)):TrT T H' b ks:=
 let ⟨vs,h1,h2⟩:=h;⟨vs,h1.imp (ht _ _) id,h2.imp ht⟩
end
section
variable (P:Program)(w:World)
def cD (H:Hp)(h:Heap)(a:Addr):HO->Prop
 | .lst xs=>xs.length<=sizeLine/\∃(its:List Value) (n:Nat),Vals xs its/\h.get? a=some { cls:=.type "list",data:=.seq its.toArray n }
 | .tup xs=>xs.length<=sizeLine/\∃its:List Value,Vals xs its/\IsTup h a its.toArray
 | .dK kvs=>kvs.length<=sizeLine/\(a == sysModules)=false/\∃vs,KV kvs vs/\h.DictOf (fG P w) a vs
 | .dT T kvs=>kvs.length<=sizeLine/\(a == sysModules)=false/\∃xs:List (List Kt×Addr×Value),
   Paired (λ(p:List Kt×V) (q:List Kt×Addr×Value)=>p.1=q.1/\TrT T H q.2.1 p.1/\RelV p.2 q.2.2) kvs xs/\
   ∃o es ep,h.get? a=some o/\o.ExactDict/\o.data=.dict es ep/\es.toList=xs.map (entryOfKey (gf P w))/\(xs.map (·.1)).Nodup
 | .set S n=>h.SetOf (intKind P w) a S n
 | .ins C dx fs=>H dx=some (.own a)/\fs.length<=1000/\dx≠a/\h.get? a=some (W.instObj C dx)/\
   ∃mA,h.Ns1 dx mA/\(∀f,vV (fs.lookup f) (mA f))/\PySem.Within mA (fs.map (·.1))
 | .own _=>∃o,h.get? a=some o
 | .xd fs=>∃mA,h.Ns1 a mA/\∀f,vV (fs.lookup f) (mA f)
 | .rng lo hi=>∃t u v,h.get? a=some { cls:=.type "range",data:=.fields #[.int lo t,.int hi u,.int 1 v] }
 | .frz o u=>h.get? a=some o/\cD H h a u
 | .tbl ps=>h.get? a=some { cls:=.none,data:=.fields ps }
 | .met f x=>h.get? a=some (W.methodObj (.ref f) (.ref x))
 | .ext φ=>φ h/\(∃o,h.get? a=some o)/\∀h1 h2:Heap,φ h1->(∀o,h1.get? a=some o->h2.get? a=some o)->φ h2
def HOk (H:Hp)(h:Heap):Prop:=∀a o,H a=some o->cD P w H h a o
end
section
variable {P:Program}{w:World}{H H':Hp}{h h':Heap}{a:Addr}{o:HO}
theorem cD.lt (x:cD P w H h a o):a<h.objs.size:=by
 cases o with
 |lst xs=>obtain ⟨_,_,_,_,e⟩:=x;exact Heap.lt_size e
 |tup xs=>obtain ⟨_,_,_,p⟩:=x;exact p.lt
 |dK kvs=>obtain ⟨_,_,_,_,o,_,_,e,_⟩:=x;exact Heap.lt_size e
 |dT T kvs=>obtain ⟨_,_,_,_,o,_,_,e,_⟩:=x;exact Heap.lt_size e
 |set S n=>obtain ⟨o,_,_,_,e,_⟩:=x;exact Heap.lt_size e
 |ins C dx fs=>obtain ⟨_,_,_,e,_⟩:=x;exact Heap.lt_size e
 |own y=>obtain ⟨_,e⟩:=x;exact Heap.lt_size e
 |xd fs=>obtain ⟨_,⟨_,_,_,e,_⟩,_⟩:=x;exact Heap.lt_size e
 |rng lo hi=>obtain ⟨_,_,_,e⟩:=x;exact Heap.lt_size e
 |frz ob u=>obtain ⟨e,_⟩:=x;exact Heap.lt_size e
 |tbl ps=>exact Heap.lt_size (show h.get? a=some _ from x)
 |met f y=>exact Heap.lt_size (show h.get? a=some _ from x)
 |ext φ=>obtain ⟨_,⟨_,e⟩,_⟩:=x;exact Heap.lt_size e
theorem Paired.XN {α β:Type}{F G:α->β->Prop}:∀{l₁:List α} {l₂:List β},Paired F l₁ l₂->(∀a b,F a b->G a b)->Paired G l₁ l₂
 |_,_,.nil,_=>.nil
 |_,_,.cons r t,f=>.cons (f _ _ r) (Paired.XN t f)
theorem cD.stay (x:cD P w H h a o)(k:∀b u,(b=a\/H b=some (.own a))->h.get? b=some u->h'.get? b=some u)
  (ho:∀b,H b=some (.own a)->H' b=some (.own a)) (ht:∀b xs,H b=some (.tup xs)->H' b=some (.tup xs)):cD P w H' h' a o:=by
 induction o with
 |lst xs=>obtain ⟨z,its,n,r,e⟩:=x;exact ⟨z,its,n,r,k _ _ (.inl rfl) e⟩
 |tup xs=>obtain ⟨z,its,r,ob,e,c⟩:=x;exact ⟨z,its,r,ob,k _ _ (.inl rfl) e,c⟩
 |dK kvs=>obtain ⟨z,y,vs,r,ob,es,ep,e,c⟩:=x;exact ⟨z,y,vs,r,ob,es,ep,k _ _ (.inl rfl) e,c⟩
 |dT T kvs=>
  obtain ⟨z,y,xs,r,ob,es,ep,e,c⟩:=x;exact ⟨z,y,xs,Paired.XN r λp q z=>⟨z.1,z.2.1.imp ht,z.2.2⟩,ob,es,ep,k _ _ (.inl rfl) e,c⟩
 |set S n=>obtain ⟨ob,es,ep,t,e,c⟩:=x;exact ⟨ob,es,ep,t,k _ _ (.inl rfl) e,c⟩
 |ins C dx fs=>
  obtain ⟨d,z,ne,e,mA,⟨od,es,ep,e2,c⟩,r⟩:=x;exact ⟨ho _ d,z,ne,k _ _ (.inl rfl) e,mA,⟨od,es,ep,k _ _ (.inr d) e2,c⟩,r⟩
 |own y=>obtain ⟨ob,e⟩:=x;exact ⟨ob,k _ _ (.inl rfl) e⟩
 |xd fs=>obtain ⟨mA,⟨od,es,ep,e,c⟩,r⟩:=x;exact ⟨mA,⟨od,es,ep,k _ _ (.inl rfl) e,c⟩,r⟩
 |rng lo hi=>obtain ⟨t,u,v,e⟩:=x;exact ⟨t,u,v,k _ _ (.inl rfl) e⟩
 |frz ob u ih=>obtain ⟨e,q⟩:=x;exact ⟨k _ _ (.inl rfl) e,ih q⟩
 |tbl ps=>
  have e:h.get? a=some { cls:=.none,data:=.fields ps }:=x;show h'.get? a=some { cls:=.none,data:=.fields ps };exact k a _ (.inl rfl) e
 |met f y=>
  have e:h.get? a=some (W.methodObj (.ref f) (.ref y)):=x;show h'.get? a=some (W.methodObj (.ref f) (.ref y));exact k a _ (.inl rfl) e
 |ext φ=>obtain ⟨p,⟨o,e⟩,st⟩:=x;exact ⟨st _ _ p λo q=>k _ _ (.inl rfl) q,⟨o,k _ _ (.inl rfl) e⟩,st⟩
theorem HOk.lt (x:HOk P w H h)(e:H a=some o):a<h.objs.size:=(x a o e).lt
theorem HOk.fresh (x:HOk P w H h)(e:h.objs.size<=a):H a=none:=by
 cases q:H a with
 |none=>rfl
 |some u=>exact absurd (Nat.lt_of_lt_of_le (x.lt q) e) (Nat.lt_irrefl _)
theorem HOk.kept (x:HOk P w H h)(k:∀b u,h.get? b=some u->h'.get? b=some u):HOk P w H h':=λa o e=>
 (x a o e).stay (λb u _ q=>k b u q) (λ_ q=>q) λ_ _ q=>q
theorem HOk.laid (x:HOk P w H h)(k:∀b u,h.get? b=some u->h'.get? b=some u)(hp:h.objs.size<=a)(new:cD P w (upd H a o) h' a o):HOk P w (upd H a o) h':=λb u e=>by
 have hn:=x.fresh hp;by_cases hb:b=a
 ·subst hb;rw [aV] at e;cases e;exact new
 ·rw [bc hb] at e;exact (x b u e).stay (λc v _ q=>k c v q) (λc q=>by rw [bc (jy q hn)];exact q) λc xs q=>by rw [bc (jy q hn)];exact q
end
def Rd (H:Hp)(a:Addr)(u:HO):Prop:=H a=some u\/∃o,H a=some (.frz o u)
theorem Rd.ok {P:Program}{w:World}{H:Hp}{h:Heap}{a:Addr}{u:HO}(r:Rd H a u)(x:HOk P w H h):cD P w H h a u:=by
 rcases r with r | ⟨o,r⟩
 ·exact x a u r
 ·obtain ⟨_,q⟩:=x a _ r;exact q
def Mut:Option HO->Prop
 |some (.lst _)=>True
 |some (.dK _)=>True
 |some (.dT _ _)=>True
 |some (.set _ _)=>True
 |some (.ins _ _ _)=>True
 |some (.ext _)=>True
 |_=>False
section
variable {P:Program}{w:World}{H:Hp}{h h':Heap}{x e:Addr}{o':HO}
theorem HOk.write (ok:HOk P w H h)(mu:Mut (H x))(he:e=x\/H e=some (.own x))(k:∀b u,b≠e->h.get? b=some u->h'.get? b=some u)(heo:∃u,h'.get? e=some u)
  (new:cD P w (upd H x o') h' x o'):HOk P w (upd H x o') h':=λb u q=>by
 have nown:∀c y,H c=some (.own y)->c≠x:=λc y r z=>by subst z;rw [r] at mu;exact mu
 have ntup:∀c xs,H c=some (.tup xs)->c≠x:=λc xs r z=>by subst z;rw [r] at mu;exact mu
 by_cases hb:b=x
 ·subst hb;rw [aV] at q;cases q;exact new
 ·rw [bc hb] at q;by_cases hbe:b=e
  ·have q':H b=some (.own x):=by
    rcases he with z | z
    ·exact absurd (hbe.trans z) hb
    ·rw [hbe];exact z
   rw [q] at q';cases q';obtain ⟨v,hv⟩:=heo;exact ⟨v,by rw [hbe];exact hv⟩
  ·refine (ok b u q).stay (λc v hc r=>k c v ?_ r) (λc r=>by rw [bc (nown c b r)];exact r) λc xs r=>by rw [bc (ntup c xs r)];exact r
   rcases hc with rfl | hc
   ·exact hbe
   ·rintro rfl;rcases he with z | z
    ·exact nown c b hc z
    ·rw [hc] at z;cases z;exact hb rfl
end
structure Un (fs ex:List Addr)(H H':Hp)(h h':Heap):Prop where
 keep:∀b o,h.get? b=some o->H b=none->b∉fs->b∉ex->h'.get? b=some o
 slot:∀b o,h.get? b=some o->H b=none->b∈fs->b∉ex->∃sl,h'.get? b=some { o with slots:=sl }
 free:∀b o,h.get? b=some o->H b=none->b∉ex->H' b=none
 there:∀b o,h.get? b=some o->b∉ex->∃o',h'.get? b=some o'
 tups:∀b xs,H b=some (.tup xs)->H' b=some (.tup xs)
 frzs:∀b o u,H b=some (.frz o u)->H' b=some (.frz o u)
 tbls:∀b ps,H b=some (.tbl ps)->∃more,H' b=some (.tbl (ps++more))
section
variable {fs fs' ex ex':List Addr}{H H1 H2:Hp}{h h1 h2 h':Heap}{a x e:Addr}{o:HO}
theorem Un.any (u:Un fs ex H H1 h h1){b:Addr}{ob:Obj}(q:h.get? b=some ob)(n:H b=none)(hx:b∉ex):∃sl,h1.get? b=some { ob with slots:=sl }:=by
 by_cases hb:b∈fs
 ·exact u.slot b ob q n hb hx
 ·exact ⟨ob.slots,u.keep b ob q n hb hx⟩
theorem Un.kept (k:∀b u,h.get? b=some u->h'.get? b=some u):Un fs ex H H h h':=
 ⟨λb ob q _ _ _=>k b ob q,λb ob q _ _ _=>⟨ob.slots,k b ob q⟩,λ_ _ _ n _=>n,λb ob q _=>⟨ob,k b ob q⟩,λ_ _ q=>q,λ_ _ _ q=>q,λ_ ps q=>⟨#[],by rw [q];simp⟩⟩
theorem Un.refl:Un fs ex H H h h:=Un.kept λ_ _ q=>q
theorem Un.laid (k:∀b u,h.get? b=some u->h'.get? b=some u)(hp:h.objs.size<=a)(hn:H a=none):Un fs ex H (upd H a o) h h' where
 keep:=λb u q _ _ _=>k b u q
 slot:=λb u q _ _ _=>⟨u.slots,k b u q⟩
 free:=λb u q n _=>by rw [bc (Nat.ne_of_lt (Nat.lt_of_lt_of_le (Heap.lt_size q) hp))];exact n
 there:=λb u q _=>⟨u,k b u q⟩
 tups:=λb xs q=>by rw [bc (jy q hn)];exact q
 frzs:=λb u xs q=>by rw [bc (jy q hn)];exact q
 tbls:=λb ps q=>⟨#[],by rw [bc (jy q hn),q];simp⟩
theorem Un.write (mu:Mut (H x))(he:e=x\/H e=some (.own x))(k:∀b u,b≠e->h.get? b=some u->h'.get? b=some u)(heo:∃u,h'.get? e=some u):Un fs ex H (upd H x o) h h':=by
 have hx:∀b,H b=none->b≠x:=λb n z=>by subst z;rw [n] at mu;exact mu
 have hb:∀b,H b=none->b≠e:=λb n z=>by
  subst z;rcases he with r | r
  ·exact hx b n r
  ·rw [n] at r;cases r
 have hm:∀b u,H b=some u->¬Mut (some u)->b≠x:=λb u q nm z=>by subst z;rw [q] at mu;exact nm mu
 refine ⟨λb u q n _ _=>k b u (hb b n) q,λb u q n _ _=>⟨u.slots,k b u (hb b n) q⟩,λb u q n _=>by rw [bc (hx b n)];exact n,λb u q _=>?_,
  λb xs q=>by rw [bc (hm b _ q λz=>z)];exact q,λb u xs q=>by rw [bc (hm b _ q λz=>z)];exact q,λb ps q=>⟨#[],by rw [bc (hm b _ q λz=>z),q];simp⟩⟩
 by_cases hbe:b=e
 ·subst hbe;exact heo
 ·exact ⟨u,k b u hbe q⟩
end
def trk (h:Heap)(H:Hp):List Addr:=(List.range h.objs.size).filter λa=>(H a).isSome
def Cq (h:Heap)(H:Hp):Heap:=W.hideAll h (trk h H)
theorem Nj (h:Heap)(H:Hp):(Cq h H).objs.size=h.objs.size:=W.hideAll_size _ _
theorem Qm {h:Heap}{H:Hp}{b:Addr}{o:Obj}(e:h.get? b=some o)(n:H b=none):(Cq h H).get? b=some o:=
 W.hideAll_get _ e λhm=>by
  have q:(H b).isSome=true:=(List.mem_filter.mp hm).2;rw [n] at q;simp at q
theorem Ub {h:Heap}{H:Hp}{b:Addr}{o:Obj}(e:(Cq h H).get? b=some o):h.get? b=some o/\H b=none:=by
 have e':h.get? b=some o:=W.of_hideAll (trk h H) e;refine ⟨e',?_⟩;cases q:H b with
 |none=>rfl
 |some x=>
  have hm:b∈trk h H:=List.mem_filter.mpr ⟨List.mem_range.mpr (Heap.lt_size e'),by simp [q]⟩;have z:(Cq h H).get? b=none:=W.hideAll_none (trk h H) hm;rw [z] at e;cases e
structure Mod (K:W.Frag)(mg:Zp)(base:Heap):Prop where
 kin:K.In base
 glob:base.Ns mainGlobals mg
 blt:∃mb,base.Ns builtinsNs mb/\∀x:Str,x≠"__name__"->mb x=bootBuiltins x
 nolimit:base.NoLimit
structure Cx where
 prog:Program
 w:World
 K:W.Frag
 mg:Zp
 base:Heap
 A:Around
 N:List Str
 s₀:Shared
 H₀:Hp
 env:Env
 outer:List Env
 stack:List Env
 ex:List Addr
 fn:Str->Bool
 calm:Bool
 pn:Zl
 xe:Zs
def frs (l:List Env):List Addr:=l.filterMap (·.frame)
abbrev Cx.fs (X:Cx):List Addr:=frs X.outer
def Vis (sc:Scope)(x:Str):Prop:=sc.names.lookup x=some .local\/sc.names.lookup x=some .cell\/sc.names.lookup x=some .free
def Loc (sc:Scope)(x:Str):Prop:=sc.names.lookup x=some .local\/sc.names.lookup x=some .cell
def Look (env:Env)(h:Heap)(m:Zp)(x:Str)(u:Value):Prop:=
 (env.kindOf x=some .local/\m x=some u)\/((env.kindOf x=some .cell\/env.kindOf x=some .free)/\∃c,env.cells.lookup x=some c/\h.IsCell c (some u))
structure Cx.Ok (X:Cx):Prop where
 mod:Mod X.K X.mg X.base
 kind:X.env.scope.kind=.function
 glob:X.env.globals=mainGlobals
 blt:X.env.builtins=builtinsNs
 above:X.s₀.heap.objs.size<=X.env.locals
 inj:∀x y c,X.env.cells.lookup x=some c->X.env.cells.lookup y=some c->x=y
 has:∀x,(X.env.kindOf x=some .cell\/X.env.kindOf x=some .free)->∃c,X.env.cells.lookup x=some c
 cab:∀x c,X.fn x=true->X.env.cells.lookup x=some c->X.s₀.heap.objs.size<=c
 hd:X.calm=true->X.A.handled=none
 frames:X.A.frames=some X.stack
 stk:X.stack=X.outer\/(X.stack=X.env::X.outer/\X.env.frame=some X.env.locals)
 exf:∀b∈X.ex,b≠X.env.locals/\∀x c,X.env.cells.lookup x=some c->c≠b
 bs:∀b o,X.base.get? b=some o->X.s₀.heap.get? b=some o/\X.H₀ b=none
 bsz:X.base.objs.size<=X.s₀.heap.objs.size
 noex:∀b o,X.base.get? b=some o->b∉X.ex
 exfs:∀b∈X.ex,b∉X.fs
 yL:X.s₀.heap.FunFrames X.base X.outer
 frf:∀b∈X.fs,X.H₀ b=none
structure Inv (X:Cx)(pins:Zl)(σ:List (Option V))(H:Hp)(s:Shared):Prop where
 ok:X.Ok
 os:s.os=X.s₀.os
 bare:AllBare s.gens
 base:Un X.fs X.ex X.H₀ H X.s₀.heap s.heap
 loc:∃m,s.heap.Ns X.env.locals m/\∀(i:Nat) (x:Str) (v:V),X.N[i]? = some x->σ[i]? = some (some v)->Vis X.env.scope x->∃u,RelV v u/\Look X.env s.heap m x u
 cell:∀x c,X.env.cells.lookup x=some c->∃v,s.heap.IsCell c v
 free:H X.env.locals=none
 freeC:∀x c,X.env.cells.lookup x=some c->H c=none
 pin:∀p∈X.pn++pins,s.heap.get? p.1=some p.2/\H p.1=none/\p.1≠X.env.locals/\p.1∉X.fs/\∀v,p.2.data≠.cell v
 hok:HOk X.prog X.w H s.heap
 len:σ.length=X.N.length
section
variable {X:Cx}{pins:Zl}{σ:List (Option V)}{H H':Hp}{s:Shared}{h':Heap}
theorem Cx.Ok.abC (ok:X.Ok){b:Addr}{o:Obj}(e:X.base.get? b=some o):b∉X.fs:=λhb=>by
 have:=(ok.yL.mem hb).1
 rw [e] at this;cases this
theorem Inv.bs (I:Inv X pins σ H s):∀b o,X.base.get? b=some o->s.heap.get? b=some o/\H b=none:=λb o e=>
 ⟨I.base.keep b o (I.ok.bs b o e).1 (I.ok.bs b o e).2 (I.ok.abC e) (I.ok.noex b o e),I.base.free b o (I.ok.bs b o e).1 (I.ok.bs b o e).2 (I.ok.noex b o e)⟩
theorem Inv.bk (I:Inv X pins σ H s):∀b o,X.base.get? b=some o->s.heap.get? b=some o:=λb o e=>(I.bs b o e).1
theorem Inv.mod (I:Inv X pins σ H s):Mod X.K X.mg X.base:=I.ok.mod
theorem Inv.kIn (I:Inv X pins σ H s):X.K.In s.heap:=I.ok.mod.kin.keeps I.bk
theorem Inv.fr (I:Inv X pins σ H s):∃m,Fr X.base X.env.locals s.heap m:=
 let ⟨m,hn,_⟩:=I.loc
 ⟨m,hn,I.bk,Nat.le_trans I.ok.bsz I.ok.above⟩
theorem Inv.lt (I:Inv X pins σ H s):X.env.locals<s.heap.objs.size:=let ⟨_,hn,_⟩:=I.loc;hn.lt
theorem Inv.sz (I:Inv X pins σ H s):X.s₀.heap.objs.size<=s.heap.objs.size:=Nat.le_trans I.ok.above (Nat.le_of_lt I.lt)
theorem Inv.abx (I:Inv X pins σ H s){a:Addr}(h:s.heap.objs.size<=a):a∉X.fs:=λhb=>by
 obtain ⟨_,o,ho,_⟩:=I.ok.yL.mem hb;exact absurd (Nat.lt_of_lt_of_le (Heap.lt_size ho) (Nat.le_trans I.sz h)) (Nat.lt_irrefl _)
theorem Inv.cne (I:Inv X pins σ H s):∀x c,X.env.cells.lookup x=some c->c≠X.env.locals:=λx c e z=>by
 obtain ⟨v,o,ho,hd⟩:=I.cell x c e;obtain ⟨m,⟨o',es,ep,ho',hd',_⟩,_⟩:=I.loc;rw [z,ho'] at ho;cases ho;rw [hd'] at hd;cases hd
theorem Inv.yL (I:Inv X pins σ H s):s.heap.FunFrames X.base X.outer:=by
 have all:∀(l:List Env),(∀b∈frs l,b∈X.fs)->X.s₀.heap.FunFrames X.base l->s.heap.FunFrames X.base l:=by
  intro l;induction l with
  |nil=>intro _ _;trivial
  |cons env r ih=>
   intro hs hl;obtain ⟨hk,⟨L,o,hf,hn,ho,hd⟩,hr⟩:=hl;have hL:L∈X.fs:=hs L (by unfold frs;rw [List.filterMap_cons,hf];exact List.mem_cons_self);obtain ⟨sl,e⟩:=I.base.slot L o ho (I.ok.frf L hL) hL λz=>I.ok.exfs L z hL;exact ⟨hk,⟨L,_,hf,hn,e,hd⟩,ih (λb hb=>hs b (by unfold frs;rw [List.filterMap_cons,hf];exact List.mem_cons_of_mem _ hb)) hr⟩
 exact all X.outer (λ_ hb=>hb) I.ok.yL
theorem Inv.stack (I:Inv X pins σ H s):s.heap.FunFrames X.base X.stack:=by
 rcases I.ok.stk with e | ⟨e,hf⟩
 ·rw [e];exact I.yL
 ·rw [e];obtain ⟨m,hn,_⟩:=I.loc;refine .cons (by rw [I.ok.kind];decide) hf hn ?_ I.yL;exact Heap.get?_none_of_le (Nat.le_trans I.ok.bsz I.ok.above)
theorem Inv.Ea (I:Inv X pins σ H s):∀b∈frs X.stack,b∈X.env.locals::X.fs:=λb hb=>by
 rcases I.ok.stk with e | ⟨e,hf⟩
 ·rw [e] at hb;exact List.mem_cons_of_mem _ hb
 ·rw [e] at hb;unfold frs at hb;rw [List.filterMap_cons,hf] at hb;exact hb
theorem Inv.Kf (I:Inv X pins σ H s):∀b∈frs X.stack,H b=none:=λb hb=>by
 rcases List.mem_cons.mp (I.Ea b hb) with e | hb
 ·rw [e];exact I.free
 ·obtain ⟨_,o,ho,_⟩:=I.ok.yL.mem hb;exact I.base.free b o ho (I.ok.frf b hb) λz=>I.ok.exfs b z hb
theorem Inv.step {g':Array GenState}{t':Nat}{d':Drawn}{ch:List Addr}(I:Inv X pins σ H s)
  (hch:∀b∈ch,(b∈X.ex\/X.s₀.heap.objs.size<=b)/\b≠X.env.locals/\(∀x c,X.env.cells.lookup x=some c->c≠b)/\∀p∈X.pn++pins,p.1≠b)
  (keep:∀b o,b≠X.env.locals->b∉X.fs->b∉ch->s.heap.get? b=some o->H b=none->h'.get? b=some o)
  (slot:∀b o,b≠X.env.locals->b∈X.fs->b∉ch->s.heap.get? b=some o->H b=none->∃sl,h'.get? b=some { o with slots:=sl }) (free:∀b o,b∉ch->s.heap.get? b=some o->H b=none->H' b=none)
  (there:∀b o,b∉ch->s.heap.get? b=some o->∃o',h'.get? b=some o')
  (tups:∀b xs,H b=some (.tup xs)->H' b=some (.tup xs)) (frzs:∀b o u,H b=some (.frz o u)->H' b=some (.frz o u)) (tbls:∀b ps,H b=some (.tbl ps)->∃more,H' b=some (.tbl (ps++more)))
  (ns:∀m,s.heap.Ns X.env.locals m->h'.Ns X.env.locals m) (hok:HOk X.prog X.w H' h') (hg:AllBare g'):
  Inv X pins σ H' { s with heap:=h',gens:=g',drawn:=d',toks:=t' }:=by
 have neL:∀b o,X.s₀.heap.get? b=some o->b≠X.env.locals:=λb o e=>Nat.ne_of_lt (Nat.lt_of_lt_of_le (Heap.lt_size e) I.ok.above);have neC:∀b o,X.s₀.heap.get? b=some o->b∉X.ex->b∉ch:=λb o e hx hb=>by
  rcases (hch b hb).1 with z | z
  ·exact hx z
  ·exact absurd (Nat.lt_of_lt_of_le (Heap.lt_size e) z) (Nat.lt_irrefl _)
 have cellK:∀x c,X.env.cells.lookup x=some c->∀v,s.heap.IsCell c v->h'.IsCell c v:=λx c e v ⟨o,ho,hd⟩=>by
  have nch:c∉ch:=λz=>(hch c z).2.2.1 x c e rfl;by_cases hc:c∈X.fs
  ·obtain ⟨sl,q⟩:=slot c o (I.cne x c e) hc nch ho (I.freeC x c e);exact ⟨_,q,hd⟩
  ·exact ⟨o,keep c o (I.cne x c e) hc nch ho (I.freeC x c e),hd⟩
 refine ⟨I.ok,I.os,hg,⟨λb o e n hb hx=>?_,λb o e n hb hx=>?_,λb o e n hx=>?_,λb o e hx=>?_,λb xs e=>tups b xs (I.base.tups b xs e),λb o xs e=>frzs b o xs (I.base.frzs b o xs e),λb ps e=>?_⟩,?_,λx c e=>?_,?_,λx c e=>?_,λp hp=>?_,hok,I.len⟩
 ·exact keep b o (neL b o e) hb (neC b o e hx) (I.base.keep b o e n hb hx) (I.base.free b o e n hx)
 ·obtain ⟨sl,e1⟩:=I.base.slot b o e n hb hx;obtain ⟨sl',e2⟩:=slot b _ (neL b o e) hb (neC b o e hx) e1 (I.base.free b o e n hx);exact ⟨sl',e2⟩
 ·obtain ⟨o',e1⟩:=I.base.there b o e hx;exact free b o' (neC b o e hx) e1 (I.base.free b o e n hx)
 ·obtain ⟨o',e1⟩:=I.base.there b o e hx;exact there b o' (neC b o e hx) e1
 ·obtain ⟨m1,e1⟩:=I.base.tbls b ps e;obtain ⟨m2,e2⟩:=tbls b _ e1;exact ⟨m1++m2,by rw [e2,Array.append_assoc]⟩
 ·obtain ⟨m,hn,hl⟩:=I.loc;refine ⟨m,ns m hn,λi x v e1 e2 e3=>?_⟩;obtain ⟨u,r,l⟩:=hl i x v e1 e2 e3;refine ⟨u,r,?_⟩;rcases l with l | ⟨k,c,e,z⟩
  ·exact .inl l
  ·exact .inr ⟨k,c,e,cellK x c e _ z⟩
 ·obtain ⟨v,z⟩:=I.cell x c e;exact ⟨v,cellK x c e v z⟩
 ·obtain ⟨m,⟨o,_,_,ho,_⟩,_⟩:=I.loc;exact free _ o (λz=>(hch _ z).2.1 rfl) ho I.free
 ·obtain ⟨v,o,ho,hd⟩:=I.cell x c e;exact free c o (λz=>(hch c z).2.2.1 x c e rfl) ho (I.freeC x c e)
 ·obtain ⟨e,n,ne,nf,d⟩:=I.pin p hp;have nch:p.1∉ch:=λz=>(hch p.1 z).2.2.2 p hp rfl;exact ⟨keep p.1 p.2 ne nf nch e n,free p.1 p.2 nch e n,ne,nf,d⟩
theorem Inv.un {t':Nat}(I:Inv X pins σ H s)(u:Un X.fs [] H H' s.heap h')(hok:HOk X.prog X.w H' h'):Inv X pins σ H' { s with heap:=h',toks:=t' }:=by
 obtain ⟨m,⟨o,es,ep,ho,r⟩,_⟩:=id I.loc;obtain ⟨sl,hL⟩:=u.any ho I.free (by simp);exact I.step (g':=s.gens) (d':=s.drawn) (ch:=[]) (λ_ z=>nomatch z) (λb o _ hb _ e n=>u.keep b o e n hb (by simp)) (λb o _ hb _ e n=>u.slot b o e n hb (by simp)) (λb o _ e n=>u.free b o e n (by simp)) (λb o _ e=>u.there b o e (by simp)) u.tups u.frzs u.tbls (λm' hm=>by
  obtain ⟨o',es',ep',ho',r'⟩:=hm;rw [ho] at ho';cases ho';exact ⟨_,es',ep',hL,r'⟩) hok I.bare
theorem Inv.call {g':Array GenState}{t':Nat}{d':Drawn}{ch:List Addr}(I:Inv X pins σ H s)(u:Un (frs X.stack) ch H H' s.heap h')(hok:HOk X.prog X.w H' h')(hg:AllBare g')
  (hch:∀b∈ch,(b∈X.ex\/X.s₀.heap.objs.size<=b)/\b≠X.env.locals/\(∀x c,X.env.cells.lookup x=some c->c≠b)/\∀p∈X.pn++pins,p.1≠b):
  Inv X pins σ H' { s with heap:=h',gens:=g',drawn:=d',toks:=t' }:=by
 obtain ⟨m,⟨o,es,ep,ho,r⟩,_⟩:=id I.loc;obtain ⟨sl,hL⟩:=u.any ho I.free λz=>(hch _ z).2.1 rfl;exact I.step (ch:=ch) hch (λb o hL hb hc e n=>u.keep b o e n (λz=>(List.mem_cons.mp (I.Ea b z)).elim hL hb) hc) (λb o _ _ hc e n=>u.any e n hc) (λb o hc e n=>u.free b o e n hc) (λb o hc e=>u.there b o e hc) u.tups u.frzs u.tbls (λm' hm=>by
  obtain ⟨o',es',ep',ho',r'⟩:=hm;rw [ho] at ho';cases ho';exact ⟨_,es',ep',hL,r'⟩) hok hg
theorem Inv.turned {t':Nat}{it:Addr}(I:Inv X pins σ H s)(k:∀b o,b≠it->s.heap.get? b=some o->h'.get? b=some o)(hn:H it=none)(hL:it≠X.env.locals)
  (h1:it∈X.ex\/X.s₀.heap.objs.size<=it) (h2:∀x c,X.env.cells.lookup x=some c->c≠it) (h3:∀p∈X.pn++pins,p.1≠it):Inv X pins σ H { s with heap:=h',toks:=t' }:=by
 have nit:∀b u,H b=some u->b≠it:=λb u e z=>by rw [z,hn] at e;cases e
 refine I.step (g':=s.gens) (d':=s.drawn) (ch:=[it]) (λb hb=>?_) (λb o _ _ hc e _=>k b o (λz=>hc (by simp [z])) e) (λb o _ _ hc e _=>⟨o.slots,k b o (λz=>hc (by simp [z])) e⟩) (λ_ _ _ _ n=>n)
  (λb o hc e=>⟨o,k b o (λz=>hc (by simp [z])) e⟩) (λ_ _ e=>e) (λ_ _ _ e=>e) (λb ps e=>⟨#[],by rw [e];simp⟩) (λm hm=>?_) (λb u e=>?_) I.bare
 ·have e:b=it:=by simpa using hb
  subst e;exact ⟨h1,hL,h2,h3⟩
 ·obtain ⟨o,es,ep,ho,r⟩:=hm;exact ⟨o,es,ep,k _ o (Ne.symm hL) ho,r⟩
 ·refine (I.hok b u e).stay (λc v hc q=>k c v ?_ q) (λ_ q=>q) λ_ _ q=>q;rcases hc with z | z
  ·rw [z];exact nit b u e
  ·exact nit c _ z
theorem Inv.tok (I:Inv X pins σ H s)(t:Nat):Inv X pins σ H { s with toks:=t }:=I.un (h':=s.heap) (t':=t) Un.refl I.hok
theorem Inv.kept {t':Nat}(I:Inv X pins σ H s)(k:∀b u,s.heap.get? b=some u->h'.get? b=some u):Inv X pins σ H { s with heap:=h',toks:=t' }:=I.un (Un.kept k) (I.hok.kept k)
theorem Inv.laid {a:Addr}{o:HO}{t':Nat}(I:Inv X pins σ H s)(k:∀b u,s.heap.get? b=some u->h'.get? b=some u)(hp:s.heap.objs.size<=a)(new:cD X.prog X.w (upd H a o) h' a o):
  Inv X pins σ (upd H a o) { s with heap:=h',toks:=t' }:=I.un (Un.laid k hp (I.hok.fresh hp)) (I.hok.laid k hp new)
theorem Inv.write {x e:Addr}{o:HO}{t':Nat}(I:Inv X pins σ H s)(mu:Mut (H x))(he:e=x\/H e=some (.own x))(k:∀b u,b≠e->s.heap.get? b=some u->h'.get? b=some u)(heo:∃u,h'.get? e=some u)
  (new:cD X.prog X.w (upd H x o) h' x o):Inv X pins σ (upd H x o) { s with heap:=h',toks:=t' }:=I.un (Un.write mu he k heo) (I.hok.write mu he k heo new)
theorem Inv.weak {σ':List (Option V)}(I:Inv X pins σ H s)(hl:σ'.length=σ.length)(w:∀(i:Nat) v,σ'[i]? = some (some v)->σ[i]? = some (some v)):Inv X pins σ' H s:=
 ⟨I.ok,I.os,I.bare,I.base,let ⟨m,hn,hl'⟩:=I.loc;⟨m,hn,λi x v e1 e2 e3=>hl' i x v e1 (w i v e2) e3⟩,I.cell,I.free,I.freeC,I.pin,I.hok,hl.trans I.len⟩
theorem Inv.K4 {pins':Zl}(I:Inv X pins σ H s)(h:∀p∈pins',s.heap.get? p.1=some p.2/\H p.1=none/\p.1≠X.env.locals/\p.1∉X.fs/\∀v,p.2.data≠.cell v):Inv X pins' σ H s:=
 ⟨I.ok,I.os,I.bare,I.base,I.loc,I.cell,I.free,I.freeC,λp hp=>(List.mem_append.mp hp).elim (λz=>I.pin p (List.mem_append_left _ z)) (h p),I.hok,I.len⟩
theorem Ha {N:List Str}(hN:N.Nodup){i j:Nat}{x:Str}(a:N[i]? = some x)(b:N[j]? = some x):i=j:=by
 obtain ⟨h1,e1⟩:=List.getElem?_eq_some_iff.mp a;obtain ⟨h2,e2⟩:=List.getElem?_eq_some_iff.mp b;exact (List.getElem_inj hN).mp (e1.trans e2.symm)
theorem Bl {M:Model}{A:Around}{E:Zs}{i:Nat}{x:Str}{v:V}{u:Value}{Q:Unit->Shared->Prop}(I:Inv X pins σ H s)(hN:X.N.Nodup)(hi:X.N[i]? = some x)(hx:Loc X.env.scope x)(r:RelV v u)
  (h:∀s',Inv X pins (σ.set i (some v)) H s'->(∃a,Heap.SameBut a s.heap s'.heap/\(a=X.env.locals\/X.env.cells.lookup x=some a))->Q () s') (hf:X.fn x=true\/X.env.scope.names.lookup x=some .local:=by first | exact .inl rfl | exact .inr rfl | assumption):wpAny M A (storeName X.env x u) Q E s:=by
 obtain ⟨m,hn,hl⟩:=id I.loc;have hcls:(X.env.scope.kind == .class || (X.env.scope.kind == .module && X.env.locals != X.env.globals))=false:=by rw [I.ok.kind];rfl
 have hiσ:i<σ.length:=by rw [I.len];exact (List.getElem?_eq_some_iff.mp hi).1
 have cne:=I.cne;have tracked:∀{a:Addr} {h':Heap},(∃o,s.heap.get? a=some o/\H a=none)->Heap.SameBut a s.heap h'->HOk X.prog X.w H h':=λ{a h'} ha hs b ob e=>by
  obtain ⟨_,_,hfree⟩:=ha;refine (I.hok b ob e).stay (λc w' hc q=>(hs.2 c ?_).trans q) (λ_ q=>q) λ_ _ q=>q;rintro rfl;rcases hc with rfl | hc
  ·rw [hfree] at e;cases e
  ·rw [hfree] at hc;cases hc
 rcases hx with hk | hk
 ·refine wpAny_storeName_local hk hn (λh' hn' hs=>?_) hcls;obtain ⟨oL,_,_,hoL,_⟩:=id hn;refine h _ ⟨I.ok,I.os,I.bare,⟨λb o e n hb hx=>?_,λb o e n hb hx=>?_,I.base.free,λb o e hx=>?_,I.base.tups,I.base.frzs,I.base.tbls⟩,⟨_,hn',λj y v' e1 e2 e3=>?_⟩,λy c e=>?_,I.free,I.freeC,λp hp=>?_,tracked ⟨oL,hoL,I.free⟩ hs,by simpa using I.len⟩ ⟨_,hs,.inl rfl⟩
  ·exact (hs.2 b (Nat.ne_of_lt (Nat.lt_of_lt_of_le (Heap.lt_size e) I.ok.above))).trans (I.base.keep b o e n hb hx)
  ·obtain ⟨sl,e1⟩:=I.base.slot b o e n hb hx;exact ⟨sl,(hs.2 b (Nat.ne_of_lt (Nat.lt_of_lt_of_le (Heap.lt_size e) I.ok.above))).trans e1⟩
  ·obtain ⟨o',e1⟩:=I.base.there b o e hx;exact ⟨o',(hs.2 b (Nat.ne_of_lt (Nat.lt_of_lt_of_le (Heap.lt_size e) I.ok.above))).trans e1⟩
  ·by_cases hj:j=i
   ·subst hj;rw [hi] at e1;cases e1;rw [List.getElem?_set_self hiσ] at e2;cases e2;exact ⟨u,r,.inl ⟨hk,by simp⟩⟩
   ·rw [List.getElem?_set_ne (Ne.symm hj)] at e2;obtain ⟨u',r',q⟩:=hl j y v' e1 e2 e3;refine ⟨u',r',?_⟩;rcases q with ⟨k,e⟩ | ⟨k,c,e,z⟩
    ·refine .inl ⟨k,?_⟩
     have:y≠x:=λe=>hj (Ha hN e1 (e ▸ hi))
     simp [this,e]
    ·exact .inr ⟨k,c,e,z.sameBut hs (cne y c e)⟩
  ·obtain ⟨w',z⟩:=I.cell y c e;exact ⟨w',z.sameBut hs (cne y c e)⟩
  ·obtain ⟨e,n,ne,nf,d⟩:=I.pin p hp;exact ⟨(hs.2 p.1 ne).trans e,n,ne,nf,d⟩
 ·have hfn:X.fn x=true:=by
   rcases hf with z | z
   ·exact z
   ·rw [z] at hk;cases hk
  obtain ⟨c,hc⟩:=I.ok.has x (.inl hk);obtain ⟨w',z⟩:=I.cell x c hc;refine wpAny_storeName_cell I.ok.kind hk hc z (λh' hc' hs=>?_);obtain ⟨oc,hoc,hocd⟩:=id z;refine h { s with heap:=h' } ⟨I.ok,I.os,I.bare,⟨λb o e n hb hx=>?_,λb o e n hb hx=>?_,I.base.free,λb o e hx=>?_,I.base.tups,I.base.frzs,I.base.tbls⟩,⟨m,hn.sameBut hs (Ne.symm (cne x c hc)),λj y v' e1 e2 e3=>?_⟩,λy c' e=>?_,I.free,I.freeC,λp hp=>?_,tracked ⟨oc,hoc,I.freeC x c hc⟩ hs,by simpa using I.len⟩ ⟨c,hs,.inr hc⟩
  ·exact (hs.2 b (Nat.ne_of_lt (Nat.lt_of_lt_of_le (Heap.lt_size e) (I.ok.cab x c hfn hc)))).trans (I.base.keep b o e n hb hx)
  ·obtain ⟨sl,e1⟩:=I.base.slot b o e n hb hx;exact ⟨sl,(hs.2 b (Nat.ne_of_lt (Nat.lt_of_lt_of_le (Heap.lt_size e) (I.ok.cab x c hfn hc)))).trans e1⟩
  ·obtain ⟨o',e1⟩:=I.base.there b o e hx;exact ⟨o',(hs.2 b (Nat.ne_of_lt (Nat.lt_of_lt_of_le (Heap.lt_size e) (I.ok.cab x c hfn hc)))).trans e1⟩
  ·by_cases hj:j=i
   ·subst hj;rw [hi] at e1;cases e1;rw [List.getElem?_set_self hiσ] at e2;cases e2;exact ⟨u,r,.inr ⟨.inl hk,c,hc,hc'⟩⟩
   ·rw [List.getElem?_set_ne (Ne.symm hj)] at e2;obtain ⟨u',r',q⟩:=hl j y v' e1 e2 e3;refine ⟨u',r',?_⟩;rcases q with q | ⟨k,c',e,z'⟩
    ·exact .inl q
    ·refine .inr ⟨k,c',e,z'.sameBut hs ?_⟩;rintro rfl;exact hj (Ha hN e1 (I.ok.inj _ _ _ e hc ▸ hi))
  ·by_cases hcc:c'=c
   ·subst hcc;exact ⟨_,hc'⟩
   ·obtain ⟨w2,z2⟩:=I.cell y c' e;exact ⟨w2,z2.sameBut hs hcc⟩
  ·obtain ⟨e,n,ne,nf,d⟩:=I.pin p hp;refine ⟨(hs.2 p.1 ?_).trans e,n,ne,nf,d⟩;intro q;rw [q,hoc] at e;have q':oc=p.2:=Option.some.inj e;exact d w' (by rw [← q'];exact hocd)
theorem Hx {M:Model}{A:Around}{E:Zs}{i:Nat}{x:Str}{v:V}{u:Value}{Q:Unit->Shared->Prop}(I:Inv X pins σ H s)(hN:X.N.Nodup)(hi:X.N[i]? = some x)(hx:Loc X.env.scope x)(r:RelV v u)
  (h:∀s',Inv X pins (σ.set i (some v)) H s'->Q () s') (hf:X.fn x=true\/X.env.scope.names.lookup x=some .local:=by first | exact .inl rfl | exact .inr rfl | assumption):wpAny M A (storeName X.env x u) Q E s:=
 Bl I hN hi hx r (λs' I' _=>h s' I') hf
theorem Inv.call' {s':Shared}{ch:List Addr}(I:Inv X pins σ H s)(ho:s'.os=s.os)(u:Un (frs X.stack) ch H H' s.heap s'.heap)(hok:HOk X.prog X.w H' s'.heap)(hg:AllBare s'.gens)
  (hch:∀b∈ch,(b∈X.ex\/X.s₀.heap.objs.size<=b)/\b≠X.env.locals/\(∀x c,X.env.cells.lookup x=some c->c≠b)/\∀p∈X.pn++pins,p.1≠b):Inv X pins σ H' s':=by
 obtain ⟨h',g',d',t',o'⟩:=s';have e:o'=s.os:=ho;subst e;exact I.call (g':=g') (t':=t') (d':=d') u hok hg hch
end
abbrev XK:=Value->Option Addr->Hp->Prop
abbrev St:=List (Option V)
abbrev VK:=V->Hp->Prop
abbrev TE:=St->Hp->VK->Prop
abbrev TT:=St->Hp->(Bool->Hp->Prop)->Prop
abbrev TA:=St->Hp->(List V->Hp->Prop)->Prop
structure Ends where
 nx:St->Hp->Prop
 rt:VK
 bk:St->Hp->Prop:=λ_ _=>False
 ct:St->Hp->Prop:=λ_ _=>False
abbrev TS:=Ends->St->Hp->Prop
def EP (X:Cx)(pins:Zl)(σ:St)(Q:VK)(u:Value)(s':Shared):Prop:=∃v H',Inv X pins σ H' s'/\RelV v u/\Q v H'
def TP (X:Cx)(pins:Zl)(σ:St)(Q:Bool->Hp->Prop)(b:Bool)(s':Shared):Prop:=∃H',Inv X pins σ H' s'/\Q b H'
def AP (X:Cx)(pins:Zl)(σ:St)(Q:List V->Hp->Prop)(us:List Value)(s':Shared):Prop:=∃vs H',Inv X pins σ H' s'/\Vals vs us/\Q vs H'
def SP (X:Cx)(pins:Zl)(D:Ends)(f:Flow)(s':Shared):Prop:=
 match f with
 | .next=>∃σ' H',Inv X pins σ' H' s'/\D.nx σ' H'
 | .brk=>∃σ' H',Inv X pins σ' H' s'/\D.bk σ' H'
 | .cont=>∃σ' H',Inv X pins σ' H' s'/\D.ct σ' H'
 | .ret u=>∃v σ' H',Inv X pins σ' H' s'/\RelV v u/\D.rt v H'
def PE (X:Cx)(e:Expr)(t:TE):Prop:=
 ∀(pins:Zl) (s:Shared) (σ:St) (H:Hp) (Q:VK),Inv X pins σ H s->t σ H Q->wpAny (model X.prog X.w) X.A (eval e X.env) (EP X pins σ Q) X.xe s
def PT (X:Cx)(e:Expr)(t:TT):Prop:=
 ∀(pins:Zl) (s:Shared) (σ:St) (H:Hp) (Q:Bool->Hp->Prop),Inv X pins σ H s->t σ H Q->wpAny (model X.prog X.w) X.A (isTrue e X.env (eval e X.env)) (TP X pins σ Q) X.xe s
def PW (X:Cx)(e:Expr)(t:TT):Prop:=
 ∀(whole:Sem Value) (pins:Zl) (s:Shared) (σ:St) (H:Hp) (Q:Bool->Hp->Prop),Inv X pins σ H s->t σ H Q->wpAny (model X.prog X.w) X.A (isTrue e X.env whole) (TP X pins σ Q) X.xe s
theorem PW.pt {X:Cx}{e:Expr}{t:TT}(h:PW X e t):PT X e t:=h _
def PA (X:Cx)(es:List Expr)(t:TA):Prop:=
 ∀(pos:Pos) (pins:Zl) (s:Shared) (σ:St) (H:Hp) (Q:List V->Hp->Prop),Inv X pins σ H s->t σ H Q->wpAny (model X.prog X.w) X.A (spliced (backTo pos (starEach es X.env))) (AP X pins σ Q) X.xe s
def PS (X:Cx)(st:Stmt)(t:TS):Prop:=
 ∀(pins:Zl) (s:Shared) (σ:St) (H:Hp) (D:Ends),Inv X pins σ H s->t D σ H->wpAny (model X.prog X.w) X.A (exec st X.env) (SP X pins D) X.xe s
def PSs (X:Cx)(st:List Stmt)(t:TS):Prop:=
 ∀(pins:Zl) (s:Shared) (σ:St) (H:Hp) (D:Ends),Inv X pins σ H s->t D σ H->wpAny (model X.prog X.w) X.A (execs st X.env) (SP X pins D) X.xe s
theorem thn {α:Type}{t:Sem α}{Q Q':α->Shared->Prop}{M:Model}{A:Around}{E:Zs}{s:Shared}(h:wpAny M A t Q E s)(hQ:∀a s,Q a s->Q' a s):wpAny M A t Q' E s:=wpAny_mono h hQ λ_ _ x=>x
section
variable {X:Cx}
theorem bin {a b:Expr}{ta tb:TE}(ha:PE X a ta)(hb:PE X b tb){pins:Zl}{s:Shared}{σ:St}{H:Hp}{R:V->V->Hp->Prop}(I:Inv X pins σ H s)(h:ta σ H λx H1=>tb σ H1 λy H2=>R x y H2)
  {α:Type} {Q:α->Shared->Prop} {f:Value->Value->Sem α}
  (hf:∀v u s2 x y H2,Inv X pins σ H2 s2->RelV x v->RelV y u->R x y H2->wpAny (model X.prog X.w) X.A (f v u) Q X.xe s2):
  wpAny (model X.prog X.w) X.A (eval a X.env) (λv s₁=>wpAny (model X.prog X.w) X.A (eval b X.env) (λu s₂=>wpAny (model X.prog X.w) X.A (f v u) Q X.xe s₂) X.xe s₁) X.xe s:=by
 refine thn (ha pins s σ H _ I h) λv s1 hE=>xq2 hE λx H1 I1 r1 q1=>?_;refine thn (hb pins s1 σ H1 _ I1 q1) λu s2 hE=>xq2 hE λy H2 I2 r2 q2=>?_;exact hf v u s2 x y H2 I2 r1 r2 q2
def aa3 (i:Nat):TE:=λσ H Q=>∃v,σ[i]? = some (some v)/\Q v H
def tC (v:V):TE:=λ_ H Q=>Q v H
theorem oh {i:Nat}{x:Str}{pos:Pos}(hN:X.N[i]? = some x)(hv:Vis X.env.scope x)(hd:(x == ("__debug__" : Str))=false:=by decide)(hcd:(x == ("__classdict__" : Str))=false:=by decide):PE X (.Name x pos) (aa3 i):=by
 intro pins s σ H Q I h;obtain ⟨v,e,h⟩:=h;obtain ⟨m,hn,hl⟩:=I.loc;obtain ⟨u,r,l⟩:=hl i x v hN e hv;have fin:EP X pins σ Q u s:=⟨v,H,I,r,h⟩;rcases l with ⟨hk,hm⟩ | ⟨hk,c,hc,hcell⟩
 ·exact wpAny_Name (wpAny_loadName_local I.ok.kind hk hn hm fin) hd
 ·rcases hk with hk | hk
  ·exact wpAny_Name (wpAny_loadName_cell I.ok.kind hk hc hcell fin) hd
  ·exact wpAny_Name (wpAny_loadName_free I.ok.kind hk hc hcell fin hcd) hd
theorem Yk {i j pos}:PE X (.Constant (.int i) j pos) (tC (.int i)):=λ_ _ _ H _ I h=>wpAny_Constant_int ⟨.int i,H,I.tok _,⟨_,rfl⟩,h⟩
theorem Zv {b j pos}:PE X (.Constant (.bool b) j pos) (tC (.bl b)):=λ_ _ _ H _ I h=>Constant_bool ⟨.bl b,H,I,rfl,h⟩
theorem Yu {x j pos}:PE X (.Constant (.str x) j pos) (tC (.str x)):=λ_ _ _ H _ I h=>Calls.Constant_str ⟨.str x,H,I.tok _,⟨_,rfl⟩,h⟩
def Gl (X:Cx)(x:Str):Prop:=X.env.kindOf x=some .globalImplicit
theorem Ci {E:Zs}{pins:Zl}{s:Shared}{σ:St}{H:Hp}{x:Str}{u:Value}{pos:Pos}{Q:Zs}(I:Inv X pins σ H s)(hg:Gl X x)(hm:X.mg x=some u)(h:Q u s)
  (hd:(x == ("__debug__" : Str))=false:=by decide):wpAny (model X.prog X.w) X.A (eval (.Name x pos) X.env) Q E s:=
 Calls.Name_function_global I.ok.kind hg (Calls.loadGlobal_global (by rw [I.ok.glob];exact I.mod.glob.keeps I.bk) hm h) hd
theorem qZ {E:Zs}{pins:Zl}{s:Shared}{σ:St}{H:Hp}{x:Str}{u:Value}{pos:Pos}{Q:Zs}(I:Inv X pins σ H s)(hg:Gl X x)(hm:X.mg x=none)(hv:bootBuiltins x=some u)(h:Q u s)
  (hn:x≠"__name__":=by decide) (hd:(x == ("__debug__" : Str))=false:=by decide):wpAny (model X.prog X.w) X.A (eval (.Name x pos) X.env) Q E s:=by
 obtain ⟨mb,h1,h2⟩:=I.mod.blt;exact Calls.Name_function_global I.ok.kind hg (Calls.loadGlobal_builtin (by rw [I.ok.glob];exact I.mod.glob.keeps I.bk) hm (by rw [I.ok.blt];exact h1.keeps I.bk) ((h2 x hn).trans hv) h) hd
theorem Tn {x:Str}{v:V}{u:Value}{pos:Pos}(hg:Gl X x)(hm:X.mg x=some u)(r:RelV v u)(hd:(x == ("__debug__" : Str))=false:=by decide):PE X (.Name x pos) (tC v):=
 λ_ _ _ H _ I h=>Ci I hg hm ⟨v,H,I,r,h⟩ hd
theorem Ud {x:Str}{v:V}{u:Value}{pos:Pos}(hg:Gl X x)(hm:X.mg x=none)(hv:bootBuiltins x=some u)(r:RelV v u)(hn:x≠"__name__":=by decide)(hd:(x == ("__debug__" : Str))=false:=by decide):PE X (.Name x pos) (tC v):=
 λ_ _ _ H _ I h=>qZ I hg hm hv ⟨v,H,I,r,h⟩ hn hd
variable {a b:Expr}{ta tb:TE}{pos:Pos}
def PC (X:Cx)(op:CmpOp)(a b:Expr)(t:TE):Prop:=
 ∀(pins:Zl) (s:Shared) (σ:St) (H:Hp) (Q:VK),Inv X pins σ H s->t σ H Q->
  wpAny (model X.prog X.w) X.A (eval a X.env) (λv s₁=>wpAny (model X.prog X.w) X.A (eval b X.env) (λu s₂=>wpAny (model X.prog X.w) X.A (compareOp op v u) (EP X pins σ Q) X.xe s₂) X.xe s₁) X.xe s
theorem Qv (b:Expr){op:CmpOp}(h:op≠.In)(h2:op≠.NotIn):behindInMarks op b=false:=by
 have e1:(op == CmpOp.In)=false:=by cases op<;>first | rfl | exact absurd rfl h
 have e2:(op == CmpOp.NotIn)=false:=by cases op<;>first | rfl | exact absurd rfl h2
 cases b<;>simp [behindInMarks,e1,e2]
def tB (t:TE):TT:=λσ H Q=>t σ H λx H1=>∃c,x=.bl c/\Q c H1
theorem aaP {op:CmpOp}{t:TE}(h:PC X op a b t)(h1:behindInMarks op b=false:=by first | exact Qv _ (by decide) (by decide) | rfl):PT X (.Compare a [op] [b] pos) (tB t):=by
 intro pins s σ H Q I hw;refine wpAny_isTrue_Compare1 (thn (h pins s σ H _ I hw) λv s1 h1=>thn h1 λu s2 h2=>thn h2 λc s3 hE=>xq2 hE λx H1 I1 r1 q1=>?_) h1;obtain ⟨d,rfl,q⟩:=q1;cases r1;exact wpAny_truthy_bool ⟨H1,I1,q⟩
theorem Xe {e:Expr}{t:TE}(h:PE X e t)(he:∀whole,isTrue e X.env whole=(do let v ← whole;standAt e.pos;holding [v] (truthy v)):=by intro _;rfl):PT X e (tB t):=by
 intro pins s σ H Q I hw;refine isTrue_plain (thn (h pins s σ H _ I hw) λv s1 hE=>xq2 hE λx H1 I1 r1 q1=>?_) (he _);obtain ⟨d,rfl,q⟩:=q1;cases r1;exact wpAny_truthy_bool ⟨H1,I1,q⟩
variable {tA tB':TT}{rest:List Expr}
def abl (t u:TT):TT:=λσ H Q=>t σ H λc H1=>if c=true then u σ H1 Q else Q false H1
def tOr (t u:TT):TT:=λσ H Q=>t σ H λc H1=>if c=true then Q true H1 else u σ H1 Q
def abq (t:TT):TT:=λσ H Q=>t σ H λc H1=>Q (!c) H1
theorem Tz (ha:PT X a tA):PW X (.BoolOp .And [a] pos) tA:=by
 intro wh pins s σ H Q I h;refine isTrue_and (thn (ha pins s σ H Q I h) λc s1 e=>?_);cases c with
 |true=>exact isTrue_and_nil e
 |false=>exact e
theorem XQ (ha:PT X a tA):PW X (.BoolOp .Or [a] pos) tA:=by
 intro wh pins s σ H Q I h;refine isTrue_or (thn (ha pins s σ H Q I h) λc s1 e=>?_);cases c with
 |false=>exact isTrue_or_nil e
 |true=>exact e
theorem YZ (ha:PT X a tA)(hb:PW X (.BoolOp .And (b::rest) pos) tB'):PW X (.BoolOp .And (a::b::rest) pos) (abl tA tB'):=by
 intro wh pins s σ H Q I h;refine isTrue_and (thn (ha pins s σ H _ I h) λc s1 ⟨H1,I1,q1⟩=>?_);cases c with
 |true=>exact hb wh pins s1 σ H1 Q I1 q1
 |false=>exact ⟨H1,I1,q1⟩
theorem aal (ha:PT X a tA)(hb:PW X (.BoolOp .Or (b::rest) pos) tB'):PW X (.BoolOp .Or (a::b::rest) pos) (tOr tA tB'):=by
 intro wh pins s σ H Q I h;refine isTrue_or (thn (ha pins s σ H _ I h) λc s1 ⟨H1,I1,q1⟩=>?_);cases c with
 |true=>exact ⟨H1,I1,q1⟩
 |false=>exact hb wh pins s1 σ H1 Q I1 q1
theorem Xx (ha:PT X a tA):PT X (.UnaryOp .Not a pos) (abq tA):=by
 intro pins s σ H Q I h;exact isTrue_not (ha pins s σ H (λc H1=>Q (!c) H1) I h)
def aar (ta tb:TE):TE:=λσ H Q=>ta σ H λx H1=>∃c,x=.bl c/\if c=true then tb σ H1 Q else Q (.bl false) H1
def Z1 (ta:TE):TE:=λσ H Q=>ta σ H λx H1=>∃c,x=.bl c/\Q (.bl (!c)) H1
theorem Ye {op}{t:TE}(h:PE X a t):PE X (.BoolOp op [a] pos) t:=λpins s σ H Q I hw=>BoolOp_one (h pins s σ H Q I hw)
theorem YF (ha:PE X a ta)(hb:PE X (.BoolOp .And (b::rest) pos) tb):PE X (.BoolOp .And (a::b::rest) pos) (aar ta tb):=by
 intro pins s σ H Q I h;refine BoolOp_and (thn (ha pins s σ H _ I h) λv s1 hE=>xq2 hE λx H1 I1 r1 q1=>?_);obtain ⟨c,rfl,q1⟩:=q1;cases r1;refine wpAny_truthy_bool ?_;cases c with
 |true=>exact hb pins s1 σ H1 Q I1 q1
 |false=>exact ⟨.bl false,H1,I1,rfl,q1⟩
theorem XR (ha:PE X a ta):PE X (.UnaryOp .Not a pos) (Z1 ta):=by
 intro pins s σ H Q I h;refine UnaryOp_ (thn (ha pins s σ H _ I h) λv s1 hE=>xq2 hE λx H1 I1 r1 q1=>?_);obtain ⟨c,rfl,q1⟩:=q1;cases r1;exact not_of (wpAny_truthy_bool ⟨.bl (!c),H1,I1,rfl,q1⟩)
def tIf (t:TT)(ta tb:TE):TE:=λσ H Q=>t σ H λc H1=>if c=true then ta σ H1 Q else tb σ H1 Q
theorem QZ {c:Expr}(hc:PT X c tA)(ha:PE X a ta)(hb:PE X b tb):PE X (.IfExp c a b pos) (tIf tA ta tb):=by
 intro pins s σ H Q I h;refine wpAny_IfExp (thn (hc pins s σ H _ I h) λd s1 ⟨H1,I1,q1⟩=>?_);cases d with
 |true=>exact ha pins s1 σ H1 Q I1 q1
 |false=>exact hb pins s1 σ H1 Q I1 q1
end
def SqL (K:W.Frag)(H:Hp)(a:Addr)(xs:List V):Prop:=
 Rd H a (.lst xs) ∨
  ∃(o:Obj) (its:Array Value) (n:Nat),K.lookup a=some o/\o.cls=.type "list"/\o.dict=none/\o.data=.seq its n/\its.size<=sizeLine/\Vals xs its.toList
def SqT (K:W.Frag)(H:Hp)(a:Addr)(xs:List V):Prop:=
 Rd H a (.tup xs) ∨
  ∃(o:Obj) (its:Array Value) (n:Nat),K.lookup a=some o/\o.cls=.type "tuple"/\o.data=.seq its n/\its.size<=sizeLine/\Vals xs its.toList
abbrev KTp (K:W.Frag)(a:Addr)(xs:List V):Prop:=
  ∃(o:Obj) (its:Array Value) (n:Nat),K.lookup a=some o/\o.cls=.type "tuple"/\o.data=.seq its n/\its.size<=sizeLine/\Vals xs its.toList
def SqU (K:W.Frag)(H:Hp)(a:Addr)(xs:List V):Prop:=H a=some (.tup xs)\/KTp K a xs
theorem SqU.sq {K:W.Frag}{H:Hp}{a:Addr}{xs:List V}(h:SqU K H a xs):SqT K H a xs:=h.elim (λe=>.inl (.inl e)) .inr
theorem SqU.of {K:W.Frag}{H:Hp}{a:Addr}{xs:List V}(h:H a=some (.tup xs)):SqU K H a xs:=.inl h
def aaV:Value->Option V
 | .none=>some .non
 | .bool b=>some (.bl b)
 | .int i _=>some (.int i)
 | .str x _=>some (.str x)
 | .bytes b _=>some (.byt b)
 | .float b _=>some (.flt b)
 | .ref a=>some (.ref a)
 | .type n=>some (.ty n)
 |_=>none
theorem RelV.abs {x:V}{u:Value}(r:RelV x u):aaV u=some x:=by
 cases x with
 |non=>cases r;rfl
 |bl _=>cases r;rfl
 |int _=>obtain ⟨t,rfl⟩:=r;rfl
 |str _=>obtain ⟨t,rfl⟩:=r;rfl
 |byt _=>obtain ⟨t,rfl⟩:=r;rfl
 |flt _=>obtain ⟨t,rfl⟩:=r;rfl
 |ref _=>cases r;rfl
 |ty _=>cases r;rfl
theorem RelV.inj {x y:V}{u:Value}(r:RelV x u)(q:RelV y u):x=y:=Option.some.inj (r.abs.symm.trans q.abs)
theorem Vals.inj:∀{xs ys:List V} {us:List Value},Vals xs us->Vals ys us->xs=ys
 |_,_,_,.nil,.nil=>rfl
 |_,_,_,.cons r t,.cons r' t'=>by rw [r.inj r',Vals.inj t t']
section
variable {X:Cx}{pins:Zl}{σ:St}{H:Hp}{s:Shared}{a:Addr}{xs ys:List V}
theorem SqL.of {K:W.Frag}(h:H a=some (.lst xs)):SqL K H a xs:=.inl (.inl h)
theorem Inv.list (I:Inv X pins σ H s)(h:SqL X.K H a xs):∃its:List Value,Vals xs its/\PlainL s.heap a its.toArray/\xs.length<=sizeLine:=by
 rcases h with h | ⟨o,its,n,hk,hc,hd,hs,hz,r⟩
 ·obtain ⟨z,its,n,r,e⟩:=h.ok I.hok;exact ⟨its,r,⟨_,n,e,rfl,rfl,rfl⟩,z⟩
 ·refine ⟨its.toList,r,⟨o,n,I.kIn a o hk,hc,hd,by simpa using hs⟩,?_⟩;have e:=r.length;simp only [Array.length_toList] at e;omega
theorem Inv.tuple (I:Inv X pins σ H s)(h:SqT X.K H a xs):∃its:List Value,Vals xs its/\IsTup s.heap a its.toArray/\xs.length<=sizeLine:=by
 rcases h with h | ⟨o,its,n,hk,hc,hs,hz,r⟩
 ·obtain ⟨z,its,r,p⟩:=h.ok I.hok;exact ⟨its,r,p,z⟩
 ·refine ⟨its.toList,r,⟨o,I.kIn a o hk,hc,n,by simpa using hs⟩,?_⟩;have e:=r.length;simp only [Array.length_toList] at e;omega
theorem Inv.yx (I:Inv X pins σ H s)(h:SqL X.K H a xs)(h':SqL X.K H a ys):xs=ys:=by
 obtain ⟨its,r,⟨o,n,e,_,_,d⟩,_⟩:=I.list h;obtain ⟨its',r',⟨o',n',e',_,_,d'⟩,_⟩:=I.list h';rw [e] at e';cases e';rw [d] at d';injection d' with d1 _
 have:its=its':=by simpa using congrArg Array.toList d1
 subst this;exact r.inj r'
theorem Inv.M5 (I:Inv X pins σ H s)(h:SqT X.K H a xs)(h':SqT X.K H a ys):xs=ys:=by
 obtain ⟨its,r,⟨o,e,_,n,d⟩,_⟩:=I.tuple h;obtain ⟨its',r',⟨o',e',_,n',d'⟩,_⟩:=I.tuple h';rw [e] at e';cases e';rw [d] at d';injection d' with d1 _
 have:its=its':=by simpa using congrArg Array.toList d1
 subst this;exact r.inj r'
end
section
variable {X:Cx}{pins:Zl}{σ:St}{H:Hp}{s:Shared}{E:Zs}
end
section
variable {X:Cx}{st:Stmt}{rest:List Stmt}{t u:TS}{e:Expr}{te:TE}{pos:Pos}
def Zn:TS:=λD σ H=>D.nx σ H
def Z4 (t u:TS):TS:=λD σ H=>t { D with nx:=u D } σ H
theorem Th:PSs X [] Zn:=λ_ _ σ H _ I h=>wpAny_execs_nil ⟨σ,H,I,h⟩
theorem O7 (h1:PS X st t)(h2:PSs X rest u):PSs X (st::rest) (Z4 t u):=by
 intro pins s σ H D I h;refine wpAny_execs_cons (thn (h1 pins s σ H { D with nx:=u D } I h) λf s1 q=>?_);cases f with
 |next=>
  obtain ⟨σ',H',I',q⟩:=q;exact h2 pins s1 σ' H' D I' q
 |ret v=>exact q
 |brk=>exact q
 |cont=>exact q
theorem Tw (h1:PS X st t):PSs X [st] t:=by
 intro pins s σ H D I h;refine wpAny_execs_cons (thn (h1 pins s σ H D I h) λf s1 q=>?_);cases f with
 |next=>exact wpAny_execs_nil q
 |ret v=>exact q
 |brk=>exact q
 |cont=>exact q
theorem Inv.quiet {pins:Zl}{σ:St}{H:Hp}{s:Shared}(I:Inv X pins σ H s):interactive X.env=false:=by simp [interactive,I.ok.kind]
def aad (te:TE):TS:=λD σ H=>te σ H λ_ H1=>D.nx σ H1
theorem xu (he:PE X e te)(hs:swapsWith e none pos.line X.env=pure false:=by rfl):PS X (.Expr e pos) (aad te):=by
 intro pins s σ H D I h;exact wpAny_Expr_any (thn (he pins s σ H _ I h) λv s1 hE=>xq2 hE λx H1 I1 r1 q1=>⟨σ,H1,I1,q1⟩) I.quiet hs
def aaQ (te:TE):TS:=λD σ H=>te σ H D.rt
theorem Il (he:PE X e te):PS X (.Return (some e) pos) (aaQ te):=by
 intro pins s σ H D I h;exact wpAny_Return_some (thn (he pins s σ H _ I h) λv s1 hE=>xq2 hE λx H1 I1 r1 q1=>⟨x,σ,H1,I1,r1,q1⟩)
def aaR (c:TT)(t u:TS):TS:=λD σ H=>c σ H λb H1=>if b=true then t D σ H1 else u D σ H1
theorem aao {c:Expr}{a b:List Stmt}{tc:TT}(hc:PT X c tc)(ha:PSs X a t)(hb:PSs X b u):PS X (.If c a b pos) (aaR tc t u):=by
 intro pins s σ H D I h;refine wpAny_If (thn (hc pins s σ H _ I h) λd s1 ⟨H1,I1,q1⟩=>?_);cases d with
 |true=>exact ha pins s1 σ H1 D I1 q1
 |false=>exact hb pins s1 σ H1 D I1 q1
end
abbrev TG:=V->St->Hp->(St->Hp->Prop)->Prop
abbrev TGs:=List V->St->Hp->(St->Hp->Prop)->Prop
def PG (X:Cx)(target:Expr)(t:TG):Prop:=
 ∀(pins:Zl) (s:Shared) (σ:St) (H:Hp) (v:V) (u:Value) (Q:St->Hp->Prop),Inv X pins σ H s->RelV v u->t v σ H Q->
  wpAny (model X.prog X.w) X.A (assign target X.env u) (λ_ s'=>∃σ' H',Inv X pins σ' H' s'/\Q σ' H') X.xe s
def PGs (X:Cx)(ts:List Expr)(t:TGs):Prop:=
 ∀(pins:Zl) (s:Shared) (σ:St) (H:Hp) (vs:List V) (us:List Value) (Q:St->Hp->Prop),Inv X pins σ H s->Vals vs us->t vs σ H Q->
  wpAny (model X.prog X.w) X.A (assignInOrder ((assignEach ts X.env).map (·.2)) us) (λ_ s'=>∃σ' H',Inv X pins σ' H' s'/\Q σ' H') X.xe s
section
variable {X:Cx}{pos:Pos}
def Ae (i:Nat):TG:=λv σ H Q=>Q (σ.set i (some v)) H
theorem Vl {i:Nat}{x:Str}(hN:X.N.Nodup)(hi:X.N[i]? = some x)(hx:Loc X.env.scope x)(hf:X.fn x=true\/X.env.scope.names.lookup x=some .local:=by first | exact .inl rfl | exact .inr rfl | assumption):PG X (.Name x pos) (Ae i):=by
 intro pins s σ H v u Q I r h;exact wpAny_assign_Name (Hx I hN hi hx r (λs' I'=>⟨_,H,I',h⟩) hf)
def aba:TGs:=λvs σ H Q=>vs=[]/\Q σ H
def Zm (t:TG)(u:TGs):TGs:=λvs σ H Q=>∃v r,vs=v::r/\t v σ H λσ' H'=>u r σ' H' Q
theorem UG:PGs X [] aba:=by
 intro pins s σ H vs us Q I r h;obtain ⟨e,h⟩:=h;subst e;cases r;exact assignInOrder_nil ⟨σ,H,I,h⟩
theorem QH {e:Expr}{es:List Expr}{t:TG}{u:TGs}(h1:PG X e t)(h2:PGs X es u)
  (hs:(assignEach (e::es) X.env).map (·.2)=assign e X.env::(assignEach es X.env).map (·.2):=by rfl):PGs X (e::es) (Zm t u):=by
 intro pins s σ H vs us Q I r h;obtain ⟨v,vr,e1,h⟩:=h;subst e1;cases r with
 |cons r rr=>
  rw [hs];refine assignInOrder_cons (thn (h1 pins s σ H _ _ _ I r h) λ_ s1 ⟨σ1,H1,I1,q1⟩=>?_);exact h2 pins s1 σ1 H1 _ _ Q I1 rr q1
def abA (K:W.Frag)(n:Nat)(t:TGs):TG:=λv σ H Q=>∃a xs,v=.ref a/\SqT K H a xs/\xs.length=n/\t xs σ H Q
theorem YQ {es:List Expr}{k:Nat}{t:TGs}{n:Nat}(hc:X.calm=true)(h:PGs X es t)
  (hn:(assignEach es X.env).length=n:=by rfl) (hst:(assignEach es X.env).findIdx? (·.1)=none:=by rfl):PG X (.Tuple es k pos) (abA X.K n t):=by
 intro pins s σ H v u Q I r hw;obtain ⟨a,xs,e1,hq,hl,hw⟩:=hw;subst e1;cases r;obtain ⟨its,rv,ht,hz⟩:=I.tuple hq;refine assign_Tuple_tuple (I.ok.hd hc) ht (by simp [hn,← hl,rv.length]) hst λh' hx=>?_;have I1:Inv X pins σ H { s with heap:=h' }:=I.kept (t':=s.toks) λb o e=>hx b o (Nat.ne_of_lt (Heap.lt_size e)) e;exact h pins _ σ H xs _ Q I1 (by simpa using rv) hw
def Tv (te:TE)(g:TG):TS:=λD σ H=>te σ H λx H1=>g x σ H1 D.nx
theorem Jx {i:Nat}{x:Str}{e:Expr}{te:TE}{pos':Pos}(hN:X.N.Nodup)(hi:X.N[i]? = some x)(hx:Loc X.env.scope x)(he:PE X e te)(hs:swapsWith e (some (.Name x pos')) pos.line X.env=pure false:=by rfl)(hf:X.fn x=true\/X.env.scope.names.lookup x=some .local:=by first | exact .inl rfl | exact .inr rfl | assumption):
  PS X (.Assign [.Name x pos'] e pos) (Tv te (Ae i)):=by
 intro pins s σ H D I h;refine wpAny_Assign_Name (thn (he pins s σ H _ I h) λv s1 hE=>xq2 hE λy H1 I1 r1 q1=>?_) hs;exact Hx I1 hN hi hx r1 (λs2 I2=>⟨_,H1,I2,q1⟩) hf
end
section
variable {X:Cx}{pos:Pos}
def YK (c:TT)(tb:TS):TS:=λD σ H=>∃W:Nat->St->Hp->Prop,(∃m,W m σ H)/\∀m σ H,W m σ H->
 c σ H λb H1=>if b=true then ∃N:St->Hp->Prop,(∀σ' H',N σ' H'->∃m',m'<m/\W m' σ' H')/\tb { D with nx:=N,ct:=N,bk:=D.nx } σ H1 else D.nx σ H1
theorem RQ {c:Expr}{body:List Stmt}{tc:TT}{tb:TS}(hp:PassesOwn (model X.prog X.w) X.A X.env X.xe)(hc:PT X c tc)(hb:PSs X body tb):PS X (.While c body [] pos) (YK tc tb):=by
 intro pins s σ H D I h;obtain ⟨W,⟨m0,w0⟩,turn⟩:=h;refine wpAny_While (codeAny_whileLoop (λn s'=>∃σ' H',Inv X pins σ' H' s'/\W n σ' H') ?_ m0 ⟨σ,H,I,w0⟩);rintro n s1 ⟨σ1,H1,I1,w1⟩;refine wpAny_passesOwn hp (thn (hc pins s1 σ1 H1 _ I1 (turn n σ1 H1 w1)) λb s2 ⟨H2,I2,q2⟩=>?_);cases b with
 |true=>
  obtain ⟨N,hN,q2⟩:=q2;rw [if_pos rfl];refine wpAny_passesOwn hp (thn (hb pins s2 σ1 H2 _ I2 q2) λf s3 q3=>?_);cases f with
  |next=>
   obtain ⟨σ3,H3,I3,n3⟩:=q3;obtain ⟨m',hm,w3⟩:=hN σ3 H3 n3;exact ⟨m',hm,σ3,H3,I3,w3⟩
  |cont=>
   obtain ⟨σ3,H3,I3,n3⟩:=q3;obtain ⟨m',hm,w3⟩:=hN σ3 H3 n3;exact ⟨m',hm,σ3,H3,I3,w3⟩
  |brk=>exact q3
  |ret v=>exact q3
 |false=>
  rw [if_neg Bool.false_ne_true];exact wpAny_execs_nil ⟨σ1,H2,I2,q2⟩
end
structure It where
 go:Nat->Hp->Prop
 yld:Nat->Hp->V->Hp->Prop
 stop:Nat->Hp->Prop
def sy (X:Cx)(pins:Zl)(H:Hp)(b:Addr):Prop:=
 H b=none/\b≠X.env.locals/\b∉X.fs/\(b∈X.ex\/X.s₀.heap.objs.size<=b)/\(∀x c,X.env.cells.lookup x=some c->c≠b)/\∀p∈X.pn++pins,p.1≠b
theorem Inv.Ga {X:Cx}{pins:Zl}{σ:St}{H H':Hp}{s:Shared}{b:Addr}(I:Inv X pins σ H s)(hb:s.heap.objs.size<=b)(hn:H' b=none):sy X pins H' b:=by
 refine ⟨hn,Nat.ne_of_gt (Nat.lt_of_lt_of_le I.lt hb),I.abx hb,.inr (Nat.le_trans I.sz hb),λx c e z=>?_,λp hp z=>?_⟩
 ·obtain ⟨v,q⟩:=I.cell x c e;exact absurd (Nat.lt_of_lt_of_le q.lt (by rw [z];exact hb)) (Nat.lt_irrefl _)
 ·exact absurd (Nat.lt_of_lt_of_le (Heap.lt_size (I.pin p hp).1) (by rw [z];exact hb)) (Nat.lt_irrefl _)
structure Turn (P:Program)(w:World)(K:W.Frag)(tg:Expr)(J:It)(fp:List Addr)(it:Addr)(tn:Nat->Heap->Prop):Prop where
 mem:it∈fp
 obj:∀i h,tn i h->∀b∈fp,∃o,h.get? b=some o/\∀v,o.data≠.cell v
 keep:∀i h h',tn i h->(∀b∈fp,∀o,h.get? b=some o->h'.get? b=some o)->tn i h'
 item:∀(X:Cx),X.prog=P->X.w=w->X.K=K->X.calm=true->∀(i:Nat) (pins:Zl) (s:Shared) (σ:St) (H:Hp) (E:Zs),Inv X pins σ H s->(∀b∈fp,sy X pins H b)->tn i s.heap->J.go i H->
  wpAny (model P w) X.A (pyNext (.ref it)) (λr s1=>∃u,r=some u/\
   wpAny (model P w) X.A (letOwnedTupleGo tg (.ref it) u) (λ_ s2=>∃x H',Inv X pins σ H' s2/\RelV x u/\J.yld i H x H'/\tn (i+1) s2.heap/\∀b∈fp,H' b=none) E s1) E s
 done:∀(X:Cx),X.prog=P->X.w=w->X.K=K->X.calm=true->∀(i:Nat) (pins:Zl) (s:Shared) (σ:St) (H:Hp) (E:Zs),Inv X pins σ H s->(∀b∈fp,sy X pins H b)->tn i s.heap->J.stop i H->
  wpAny (model P w) X.A (pyNext (.ref it)) (λr s1=>r=none/\Inv X pins σ H s1) E s
 self:∀(A:Around) (i:Nat) (s:Shared) (Q:Zs) (E:Zs),tn i s.heap->Q (.ref it) s->wpAny (model P w) A (pyIter (.ref it)) Q E s
abbrev TI:=St->Hp->(It->Hp->Prop)->Prop
def PIE (X:Cx)(pins:Zl)(σ:St)(tg:Expr)(R:It->Hp->Prop)(itv:Value)(s2:Shared):Prop:=
 ∃(it:Addr) (fp:List Addr) (tn:Nat->Heap->Prop) (J:It) (H':Hp),itv=.ref it/\Inv X pins σ H' s2/\Turn X.prog X.w X.K tg J fp it tn/\tn 0 s2.heap/\(∀b∈fp,sy X pins H' b)/\R J H'
def PI (X:Cx)(tg iter:Expr)(wi:TI):Prop:=
 ∀(pins:Zl) (s:Shared) (σ:St) (H:Hp) (R:It->Hp->Prop),Inv X pins σ H s->wi σ H R->
  wpAny (model X.prog X.w) X.A (eval iter X.env) (λv s1=>wpAny (model X.prog X.w) X.A (pyIter v) (PIE X pins σ tg R) X.xe s1) X.xe s
theorem Ay {M : Model} {A : Around} {E : Value → Shared → Prop} {s : Shared} {tg : Expr} {it : Addr} {u : Value} {o : Obj} {n : String} {vs : Array Value} {Q : Unit → Shared → Prop} (ho : s.heap.get? it = some o) (hc : o.cls = .type n) (hd : o.data = .fields vs)
    (hn : ["enumerate", "zip", "dict_itemiterator", "dict_reverseitemiterator", "odict_iterator", "itertools.zip_longest", "itertools.pairwise"].contains n = false) (hQ : Q () s) : wpAny M A (letOwnedTupleGo tg (.ref it) u) Q E s := by
  unfold letOwnedTupleGo;cases tg<;>first
    | exact wpAny_pure hQ
    | (cases u<;>first
        | exact wpAny_pure hQ
        | (refine wpAny_bind (wpAny_load ho ?_)
           rw [hc, hd];show wpAny M A (if (["enumerate", "zip", "dict_itemiterator", "dict_reverseitemiterator", "odict_iterator", "itertools.zip_longest", "itertools.pairwise"].contains n && vs[0]? == some (rawInt _)) = true then _ else _) Q E s;rw [if_neg (by intro h;rw [hn, Bool.false_and] at h;cases h)];exact wpAny_pure hQ))
def Itl (K:W.Frag)(a:Addr):It:=
 ⟨λi H=>∃xs x,SqL K H a xs/\xs[i]? = some x,λi H x H'=>H'=H/\∀xs,SqL K H a xs->xs[i]? = some x,λi H=>∃xs,SqL K H a xs/\xs.length<=i⟩
def Itt (K:W.Frag)(a:Addr):It:=
 ⟨λi H=>∃xs x,SqT K H a xs/\xs[i]? = some x,λi H x H'=>H'=H/\∀xs,SqT K H a xs->xs[i]? = some x,λi H=>∃xs,SqT K H a xs/\xs.length<=i⟩
def Itr (lo:Int)(n:Nat):It:=⟨λi _=>i<n,λi H x H'=>H'=H/\x=.int (lo+i),λi _=>n<=i⟩
theorem Nv {P:Program}{w:World}{K:W.Frag}{tg:Expr}(a it:Addr):Turn P w K tg (Itl K a) [it] it (λi h=>h.IsListIter it a i) where
 mem:=by simp
 obj:=λi h st b hb=>by
  have e:b=it:=by simpa using hb
  subst e;obtain ⟨o,e,c,d⟩:=st;exact ⟨o,e,λv z=>by rw [d] at z;cases z⟩
 keep:=λi h h' st k=>st.at λo e=>k it (by simp) o e
 item:=by
  intro X hP hw hK hc i pins s σ H E I hf st hg;subst hP hw hK;obtain ⟨xs,x,hq,hx⟩:=hg;obtain ⟨its,rv,p,hz⟩:=I.list hq;obtain ⟨u,hu,ru⟩:=rv.get hx;obtain ⟨f0,f1,f2,f3,f4,f5⟩:=hf it (by simp);refine wpAny_pyNext_list_item st p.isList (x:=u) (by simpa using hu) λh' st' sb=>?_;have I1:Inv X pins σ H { s with heap:=h' }:=I.turned (t':=s.toks) (λb o hb e=>(sb.2 b hb).trans e) f0 f1 f3 f4 f5;obtain ⟨o,e,c,d⟩:=id st';exact ⟨u,rfl,Ay (s:={ s with heap:=h' }) e c d (by decide) ⟨x,H,I1,ru,⟨rfl,λys hy=>by rw [I.yx hy hq];exact hx⟩,st',λb hb=>(hf b hb).1⟩⟩
 done:=by
  intro X hP hw hK hc i pins s σ H E I hf st hg;subst hP hw hK;obtain ⟨xs,hq,hx⟩:=hg;obtain ⟨its,rv,p,hz⟩:=I.list hq;obtain ⟨f0,f1,f2,f3,f4,f5⟩:=hf it (by simp);have hl:=rv.length;exact wpAny_pyNext_list_end (I.ok.hd hc) st p.isList (by simp;omega) λh' eb=>⟨rfl,I.turned (t':=s.toks) (λb o hb e=>eb b o hb e) f0 f1 f3 f4 f5⟩
 self:=λ_ _ _ _ _ st h=>wpAny_pyIter_listiter st h
theorem Jq {P:Program}{w:World}{K:W.Frag}{tg:Expr}(a it:Addr):Turn P w K tg (Itt K a) [it] it (λi h=>h.IsTupleIter it a i) where
 mem:=by simp
 obj:=λi h st b hb=>by
  have e:b=it:=by simpa using hb
  subst e;obtain ⟨o,e,c,d⟩:=st;exact ⟨o,e,λv z=>by rw [d] at z;cases z⟩
 keep:=λi h h' st k=>st.at λo e=>k it (by simp) o e
 item:=by
  intro X hP hw hK hc i pins s σ H E I hf st hg;subst hP hw hK;obtain ⟨xs,x,hq,hx⟩:=hg;obtain ⟨its,rv,p,hz⟩:=I.tuple hq;obtain ⟨u,hu,ru⟩:=rv.get hx;obtain ⟨f0,f1,f2,f3,f4,f5⟩:=hf it (by simp);refine wpAny_pyNext_tuple_item st (show s.heap.IsTuple a its.toArray from p) (x:=u) (by simpa using hu) λh' st' sb=>?_;have I1:Inv X pins σ H { s with heap:=h' }:=I.turned (t':=s.toks) (λb o hb e=>(sb.2 b hb).trans e) f0 f1 f3 f4 f5;obtain ⟨o,e,c,d⟩:=id st';exact ⟨u,rfl,Ay (s:={ s with heap:=h' }) e c d (by decide) ⟨x,H,I1,ru,⟨rfl,λys hy=>by rw [I.M5 hy hq];exact hx⟩,st',λb hb=>(hf b hb).1⟩⟩
 done:=by
  intro X hP hw hK hc i pins s σ H E I hf st hg;subst hP hw hK;obtain ⟨xs,hq,hx⟩:=hg;obtain ⟨its,rv,p,hz⟩:=I.tuple hq;obtain ⟨f0,f1,f2,f3,f4,f5⟩:=hf it (by simp);have hl:=rv.length;exact wpAny_pyNext_tuple_end (I.ok.hd hc) st (show s.heap.IsTuple a its.toArray from p) (by simp;omega) λh' eb=>⟨rfl,I.turned (t':=s.toks) (λb o hb e=>eb b o hb e) f0 f1 f3 f4 f5⟩
 self:=λ_ _ _ _ _ st h=>wpAny_pyIter_tupleiter st h
theorem Ja {P:Program}{w:World}{K:PySem.W.Frag}{tg:Expr}(it:Addr)(lo:Int)(n:Nat):Turn P w K tg (Itr lo n) [it] it (λi h=>IsRangeIter h it (lo+(i:Nat)*1) ((n:Int)-(i:Nat)) 1) where
 mem:=by simp
 obj:=λi h st b hb=>by
  have e:b=it:=by simpa using hb
  subst e;exact ⟨_,st,λv z=>by
   have z':Data.fields _=Data.cell v:=z;cases z'⟩
 keep:=λi h h' st k=>k it (by simp) _ st
 item:=by
  intro X hP hw hK hc i pins s σ H E I hf st hg;subst hP hw hK;obtain ⟨f0,f1,f2,f3,f4,f5⟩:=hf it (by simp);have W:=Walks.range (prog:=X.prog) (w:=X.w) (I.ok.hd hc) it lo 1 n;refine W.item i s _ _ hg st λv h' tk hv st' kk=>?_;obtain ⟨t,rfl⟩:=hv;have I1:Inv X pins σ H { s with heap:=h',toks:=tk }:=I.turned (λb o hb e=>kk b o (by simpa using hb) e) f0 f1 f3 f4 f5;refine ⟨_,rfl,Ay (s:={ s with heap:=h',toks:=tk }) (n:="range_iterator") st' rfl rfl (by decide) ⟨.int (lo+i),H,I1,⟨t,?_⟩,⟨rfl,rfl⟩,st',λb hb=>(hf b hb).1⟩⟩;rw [Int.mul_one]
 done:=by
  intro X hP hw hK hc i pins s σ H E I hf st hg;subst hP hw hK;obtain ⟨f0,f1,f2,f3,f4,f5⟩:=hf it (by simp);exact wpAny_pyNext_range_end (I.ok.hd hc) st (by have:n<=i:=hg;omega) λh' eb=>⟨rfl,I.turned (t':=s.toks) (λb o hb e=>eb b o hb e) f0 f1 f3 f4 f5⟩
 self:=λ_ _ _ _ _ st h=>wpAny_pyIter_rangeiter st h
section
variable {X:Cx}{tg:Expr}
def aaA (K:W.Frag)(tl:TE):TI:=λσ H R=>tl σ H λx H1=>∃a,x=.ref a/\(∃xs,SqL K H1 a xs)/\R (Itl K a) H1
def abp (K:W.Frag)(tl:TE):TI:=λσ H R=>tl σ H λx H1=>∃a,x=.ref a/\(∃xs,SqT K H1 a xs)/\R (Itt K a) H1
theorem Lz {l:Expr}{tl:TE}(hl:PE X l tl):PI X tg l (aaA X.K tl):=by
 intro pins s σ H R I h;refine thn (hl pins s σ H _ I h) λv s1 hE=>xq2 hE λx H1 I1 r1 q1=>?_;obtain ⟨a,e,⟨xs,hq⟩,q⟩:=q1;subst e;cases r1;obtain ⟨its,rv,p,hz⟩:=I1.list hq;refine wpAny_pyIter_list p.isList ?_;refine ⟨s1.heap.objs.size,[s1.heap.objs.size],_,_,H1,rfl,I1.kept (t':=s1.toks) λb o e=>Heap.get?_push_of_some _ e,Nv a _,⟨_,Heap.get?_push_size _ rfl,rfl,rfl⟩,λb hb=>?_,q⟩;have e:b=s1.heap.objs.size:=by simpa using hb
 subst e;exact I1.Ga (Nat.le_refl _) (I1.hok.fresh (Nat.le_refl _))
theorem XS {l:Expr}{tl:TE}(hl:PE X l tl):PI X tg l (abp X.K tl):=by
 intro pins s σ H R I h;refine thn (hl pins s σ H _ I h) λv s1 hE=>xq2 hE λx H1 I1 r1 q1=>?_;obtain ⟨a,e,⟨xs,hq⟩,q⟩:=q1;subst e;cases r1;obtain ⟨its,rv,p,hz⟩:=I1.tuple hq;refine wpAny_pyIter_tuple (show s1.heap.IsTuple a its.toArray from p) ?_;refine ⟨s1.heap.objs.size,[s1.heap.objs.size],_,_,H1,rfl,I1.kept (t':=s1.toks) λb o e=>Heap.get?_push_of_some _ e,Jq a _,⟨_,Heap.get?_push_size _ rfl,rfl,rfl⟩,λb hb=>?_,q⟩;have e:b=s1.heap.objs.size:=by simpa using hb
 subst e;exact I1.Ga (Nat.le_refl _) (I1.hok.fresh (Nat.le_refl _))
theorem PX {pins:Zl}{σ:St}{H:Hp}{s:Shared}{R:It->Hp->Prop}{E:Zs}{lo hi:Int}{t u v:Tok}{tk:Nat}(I:Inv X pins σ H s)(h1:-(2 ^ 62)<=lo)(h2:lo<2 ^ 62)(h3:-(2 ^ 62)<=hi)(h4:hi<2 ^ 62)
  (q:R (Itr lo (hi-lo).toNat) H):wpAny (model X.prog X.w) X.A (pyIter (.ref s.heap.objs.size)) (PIE X pins σ tg R) E { s with heap:=s.heap.push { cls:=.type "range",data:=.fields #[.int lo t,.int hi u,.int 1 v] },toks:=tk }:=by
 refine wpAny_pyIter_range (IsRange.new ..) (small_one h1 h2 h3 h4) ?_;have I1:Inv X pins σ H { s with heap:=s.heap.push { cls:=.type "range",data:=.fields #[.int lo t,.int hi u,.int 1 v] },toks:=tk }:=I.kept λb o e=>Heap.get?_push_of_some _ e;refine ⟨(s.heap.push { cls:=.type "range",data:=.fields #[.int lo t,.int hi u,.int 1 v] }).objs.size,[(s.heap.push { cls:=.type "range",data:=.fields #[.int lo t,.int hi u,.int 1 v] }).objs.size],_,_,H,rfl,
  I1.kept (t':=tk) λb o e=>Heap.get?_push_of_some _ e,Ja _ lo (hi-lo).toNat,?_,λb hb=>?_,q⟩
 ·have e1:lo+((0:Nat):Int)*1=lo:=by simp
  have e2:(((hi-lo).toNat:Nat):Int)-((0:Nat):Int)=Builtin.Range.rangeSize lo hi 1:=by rw [rangeSize_one];split<;>omega
  show IsRangeIter _ _ (lo+((0:Nat):Int)*1) ((((hi-lo).toNat:Nat):Int)-((0:Nat):Int)) 1;rw [e1,e2];exact Heap.get?_push_size _ rfl
 ·have e:b=(s.heap.push { cls:=.type "range",data:=.fields #[.int lo t,.int hi u,.int 1 v] }).objs.size:=by simpa using hb
  subst e;exact I1.Ga (Nat.le_refl _) (I1.hok.fresh (Nat.le_refl _))
def Z2 (ta:TA):TI:=λσ H R=>ta σ H λvs H1=>∃j:Int,vs=[.int j]/\-(2 ^ 62)<=j/\j<2 ^ 62/\R (Itr 0 j.toNat) H1
theorem Nz {a:Expr}{ta:TA}{p pos:Pos}(hg:Gl X "range")(hm:X.mg "range" = none)(ha:PA X [a] ta)(hs:starEach [a] X.env=[(false,eval a X.env)]:=by rfl):PI X tg (.Call (.Name "range" p) [a] [] pos) (Z2 ta):=by
 intro pins s σ H R I h;refine Call_ (qZ I hg hm boot_range (PyProof.Rows.callWith_type1 (thn (ha pos pins s σ H _ I h) λus s1 hE=>xq2 hE λvs H1 I1 r1 q1=>?_) hs rfl));obtain ⟨j,e,q1,q2,q⟩:=q1;subst e;cases r1 with
 |cons r rr=>
  cases rr;obtain ⟨t,rfl⟩:=r;exact call_range_1 (PX I1 (by omega) (by omega) q1 q2 (by simpa using q))
def aaO (wi:TI)(g:TG)(tb:TS):TS:=λD σ H=>wi σ H λJ H1=>∃W:Nat->Nat->St->Hp->Prop,(∃m,W 0 m σ H1)/\∀i m σ H,W i m σ H->
 (J.stop i H/\D.nx σ H)\/(J.go i H/\∃N:St->Hp->Prop,(∀σ' H',N σ' H'->∃m',m'<m/\W (i+1) m' σ' H')/\∀x H',J.yld i H x H'->g x σ H' λσ2 H2=>tb { D with nx:=N,ct:=N,bk:=D.nx } σ2 H2)
def uo (fp:List Addr)(h:Heap):Zl:=fp.filterMap λb=>(h.get? b).map λo=>(b,o)
theorem p6 {fp:List Addr}{h:Heap}{b:Addr}{o:Obj}(hb:b∈fp)(e:h.get? b=some o):(b,o)∈uo fp h:=List.mem_filterMap.mpr ⟨b,hb,by rw [e];rfl⟩
theorem Mw {fp:List Addr}{h:Heap}{p:Addr×Obj}(hp:p∈uo fp h):p.1∈fp/\h.get? p.1=some p.2:=by
 obtain ⟨b,hb,e⟩:=List.mem_filterMap.mp hp;cases q:h.get? b with
 |none=>rw [q] at e;cases e
 |some o=>
  rw [q] at e;have e':(b,o)=p:=Option.some.inj e;subst e';exact ⟨hb,q⟩
theorem Inv.pinned {pins:Zl}{σ:St}{H:Hp}{s:Shared}{fp:List Addr}(I:Inv X pins σ H s)(hf:∀b∈fp,sy X pins H b)(ho:∀b∈fp,∃o,s.heap.get? b=some o/\∀v,o.data≠.cell v):Inv X (pins++uo fp s.heap) σ H s:=
 I.K4 λp hp=>(List.mem_append.mp hp).elim (λz=>I.pin p (List.mem_append_right _ z)) λz=>by
  obtain ⟨hb,e⟩:=Mw z;obtain ⟨f0,f1,f2,_⟩:=hf p.1 hb;obtain ⟨o,e',d⟩:=ho p.1 hb;rw [e] at e';cases e';exact ⟨e,f0,f1,f2,d⟩
theorem Inv.uN {pins pl:Zl}{σ:St}{H:Hp}{s:Shared}(I:Inv X (pins++pl) σ H s):Inv X pins σ H s:=I.K4 λp hp=>I.pin p (List.mem_append_right _ (List.mem_append_left _ hp))
theorem Iu {iter:Expr}{body:List Stmt}{wi:TI}{g:TG}{tb:TS}{pos:Pos}(hp:PassesOwn (model X.prog X.w) X.A X.env X.xe)(hc:X.calm=true)(hi:PI X tg iter wi)(hg:PG X tg g)(hb:PSs X body tb)
  (hs:∀x,foldedSetIterable iter X.env x=pure x:=by intro _;rfl):PS X (.For tg iter body [] pos) (aaO wi g tb):=by
 intro pins s σ H D I h;refine wpAny_For (thn (hi pins s σ H _ I h) λv s1 h1=>thn h1 λitv s2 h2=>?_) hs;obtain ⟨it,fp,tn,J,H2,e,I2,T,st2,f2,W,⟨m0,w0⟩,turn⟩:=h2;subst e;have stat:∀{H':Hp},(∀b∈fp,H' b=none)->∀b∈fp,sy X pins H' b:=λhn b hb=>⟨hn b hb,(f2 b hb).2⟩;refine codeAny_forLoop_any (λn s'=>∃i σ' H',Inv X pins σ' H' s'/\tn i s'.heap/\(∀b∈fp,H' b=none)/\W i n σ' H') ?_ m0 ⟨0,σ,H2,I2,st2,λb hb=>(f2 b hb).1,w0⟩;rintro n s3 ⟨i,σ3,H3,I3,st3,fr3,w3⟩;rcases turn i n σ3 H3 w3 with ⟨stop,qn⟩ | ⟨go,N,hN,step⟩
 ·refine wpAny_passesOwn hp (thn (T.done X rfl rfl rfl hc i pins s3 σ3 H3 X.xe I3 (stat fr3) st3 stop) λr s4 ⟨hr,I4⟩=>?_);subst hr;exact wpAny_execs_nil ⟨σ3,H3,I4,qn⟩
 ·refine wpAny_passesOwn hp (thn (T.item X rfl rfl rfl hc i pins s3 σ3 H3 X.xe I3 (stat fr3) st3 go) λr s4 ⟨u,hr,h4⟩=>?_);subst hr;refine wpAny_passesOwn hp (thn h4 λ_ s5 ⟨x,H5,I5,r5,y5,st5,fr5⟩=>?_);have I5':=I5.pinned (stat fr5) (T.obj _ _ st5);refine wpAny_passesOwn hp (thn (hg _ s5 σ3 H5 x u _ I5' r5 (step x H5 y5)) λ_ s6 ⟨σ6,H6,I6,q6⟩=>?_);refine wpAny_passesOwn hp (thn (hb _ s6 σ6 H6 _ I6 q6) λf s7 q7=>?_);have again:∀{σ7:St} {H7:Hp},Inv X (pins++uo fp s5.heap) σ7 H7 s7->N σ7 H7->∃m,m<n/\∃i σ' H',Inv X pins σ' H' s7/\tn i s7.heap/\(∀b∈fp,H' b=none)/\W i m σ' H':=λ{σ7 H7} I7 n7=>by
   obtain ⟨m',hm,w7⟩:=hN σ7 H7 n7;refine ⟨m',hm,i+1,σ7,H7,I7.uN,T.keep _ _ _ st5 λb hb o e=>(I7.pin (b,o) (List.mem_append_right _ (List.mem_append_right _ (p6 hb e)))).1,λb hb=>?_,w7⟩;obtain ⟨o,e,d⟩:=T.obj _ _ st5 b hb;exact (I7.pin (b,o) (List.mem_append_right _ (List.mem_append_right _ (p6 hb e)))).2.1
  cases f with
  |next=>obtain ⟨σ7,H7,I7,n7⟩:=q7;exact again I7 n7
  |cont=>obtain ⟨σ7,H7,I7,n7⟩:=q7;exact again I7 n7
  |brk=>obtain ⟨σ7,H7,I7,q7⟩:=q7;exact ⟨σ7,H7,I7.uN,q7⟩
  |ret v=>obtain ⟨x7,σ7,H7,I7,r7,q7⟩:=q7;exact ⟨x7,σ7,H7,I7.uN,r7,q7⟩
end
abbrev R2:=V->V->Hp->VK->Prop
def OpR (X:Cx)(f:Value->Value->Sem Value)(r:R2):Prop:=
 ∀(pins:Zl) (s:Shared) (σ:St) (H:Hp) (x y:V) (v u:Value) (Q:VK),Inv X pins σ H s->RelV x v->RelV y u->r x y H Q->
  wpAny (model X.prog X.w) X.A (f v u) (EP X pins σ Q) X.xe s
def UnR (X:Cx)(f:Value->Sem Value)(r:V->Hp->VK->Prop):Prop:=
 ∀(pins:Zl) (s:Shared) (σ:St) (H:Hp) (x:V) (v:Value) (Q:VK),Inv X pins σ H s->RelV x v->r x H Q->
  wpAny (model X.prog X.w) X.A (f v) (EP X pins σ Q) X.xe s
def gG (X:Cx)(f:Value)(r:List V->Hp->VK->Prop):Prop:=
 ∀(pins:Zl) (s:Shared) (σ:St) (H:Hp) (xs:List V) (us:List Value) (Q:VK),Inv X pins σ H s->Vals xs us->r xs H Q->
  wpAny (model X.prog X.w) X.A (call f us) (EP X pins σ Q) X.xe s
def tOp (r:R2)(ta tb:TE):TE:=λσ H Q=>ta σ H λx H1=>tb σ H1 λy H2=>r x y H2 Q
def tUn (r:V->Hp->VK->Prop)(ta:TE):TE:=λσ H Q=>ta σ H λx H1=>r x H1 Q
def rI (C:Int->Int->Prop)(g:Int->Int->V):R2:=λx y H Q=>∃i j,x=.int i/\y=.int j/\C i j/\Q (g i j) H
def rI0 (g:Int->Int->V):R2:=λx y H Q=>∃i j,x=.int i/\y=.int j/\Q (g i j) H
def rU (g:Int->V):V->Hp->VK->Prop:=λx H Q=>∃i,x=.int i/\Q (g i) H
section
variable {X:Cx}{a b c:Expr}{ta tb tc:TE}{pos:Pos}
theorem Xl (ha:PE X a ta)(hb:PE X b tb){pins:Zl}{s:Shared}{σ:St}{H:Hp}{R:V->V->Hp->Prop}(I:Inv X pins σ H s)
  (h:ta σ H λx H1=>tb σ H1 λy H2=>R x y H2) {Q:Zs} {f:Value->Value->Sem Value}
  (hf:∀v u s2 x y H2,Inv X pins σ H2 s2->RelV x v->RelV y u->R x y H2->wpAny (model X.prog X.w) X.A (f v u) Q X.xe s2):
  wpAny (model X.prog X.w) X.A (eval a X.env) (λv s₁=>wpAny (model X.prog X.w) X.A (eval b X.env) (λu s₂=>wpAny (model X.prog X.w) X.A (f v u) Q X.xe s₂) X.xe s₁) X.xe s:=by
 refine thn (ha pins s σ H _ I h) λv s1 hE=>xq2 hE λx H1 I1 r1 q1=>?_;refine thn (hb pins s1 σ H1 _ I1 q1) λu s2 hE=>xq2 hE λy H2 I2 r2 q2=>?_;exact hf v u s2 x y H2 I2 r1 r2 q2
theorem Zy {op:Operator}{r:R2}(ho:OpR X (binaryOp op) r)(ha:PE X a ta)(hb:PE X b tb):PE X (.BinOp a op b pos) (tOp r ta tb):=by
 intro pins s σ H Q I h;exact wpAny_BinOp (Xl ha hb I h λv u s2 x y H2 I2 rx ry q=>ho pins s2 σ H2 x y v u Q I2 rx ry q)
theorem aaH {op:UnaryOp}{r:V->Hp->VK->Prop}(ho:UnR X (unaryOp op) r)(ha:PE X a ta):PE X (.UnaryOp op a pos) (tUn r ta):=by
 intro pins s σ H Q I h;exact UnaryOp_ (thn (ha pins s σ H _ I h) λv s1 hE=>xq2 hE λx H1 I1 r1 q1=>ho pins s1 σ H1 x v Q I1 r1 q1)
theorem opI {f:Value->Value->Sem Value}{C:Int->Int->Prop}{g:Int->Int->Int}
  (rule:∀(i j:Int) (t u:Tok) (s:Shared) (Q:Zs) (E:Zs),C i j->Q (.int (g i j) s.toks) { s with toks:=s.toks+1 }->wpAny (model X.prog X.w) X.A (f (.int i t) (.int j u)) Q E s):
  OpR X f (rI C λi j=>.int (g i j)):=by
 intro pins s σ H x y v u Q I rx ry h;obtain ⟨i,j,rfl,rfl,hc,q⟩:=h;obtain ⟨t,rfl⟩:=rx;obtain ⟨t',rfl⟩:=ry;exact rule i j t t' s _ _ hc ⟨.int (g i j),H,I.tok _,⟨_,rfl⟩,q⟩
theorem aan {f:Value->Value->Sem Value}{g:Int->Int->Int}
  (rule:∀(i j:Int) (t u:Tok) (s:Shared) (Q:Zs) (E:Zs),Q (.int (g i j) s.toks) { s with toks:=s.toks+1 }->wpAny (model X.prog X.w) X.A (f (.int i t) (.int j u)) Q E s):
  OpR X f (rI0 λi j=>.int (g i j)):=by
 intro pins s σ H x y v u Q I rx ry h;obtain ⟨i,j,rfl,rfl,q⟩:=h;obtain ⟨t,rfl⟩:=rx;obtain ⟨t',rfl⟩:=ry;exact rule i j t t' s _ _ ⟨.int (g i j),H,I.tok _,⟨_,rfl⟩,q⟩
theorem Vz {f:Value->Value->Sem Value}{g:Int->Int->Bool}
  (rule:∀(i j:Int) (t u:Tok) (s:Shared) (Q:Zs) (E:Zs),Q (.bool (g i j)) s->wpAny (model X.prog X.w) X.A (f (.int i t) (.int j u)) Q E s):
  OpR X f (rI0 λi j=>.bl (g i j)):=by
 intro pins s σ H x y v u Q I rx ry h;obtain ⟨i,j,rfl,rfl,q⟩:=h;obtain ⟨t,rfl⟩:=rx;obtain ⟨t',rfl⟩:=ry;exact rule i j t t' s _ _ ⟨.bl (g i j),H,I,rfl,q⟩
def abu (i j:Int):Prop:=0<=j/\j<=1000000/\i.natAbs<2 ^ 64
theorem YH:OpR X (binaryOp .Add) (rI0 λi j=>.int (i+j)):=aan λ_ _ _ _ _ _ _ q=>add_int q
theorem W0:OpR X (binaryOp .Sub) (rI0 λi j=>.int (i-j)):=aan λ_ _ _ _ _ _ _ q=>sub_int q
theorem U9:OpR X (binaryOp .Mod) (rI (λ_ j=>j≠0) λi j=>.int (i.fmod j)):=opI λ_ _ _ _ _ _ _ hc q=>mod_int' hc q
theorem Xy:OpR X (binaryOp .Pow) (rI abu λi j=>.int (i ^ j.toNat)):=opI λ_ _ _ _ _ _ _ hc q=>pow_int_small hc.1 hc.2.1 hc.2.2 q
theorem unI {f:Value->Sem Value}{g:Int->Int}
  (rule:∀(i:Int) (t:Tok) (s:Shared) (Q:Zs) (E:Zs),Q (.int (g i) s.toks) { s with toks:=s.toks+1 }->wpAny (model X.prog X.w) X.A (f (.int i t)) Q E s):
  UnR X f (rU λi=>.int (g i)):=by
 intro pins s σ H x v Q I rx h;obtain ⟨i,rfl,q⟩:=h;obtain ⟨t,rfl⟩:=rx;exact rule i t s _ _ ⟨.int (g i),H,I.tok _,⟨_,rfl⟩,q⟩
theorem Xq:UnR X (unaryOp .USub) (rU λi=>.int (-i)):=unI λ_ _ _ _ _ q=>neg_int q
end
def aap:V->V->Bool
 | .non,.non=>true | .non,.int _=>true | .int _,.non=>true | .non,.bl _=>true | .bl _,.non=>true | .non,.str _=>true | .str _,.non=>true
 | .int _,.int _=>true | .bl _,.bl _=>true | .str _,.str _=>true | .byt _,.byt _=>true
 | .int _,.str _=>true | .str _,.int _=>true | .bl _,.str _=>true | .str _,.bl _=>true
 |_,_=>false
def rEq:R2:=λx y H Q=>aap x y=true/\Q (.bl (decide (x=y))) H
def rNe:R2:=λx y H Q=>aap x y=true/\Q (.bl (!decide (x=y))) H
theorem K9 {i j:Int}:decide (V.int i=V.int j)=(i == j):=by
 rw [Bool.eq_iff_iff]
 simp
theorem Pr {i j:Bool}:decide (V.bl i=V.bl j)=(i == j):=by
 rw [Bool.eq_iff_iff]
 simp
theorem Ln {i j:Str}:decide (V.str i=V.str j)=(i == j):=by
 rw [Bool.eq_iff_iff]
 simp
theorem Li {i j:Array UInt8}:decide (V.byt i=V.byt j)=(i.toList == j.toList):=by
 rw [Bool.eq_iff_iff];cases i;cases j
 simp
section
variable {X:Cx}{a b c:Expr}{ta tb tc:TE}{pos:Pos}
theorem bW {pins:Zl}{σ:St}{H:Hp}{s:Shared}{Q:VK}{k k':Bool}(I:Inv X pins σ H s)(q:Q (.bl k) H)(e:k=k'):EP X pins σ Q (.bool k') s:=by
 subst e;exact ⟨.bl k,H,I,rfl,q⟩
theorem JR:OpR X (compareOp .Eq) rEq:=by
 intro pins s σ H x y v u Q I rx ry h;obtain ⟨hs,q⟩:=h;cases x with
 |non=>
  cases rx;cases y with
  |non=>cases ry;exact PySem.EqNone.eq_none_none (bW I q (by simp))
  |bl j=>cases ry;exact PySem.EqNone.eq_none_bool (bW I q (by simp))
  |int j=>obtain ⟨t',rfl⟩:=ry;exact PySem.EqNone.eq_none_int (bW I q (by simp))
  |str j=>obtain ⟨t',rfl⟩:=ry;exact PySem.EqNone.eq_none_str (bW I q (by simp))
  |_=>exact absurd (show false=true from hs) Bool.false_ne_true
 |bl i=>
  cases rx;cases y with
  |non=>cases ry;exact PySem.EqNone.eq_bool_none (bW I q (by simp))
  |bl j=>cases ry;exact eq_bool (bW I q Pr)
  |str j=>obtain ⟨t',rfl⟩:=ry;exact PySem.EqMixed.eq_bool_str (bW I q (by simp))
  |_=>exact absurd (show false=true from hs) Bool.false_ne_true
 |int i=>
  obtain ⟨t,rfl⟩:=rx;cases y with
  |non=>cases ry;exact PySem.EqNone.eq_int_none (bW I q (by simp))
  |int j=>obtain ⟨t',rfl⟩:=ry;exact eq_int (bW I q K9)
  |str j=>obtain ⟨t',rfl⟩:=ry;exact PySem.EqMixed.eq_int_str (bW I q (by simp))
  |_=>exact absurd (show false=true from hs) Bool.false_ne_true
 |str i=>
  obtain ⟨t,rfl⟩:=rx;cases y with
  |non=>cases ry;exact PySem.EqNone.eq_str_none (bW I q (by simp))
  |bl j=>cases ry;exact PySem.EqMixed.eq_str_bool (bW I q (by simp))
  |int j=>obtain ⟨t',rfl⟩:=ry;exact PySem.EqMixed.eq_str_int (bW I q (by simp))
  |str j=>obtain ⟨t',rfl⟩:=ry;exact eq_str (bW I q Ln)
  |_=>exact absurd (show false=true from hs) Bool.false_ne_true
 |byt i=>
  obtain ⟨t,rfl⟩:=rx;cases y with
  |byt j=>obtain ⟨t',rfl⟩:=ry;exact W.eq_bytes (bW I q Li)
  |_=>exact absurd (show false=true from hs) Bool.false_ne_true
 |_=>cases y<;>exact absurd (show false=true from hs) Bool.false_ne_true
theorem JQ:OpR X (compareOp .NotEq) rNe:=by
 intro pins s σ H x y v u Q I rx ry h;obtain ⟨hs,q⟩:=h;cases x with
 |non=>
  cases rx;cases y with
  |non=>cases ry;exact PySem.EqNone.ne_none_none (bW I q (by simp))
  |bl j=>cases ry;exact PySem.EqNone.ne_none_bool (bW I q (by simp))
  |int j=>obtain ⟨t',rfl⟩:=ry;exact PySem.EqNone.ne_none_int (bW I q (by simp))
  |str j=>obtain ⟨t',rfl⟩:=ry;exact PySem.EqNone.ne_none_str (bW I q (by simp))
  |_=>exact absurd (show false=true from hs) Bool.false_ne_true
 |bl i=>
  cases rx;cases y with
  |non=>cases ry;exact PySem.EqNone.ne_bool_none (bW I q (by simp))
  |bl j=>cases ry;exact ne_bool (bW I q (congrArg not Pr))
  |str j=>obtain ⟨t',rfl⟩:=ry;exact PySem.EqMixed.ne_bool_str (bW I q (by simp))
  |_=>exact absurd (show false=true from hs) Bool.false_ne_true
 |int i=>
  obtain ⟨t,rfl⟩:=rx;cases y with
  |non=>cases ry;exact PySem.EqNone.ne_int_none (bW I q (by simp))
  |int j=>obtain ⟨t',rfl⟩:=ry;exact ne_int (bW I q (congrArg not K9))
  |str j=>obtain ⟨t',rfl⟩:=ry;exact PySem.EqMixed.ne_int_str (bW I q (by simp))
  |_=>exact absurd (show false=true from hs) Bool.false_ne_true
 |str i=>
  obtain ⟨t,rfl⟩:=rx;cases y with
  |non=>cases ry;exact PySem.EqNone.ne_str_none (bW I q (by simp))
  |bl j=>cases ry;exact PySem.EqMixed.ne_str_bool (bW I q (by simp))
  |int j=>obtain ⟨t',rfl⟩:=ry;exact PySem.EqMixed.ne_str_int (bW I q (by simp))
  |str j=>obtain ⟨t',rfl⟩:=ry;exact ne_str (bW I q (congrArg not Ln))
  |_=>exact absurd (show false=true from hs) Bool.false_ne_true
 |byt i=>
  obtain ⟨t,rfl⟩:=rx;cases y with
  |byt j=>obtain ⟨t',rfl⟩:=ry;exact W.ne_bytes (bW I q (congrArg not Li))
  |_=>exact absurd (show false=true from hs) Bool.false_ne_true
 |_=>cases y<;>exact absurd (show false=true from hs) Bool.false_ne_true
theorem ZD:OpR X (compareOp .Lt) (rI0 λi j=>.bl (decide (i<j))):=Vz λ_ _ _ _ _ _ _ q=>lt_int q
theorem Z0:OpR X (compareOp .LtE) (rI0 λi j=>.bl (decide (i<=j))):=Vz λ_ _ _ _ _ _ _ q=>le_int q
theorem Zk:OpR X (compareOp .Gt) (rI0 λi j=>.bl (decide (j<i))):=Vz λ_ _ _ _ _ _ _ q=>gt_int q
theorem ZG:OpR X (compareOp .GtE) (rI0 λi j=>.bl (decide (j<=i))):=Vz λ_ _ _ _ _ _ _ q=>ge_int q
theorem Nf:OpR X (compareOp .In) (λx y H Q=>∃i j,x=.str i/\y=.str j/\Q (.bl (!(Builtin.Str.occurrences j i 0 j.length 1).isEmpty)) H):=by
 intro pins s σ H x y v u Q I rx ry h;obtain ⟨i,j,rfl,rfl,q⟩:=h;obtain ⟨t,rfl⟩:=rx;obtain ⟨t',rfl⟩:=ry;exact in_str (bW I q rfl)
theorem BX:OpR X (compareOp .NotIn) (λx y H Q=>∃i j,x=.str i/\y=.str j/\Q (.bl (!(!(Builtin.Str.occurrences j i 0 j.length 1).isEmpty))) H):=by
 intro pins s σ H x y v u Q I rx ry h;obtain ⟨i,j,rfl,rfl,q⟩:=h;obtain ⟨t,rfl⟩:=rx;obtain ⟨t',rfl⟩:=ry;exact notIn_str (bW I q rfl)
theorem bI (b:Expr){op:CmpOp}(h:op≠.In:=by decide)(h2:op≠.NotIn:=by decide):behindInMarks op b=false:=by
 have e1:(op == CmpOp.In)=false:=by cases op<;>first | rfl | exact absurd rfl h
 have e2:(op == CmpOp.NotIn)=false:=by cases op<;>first | rfl | exact absurd rfl h2
 cases b<;>simp [behindInMarks,e1,e2]
theorem UW {op:CmpOp}{r:R2}(ho:OpR X (compareOp op) r)(ha:PE X a ta)(hb:PE X b tb)(hm:behindInMarks op b=false):PE X (.Compare a [op] [b] pos) (tOp r ta tb):=by
 intro pins s σ H Q I h;exact wpAny_Compare1 (Xl ha hb I h λv u s2 x y H2 I2 rx ry q=>ho pins s2 σ H2 x y v u Q I2 rx ry q) hm
def aag (t:TE):TT:=λσ H Q=>t σ H λx H'=>∃k,x=.bl k/\Q k H'
theorem U6 {op:CmpOp}{r:R2}(ho:OpR X (compareOp op) r)(ha:PE X a ta)(hb:PE X b tb)(hm:behindInMarks op b=false):PT X (.Compare a [op] [b] pos) (aag (tOp r ta tb)):=by
 intro pins s σ H Q I h;refine wpAny_isTrue_Compare1 (thn (ha pins s σ H _ I h) λv s1 hE=>xq2 hE λx H1 I1 r1 q1=>thn (hb pins s1 σ H1 _ I1 q1) λu s2 hE=>xq2 hE λy H2 I2 r2 q2=>
  thn (ho pins s2 σ H2 x y v u _ I2 r1 r2 q2) λc s3 ⟨z,H3,I3,r3,k,e,q3⟩=>?_) hm
 subst e;cases r3;exact wpAny_truthy_bool ⟨H3,I3,q3⟩
def RZ (r r':R2)(ta tb tc:TE):TE:=λσ H Q=>ta σ H λx H1=>tb σ H1 λy H2=>r x y H2 λz H3=>∃k,z=.bl k/\
 (if k=true then tc σ H3 λw' H4=>r' y w' H4 Q else Q (.bl false) H3)
theorem SQ {op op':CmpOp}{r r':R2}(ho:OpR X (compareOp op) r)(ho':OpR X (compareOp op') r')(ha:PE X a ta)(hb:PE X b tb)(hc:PE X c tc)
  (hm:lastMarks [op,op'] [b,c]=false:=by with_unfolding_all rfl):PE X (.Compare a [op,op'] [b,c] pos) (RZ r r' ta tb tc):=by
 intro pins s σ H Q I h;refine Compare_chain (thn (ha pins s σ H _ I h) λv s1 hE=>xq2 hE λx H1 I1 r1 q1=>chain_link (thn (hb pins s1 σ H1 _ I1 q1) λu s2 hE=>xq2 hE λy H2 I2 r2 q2=>
  thn (ho pins s2 σ H2 x y v u _ I2 r1 r2 q2) λd s3 ⟨z,H3,I3,r3,k,e,q3⟩=>?_)) hm
 subst e;cases r3;refine wpAny_truthy_bool ?_;cases k with
 |false=>exact ite_ff ⟨.bl false,H3,I3,rfl,q3⟩
 |true=>exact ite_tt (chain_last (thn (hc pins s3 σ H3 _ I3 q3) λw' s4 ⟨z',H4,I4,r4,q4⟩=>ho' pins s4 σ H4 y z' u w' Q I4 r2 r4 q4))
theorem zr:(sizeLine:Nat)<2 ^ 63:=by rw [sizeLine_eq];decide
theorem Jo:OpR X (binaryOp .Add) (λx y H Q=>∃i j,x=.str i/\y=.str j/\i.length+j.length<=sizeLine/\Q (.str (i++j)) H):=by
 intro pins s σ H x y v u Q I rx ry h;obtain ⟨i,j,rfl,rfl,hz,q⟩:=h;obtain ⟨t,rfl⟩:=rx;obtain ⟨t',rfl⟩:=ry;exact add_str (λt' tk=>⟨.str (i++j),H,I.tok _,⟨_,rfl⟩,q⟩) hz
theorem vals1 {x:V}{us:List Value}(r:Vals [x] us):∃u,us=[u]/\RelV x u:=by
 cases r with
 |cons r1 r2=>cases r2;exact ⟨_,rfl,r1⟩
theorem vals2 {x y:V}{us:List Value}(r:Vals [x,y] us):∃u w',us=[u,w']/\RelV x u/\RelV y w':=by
 cases r with
 |cons r1 r2=>
  cases r2 with
  |cons r3 r4=>cases r4;exact ⟨_,_,rfl,r1,r3⟩
theorem Qj:gG X (.builtin "abs") (λxs H Q=>∃i,xs=[.int i]/\Q (.int (if i<0 then -i else i)) H):=by
 intro pins s σ H xs us Q I r h;obtain ⟨i,rfl,q⟩:=h;obtain ⟨u,rfl,t,rfl⟩:=vals1 r;exact call_abs_int λu tk=>⟨.int (if i<0 then -i else i),H,I.tok _,⟨_,rfl⟩,q⟩
theorem CV:gG X (.type "str") (λxs H Q=>∃i,xs=[.int i]/\i.natAbs.log2<1920/\Q (.str (toString i)) H):=by
 intro pins s σ H xs us Q I r h;obtain ⟨i,rfl,hz,q⟩:=h;obtain ⟨u,rfl,t,rfl⟩:=vals1 r;exact PySem.P.str_of_int hz ⟨.str _,H,I.tok _,⟨_,rfl⟩,q⟩
end
structure XD (h:Heap)(x dx C:Addr)(mA:Zp):Prop where
 obj:h.get? x=some (W.instObj C dx)
 ns:h.Ns1 dx mA
 ne:dx≠x
theorem Og {h:Heap}{dx:Addr}{mA:Zp}(n:h.Ns1 dx mA):∃od,h.get? dx=some od/\∀name,W.lookIn name od=some (mA name):=by
 obtain ⟨o,es,ep,ho,hd,hk,_,hm⟩:=n;refine ⟨o,ho,λname=>?_⟩;have e:=hm name;unfold nsFind findBy at e;rw [← Array.find?_toList] at e;unfold W.lookIn;rw [hd];dsimp only;split
 ·rename_i y q;rw [q] at e;exact congrArg some e
 ·rename_i q;rw [q] at e;have a:es.toList.any (·.refKey)=false:=by
   rw [List.any_eq_false];intro y hy;obtain ⟨z,t,hkey⟩:=hk y (Array.mem_toList_iff.mp hy);simp [DictEntry.refKey,hkey]
  have a':¬es.toList.any (·.refKey)=true:=by rw [a];exact Bool.false_ne_true
  rw [if_neg a'];exact congrArg some e
theorem XD.look {h:Heap}{x dx C:Addr}{mA:Zp}(I:XD h x dx C mA):∃od,W.InstAt h x (W.instObj C dx) C (some od)/\∀name,W.lookIn name od=some (mA name):=
 let ⟨od,ho,hl⟩:=Og I.ns
 ⟨od,⟨I.obj,rfl,rfl,ho⟩,hl⟩
section
variable {prog:Program}{w:World}{A:Around}{E:Zs}{s:Shared}{K:W.Frag}{x dx C f:Addr}{mA:Zp}{name:Str}{v:Value}
end
theorem vV.some_of {v:V}{o:Option Value}(r:vV (some v) o):∃u,o=some u/\RelV v u:=by
 cases o with
 |none=>exact (show False from r).elim
 |some u=>exact ⟨u,rfl,r⟩
section
variable {P:Program}{w:World}{H H':Hp}{h h':Heap}{a C dx:Addr}{fs fs':List (Str×V)}
theorem U7 (hok:HOk P w H h)(e:H a=some (.ins C dx fs)):∃mA,XD h a dx C mA/\(∀f,vV (fs.lookup f) (mA f))/\PySem.Within mA (fs.map (·.1))/\fs.length<=1000/\H dx=some (.own a):=by
 obtain ⟨d,z,ne,ob,mA,n,r,q⟩:=(show cD P w H h a (.ins C dx fs) from hok a _ e);exact ⟨mA,⟨ob,n,ne⟩,r,q,z,d⟩
end
structure Cls (K:W.Frag)(C:Addr):Prop where
 pg:W.plainGet K C Str.empty=true
 hd:W.hasDictIn K C=true
 po:W.plainOver K C=true
 sa:W.findIn K (.ref C) "__setattr__" = some (some (.builtin "object.__setattr__"))
theorem Cls.get {K:W.Frag}{C:Addr}(c:Cls K C)(f:Str):W.plainGet K C f=true:=c.pg
section
variable {X:Cx}{pins:Zl}{σ:St}{H:Hp}{s:Shared}{a C dx:Addr}{fs:List (Str×V)}{f:Str}{v:V}{A:Around}{E:Zs}
end
section
variable {X:Cx}{o e value:Expr}{f:Str}{pos pos' tpos:Pos}{ta tv:TE}
end
section
variable {X:Cx}{pins:Zl}{σ:St}{H:Hp}{s:Shared}{A:Around}{E:Zs}{Q:Zs}{c:Value}{b:Bool}
inductive vL (K:W.Frag)(H:Hp):V->Value->Prop where
 |non:vL K H .non (.type "NoneType")
 |bl (x:Bool):vL K H (.bl x) (.type "bool")
 |int (i:Int):vL K H (.int i) (.type "int")
 |str (x:Str):vL K H (.str x) (.type "str")
 |flt (x:UInt64):vL K H (.flt x) (.type "float")
 |lst {a:Addr} {xs:List V} (e:H a=some (.lst xs)):vL K H (.ref a) (.type "list")
 |frz {a:Addr} {o:Obj} {xs:List V} (e:H a=some (.frz o (.lst xs))):vL K H (.ref a) (.type "list")
 |tup {a:Addr} {xs:List V} (e:H a=some (.tup xs)):vL K H (.ref a) (.type "tuple")
 |dK {a:Addr} {kvs:List (Key×V)} (e:Rd H a (.dK kvs)):vL K H (.ref a) (.type "dict")
 |dT {a:Addr} {T:Addr->List V->Prop} {kvs:List (List Kt×V)} (e:H a=some (.dT T kvs)):vL K H (.ref a) (.type "dict")
 |ins {a C dx:Addr} {fs:List (Str×V)} (e:H a=some (.ins C dx fs)) (cl:Cls K C) (ha:W.findIn K (.ref C) "__class__" = some (some (.builtin "object.__class__")))
   (hn:W.specialIn K (.builtin "object.__class__") "__get__" = some (some (.builtin "getset_descriptor.__get__"))) (htk:W.takesIn K (.builtin "object.__class__")=some true)
   (hm:W.mroIn K C (.type "object")=some true):vL K H (.ref a) (.ref C)
theorem Nx {x:V}{u t:Value}(I:Inv X pins σ H s)(rx:RelV x u)(ty:vL X.K H x t)(e:W.kitOne X.K t c=some b)(h:∀tk,Q (.bool b) { s with toks:=tk }):
  wpAny (model X.prog X.w) A (call (.builtin "isinstance") [u,c]) Q E s:=by
 cases ty with
 |non=>cases (show u=Value.none from rx);exact W.kia_one W.kitx_none I.kIn True.intro e (λz=>nomatch z) h
 |bl y=>cases (show u=Value.bool y from rx);exact W.kia_one W.kitx_bool I.kIn True.intro e (λz=>nomatch z) h
 |int i=>obtain ⟨t,q⟩:=(show ∃t,u=Value.int i t from rx);cases q;exact W.kia_one W.kitx_int I.kIn True.intro e (λz=>nomatch z) h
 |str y=>obtain ⟨t,q⟩:=(show ∃t,u=Value.str y t from rx);cases q;exact W.kia_one W.kitx_str I.kIn True.intro e (λz=>nomatch z) h
 |flt y=>obtain ⟨t,q⟩:=(show ∃t,u=Value.float y t from rx);cases q;exact W.kia_one W.kitx_float I.kIn True.intro e (λz=>nomatch z) h
 | @lst a xs ea=>
  cases (show u=Value.ref a from rx);obtain ⟨_,_,n,_,h1⟩:=(show cD X.prog X.w H s.heap a (.lst xs) from I.hok a _ ea);exact W.kia_one W.kitx_list I.kIn ⟨_,h1,rfl⟩ e (λz=>nomatch z) h
 | @frz a ob xs ea=>
  cases (show u=Value.ref a from rx);obtain ⟨_,_,_,n,_,h1⟩:=(show cD X.prog X.w H s.heap a (.frz ob (.lst xs)) from I.hok a _ ea);exact W.kia_one W.kitx_list I.kIn ⟨_,h1,rfl⟩ e (λz=>nomatch z) h
 | @tup a xs ea=>
  cases (show u=Value.ref a from rx);obtain ⟨_,_,_,p⟩:=(show cD X.prog X.w H s.heap a (.tup xs) from I.hok a _ ea);obtain ⟨o,h1,h2,_⟩:=p;exact W.kia_one W.kitx_tuple I.kIn ⟨o,h1,h2⟩ e (λz=>nomatch z) h
 | @dK a kvs ea=>
  cases (show u=Value.ref a from rx);obtain ⟨_,_,vs,_,p⟩:=(show cD X.prog X.w H s.heap a (.dK kvs) from ea.ok I.hok);obtain ⟨o,es,ep,h1,h2,_⟩:=p;exact W.kia_one W.kitx_dict I.kIn ⟨o,h1,h2.1⟩ e (λz=>nomatch z) h
 | @dT a T kvs ea=>
  cases (show u=Value.ref a from rx);obtain ⟨_,_,xs,_,o,es,ep,h1,h2,_⟩:=(show cD X.prog X.w H s.heap a (.dT T kvs) from I.hok a _ ea);exact W.kia_one W.kitx_dict I.kIn ⟨o,h1,h2.1⟩ e (λz=>nomatch z) h
 | @ins a C dx fs ea cl ha hn htk hm=>
  cases (show u=Value.ref a from rx);obtain ⟨mA,O,_⟩:=U7 I.hok ea;obtain ⟨od,J,_⟩:=O.look;exact W.kia_one (W.kitx_own (cl.get _) cl.hd ha hn htk hm) I.kIn J e (λz=>nomatch z) h
end
structure fM (k:Nat)(A:Around):Prop where
 hd:A.handled=none
 dp:A.depth+3*k+5<recursionLimit
 un:A.units+16*k+200<cLine
 gd:A.guards=some []
theorem fM.mono {j k:Nat}{A:Around}(r:fM k A)(h:j<=k):fM j A:=⟨r.hd,by have:=r.dp;omega,by have:=r.un;omega,r.gd⟩
theorem fM.deeper {k:Nat}{A:Around}(r:fM (k+1) A)(env:Env):fM k (A.deeper env):=
 ⟨r.hd,by have:=r.dp;show A.depth+1+3*k+5<_;omega,by have:=r.un;show A.units+3+16*k+200<_;omega,r.gd⟩
theorem fM.depth {k:Nat}{A:Around}(r:fM k A):A.depth<recursionLimit:=by have:=r.dp;omega
theorem fM.units {k:Nat}{A:Around}(r:fM k A):A.units+64<cLine:=by have:=r.un;omega
theorem fM.Rk {k:Nat}{A:Around}(r:fM k A):A.units<cLine:=by have:=r.un;omega
def aaz:TA:=λ_ H Q=>Q [] H
def Z5 (ta:TE)(tr:TA):TA:=λσ H Q=>ta σ H λx H1=>tr σ H1 λxs H2=>Q (x::xs) H2
section
variable {X:Cx}{e:Expr}{es:List Expr}{te:TE}{t:TA}{pos:Pos}
theorem wC:PA X [] aaz:=λ_ _ _ _ H Q I h=>Calls.spliced_nil ⟨[],H,I,.nil,h⟩
theorem pQ (ha:PE X e te)(hr:PA X es t)(hs:starEach (e::es) X.env=(false,eval e X.env)::starEach es X.env:=by rfl):PA X (e::es) (Z5 te t):=by
 intro pos pins s σ H Q I h;rw [hs];show wpAny _ _ (spliced ((false,eval e X.env)::backTo pos (starEach es X.env))) _ _ s;refine Calls.spliced_cons (thn (ha pins s σ H _ I h) λu s1 hE=>xq2 hE λx H1 I1 r1 q1=>?_);exact thn (hr pos pins s1 σ H1 _ I1 q1) λus s2 hE=>xq2 hE λxs H2 I2 r2 q2=>⟨x::xs,H2,I2,.cons r1 r2,q2⟩
def abz (t:TA):TE:=λσ H Q=>t σ H λxs H1=>xs.length<=sizeLine/\∀p,H1 p=none->Q (.ref p) (upd H1 p (.tup xs))
def abB (t:TA):TE:=λσ H Q=>t σ H λxs H1=>xs.length<=sizeLine/\∀p,H1 p=none->Q (.ref p) (upd H1 p (.lst xs))
theorem W9 {x1}(h:PA X es t):PE X (.Tuple es x1 pos) (abz t):=by
 intro pins s σ H Q I hq;refine wpAny_Tuple_spliced (thn (h pos pins s σ H _ I hq) λus s1 ⟨xs,H1,I1,r,z,q⟩=>⟨by rw [← r.length];exact z,?_⟩);have hf:H1 s1.heap.objs.size=none:=I1.hok.fresh (Nat.le_refl _);refine ⟨.ref s1.heap.objs.size,upd H1 s1.heap.objs.size (.tup xs),I1.laid (t':=s1.toks) (λb u e=>Heap.get?_push_of_some _ e) (Nat.le_refl _) ?_,rfl,q _ hf⟩;exact ⟨z,us,r,⟨_,Heap.get?_push_size _ rfl,rfl,_,rfl⟩⟩
theorem Zb (h:PA X es t):PE X (.List es pos) (abB t):=by
 intro pins s σ H Q I hq;refine wpAny_List_spliced (thn (h pos pins s σ H _ I hq) λus s1 ⟨xs,H1,I1,r,z,q⟩=>⟨by rw [← r.length];exact z,?_⟩);have hf:H1 s1.heap.objs.size=none:=I1.hok.fresh (Nat.le_refl _);refine ⟨.ref s1.heap.objs.size,upd H1 s1.heap.objs.size (.lst xs),I1.laid (t':=s1.toks) (λb u e=>Heap.get?_push_of_some _ e) (Nat.le_refl _) ?_,rfl,q _ hf⟩;exact ⟨z,us,0,r,Heap.get?_push_size _ rfl⟩
end
abbrev Sp:=List V->Hp->VK->XK->Prop
abbrev CXT:=List Env->Hp->Shared->XK->Zs
structure Uo (P:Program)(w:World)(K:W.Frag)(mg:Zp)(base:Heap)(A:Around)(outer:List Env)(s:Shared)(H:Hp):Prop where
 frames:A.frames=some outer
 mod:Mod K mg base
 bs:∀b o,base.get? b=some o->s.heap.get? b=some o/\H b=none
 bsz:base.objs.size<=s.heap.objs.size
 yL:s.heap.FunFrames base outer
 frf:∀b∈frs outer,H b=none
 hok:HOk P w H s.heap
 bare:AllBare s.gens
def CE (outer:List Env)(P:Program)(w:World)(H:Hp)(s:Shared)(Q:VK)(u:Value)(s':Shared):Prop:=
 ∃v H',s'.os=s.os/\AllBare s'.gens/\Un (frs outer) [] H H' s.heap s'.heap/\HOk P w H' s'.heap/\RelV v u/\Q v H'
def CR (CX:CXT)(outer:List Env)(P:Program)(w:World)(H:Hp)(s:Shared)(Q:VK)(E:XK)(r:Result)(s':Shared):Prop:=
 match r with
 | .ok (.ret u)=>CE outer P w H s Q u s'
 | .ok _=>False
 | .error e=>CX outer H s E e s'
structure cB (P:Program)(w:World)(K:W.Frag)(mg:Zp)(base:Heap)(CX:CXT)(k:Nat)(f:Addr)(fd:FuncData)(ps:List Str)(sp:Sp):Prop where
 len:∀vs H Q E,sp vs H Q E->vs.length=ps.length
 run:∀(A:Around) (outer:List Env) (s:Shared) (H:Hp) (args:Args) (us:List Value) (vs:List V) (Q:VK) (E:XK),fM k A->Uo P w K mg base A outer s H->BindsTo s fd args (ps.zip us)->Vals vs us->sp vs H Q E->
  codeAny (model P w) A (.call (.ref f) args) (CR CX outer P w H s Q E) s
theorem cB.imp {P:Program}{w:World}{K:W.Frag}{mg:Zp}{base:Heap}{CX:CXT}{k:Nat}{f:Addr}{fd:FuncData}{ps:List Str}{sp sp':Sp}(F:cB P w K mg base CX k f fd ps sp)
  (h:∀vs H Q E,sp' vs H Q E->sp vs H Q E):cB P w K mg base CX k f fd ps sp':=
 ⟨λvs H Q E q=>F.len vs H Q E (h _ _ _ _ q),λA outer s H args us vs Q E hr he hb hv hs=>F.run A outer s H args us vs Q E hr he hb hv (h _ _ _ _ hs)⟩
section
variable {X:Cx}{pins:Zl}{σ:St}{H:Hp}{s s':Shared}
theorem Inv.env0 (I:Inv X pins σ H s):Uo X.prog X.w X.K X.mg X.base X.A X.stack s H:=
 ⟨I.ok.frames,I.ok.mod,I.bs,Nat.le_trans I.ok.bsz I.sz,I.stack,I.Kf,I.hok,I.bare⟩
theorem Inv.after {Q:VK}{u:Value}(I:Inv X pins σ H s)(h:CE X.stack X.prog X.w H s Q u s'):EP X pins σ Q u s':=by
 obtain ⟨v,H',os,bare,un,hok,r,q⟩:=h;obtain ⟨hh,g,d,t,os'⟩:=s';obtain rfl:os'=s.os:=os;exact ⟨v,H',I.call (h':=hh) (g':=g) (d':=d) (t':=t) (ch:=[]) un hok bare (λb z=>absurd z (by simp)),r,q⟩
end
def Wi (sp:Sp)(dvs:List V)(E:XK)(t:TA):TE:=λσ H Q=>t σ H λvs H1=>sp (vs++dvs) H1 Q E
def Binds (K:W.Frag)(fd:FuncData)(ps:List Str)(ds:List Value):Prop:=
 ∀(s:Shared) (us:List Value),K.In s.heap->(us++ds).length=ps.length->BindsTo s fd ⟨us,[]⟩ (ps.zip (us++ds))
theorem Binds.all {K:W.Frag}{fd:FuncData}{ps:List Str}(h:∀us:List Value,us.length=ps.length->bindArgs fd ⟨us,[]⟩=pure (ps.zip us)):Binds K fd ps []:=λs us _ hl=>by
 rw [List.append_nil] at hl ⊢;exact .of_eq (h us hl)
def Passes (CX:CXT)(X:Cx)(E:XK):Prop:=∀(pins:Zl) (σ:St) (H:Hp) (s:Shared) (e:Value) (s':Shared),Inv X pins σ H s->CX X.stack H s E e s'->X.xe e s'
section
variable {X:Cx}{CX:CXT}{k:Nat}{f C:Addr}{fd:FuncData}{ps:List Str}{sp:Sp}{dvs:List V}{ds:List Value}{E:XK}{x m:Str}{p pos apos:Pos}{e o:Expr}{es:List Expr}{ta:TE}{t:TA}
theorem Qd {pins:Zl}{σ:St}{H:Hp}{s:Shared}{Q:VK}{us:List Value}{vs:List V}(F:cB X.prog X.w X.K X.mg X.base CX k f fd ps sp)(hr:fM k X.A)(hb:Binds X.K fd ps ds)(hd:Vals dvs ds)(hx:Passes CX X E)
  (I:Inv X pins σ H s) (r:Vals vs us) (h:sp (vs++dvs) H Q E):wpAny (model X.prog X.w) X.A (call (.ref f) us) (EP X pins σ Q) X.xe s:=by
 have r2:Vals (vs++dvs) (us++ds):=r.append hd;have hl:(us++ds).length=ps.length:=by rw [← r2.length];exact F.len _ _ _ _ h
 refine wpAny_call (codeAny_mono (F.run X.A X.stack s H ⟨us,[]⟩ (us++ds) (vs++dvs) Q E hr I.env0 (hb s us I.kIn hl) r2 h) λr s' hq=>?_);cases r with
 |error e=>exact hx pins σ H s e s' I hq
 |ok fl=>
  cases fl with
  |ret u=>exact I.after hq
  |next=>exact False.elim hq
  |brk=>exact False.elim hq
  |cont=>exact False.elim hq
theorem Cy (F:cB X.prog X.w X.K X.mg X.base CX k f fd ps sp)(hr:fM k X.A)(hg:Gl X x)(hm:X.mg x=some (.ref f))(hk:W.keepIn X.K (.ref f)=true)(hb:Binds X.K fd ps ds)(hd:Vals dvs ds)(hx:Passes CX X E)
  (ha:PA X (e::es) t) (hdb:(x == ("__debug__" : Str))=false:=by decide) (he:starEach (e::es) X.env=(false,eval e X.env)::starEach es X.env:=by rfl) (hpl:(backTo pos (starEach es X.env)).any (·.1)=false:=by rfl):
  PE X (.Call (.Name x p) (e::es) [] pos) (Wi sp dvs E t):=by
 intro pins s σ H Q I h;refine wpAny_Call_Name_kw (Ci I hg hm ?_ hdb);refine W.callWith_K (h₀:=X.base) I.ok.mod.kin hk (thn (ha pos pins s σ H _ I h) λus s1 hE=>xq2 hE λvs H1 I1 r q=>⟨I1.kIn,?_⟩) he hpl;exact Qd F hr hb hd hx I1 r q
theorem Rg (F:cB X.prog X.w X.K X.mg X.base CX k f fd ps sp)(hr:fM k X.A)(hg:Gl X x)(hm:X.mg x=some (.ref f))(hk:W.keepIn X.K (.ref f)=true)(hb:Binds X.K fd ps ds)(hd:Vals dvs ds)(hx:Passes CX X E)
  (hdb:(x == ("__debug__" : Str))=false:=by decide):PE X (.Call (.Name x p) [] [] pos) (Wi sp dvs E aaz):=by
 intro pins s σ H Q I h;refine wpAny_Call_Name_kw (Ci I hg hm ?_ hdb);exact W.callWith_K0 I.kIn hk (Qd (us:=[]) F hr hb hd hx I .nil h)
end
section
variable {X:Cx}{CX:CXT}{k:Nat}{f C:Addr}{fd:FuncData}{ps ks:List Str}{sp:Sp}{E:XK}{x m:Str}{p pos apos kpos:Pos}{e o:Expr}{es:List Expr}{kws:List Keyword}{te ta:TE}{t tk:TA}{nm:Option Str}
variable {g:List Value->List Value->List Value}{gV:List V->List V->List V}
end
structure aY (N P:List Str)(sc:Scope):Prop where
 kind:sc.kind=.function
 co:sc.isCoroutine=false
 gen:sc.isGenerator=false
 nd:N.Nodup
 pre:N.take P.length=P
 par:∀x∈P,sc.names.lookup x=some .local\/sc.names.lookup x=some .cell
 nofree:∀y∈sc.names,y.2≠.free
theorem Bx {kindOf:Str->Option NameKind}{x:Str}:∀{binds:List (Str×Value)} {m:Zp},(∀v,(x,v)∉binds)->bindL kindOf binds m x=m x
 |[],_,_=>rfl
 |(n,v)::r,m,h=>by
  unfold bindL;rw [Bx λw hw=>h w (List.mem_cons_of_mem _ hw)];split
  ·have:x≠n:=by rintro rfl;exact h v List.mem_cons_self
   simp [this]
  ·rfl
theorem Bs {kindOf:Str->Option NameKind}{x:Str}:∀{binds:List (Str×Value)} {m:Zp},(∀v,(x,v)∉binds)->bindC kindOf binds m x=m x
 |[],_,_=>rfl
 |(n,v)::r,m,h=>by
  unfold bindC;rw [Bs λw hw=>h w (List.mem_cons_of_mem _ hw)];split
  ·rfl
  ·have:x≠n:=by rintro rfl;exact h v List.mem_cons_self
   simp [this]
theorem Af {kindOf:Str->Option NameKind}{x:Str}{v:Value}:∀{P:List Str} {vs:List Value} {i:Nat} {m:Zp},P.Nodup->P[i]? = some x->vs[i]? = some v->kindOf x=some .local->
  bindL kindOf (P.zip vs) m x=some v
 |[],_,_,_,_,h,_,_=>by simp at h
 |_::_,[],_,_,_,_,h,_=>by simp at h
 |p::P,w::vs,0,m,nd,h1,h2,hk=>by
  simp at h1 h2;subst h1;subst h2;show bindL kindOf ((p,w)::P.zip vs) m p=_;unfold bindL;rw [Bx λv hv=>(List.nodup_cons.mp nd).1 (List.of_mem_zip hv).1,if_pos hk]
  simp
 |p::P,w::vs,i+1,m,nd,h1,h2,hk=>by
  show bindL kindOf ((p,w)::P.zip vs) m x=_;unfold bindL;exact Af (i:=i) (List.nodup_cons.mp nd).2 (by simpa using h1) (by simpa using h2) hk
theorem Bf {kindOf:Str->Option NameKind}{x:Str}{v:Value}:∀{P:List Str} {vs:List Value} {i:Nat} {m:Zp},P.Nodup->P[i]? = some x->vs[i]? = some v->kindOf x≠some .local->
  bindC kindOf (P.zip vs) m x=some v
 |[],_,_,_,_,h,_,_=>by simp at h
 |_::_,[],_,_,_,_,h,_=>by simp at h
 |p::P,w::vs,0,m,nd,h1,h2,hk=>by
  simp at h1 h2;subst h1;subst h2;show bindC kindOf ((p,w)::P.zip vs) m p=_;unfold bindC;rw [Bs λv hv=>(List.nodup_cons.mp nd).1 (List.of_mem_zip hv).1,if_neg hk]
  simp
 |p::P,w::vs,i+1,m,nd,h1,h2,hk=>by
  show bindC kindOf ((p,w)::P.zip vs) m x=_;unfold bindC;exact Bf (i:=i) (List.nodup_cons.mp nd).2 (by simpa using h1) (by simpa using h2) hk
def start (N:List Str)(vs:List V):St:=vs.map some++List.replicate (N.length-vs.length) none
def Ab (CX:CXT)(P:Program)(w:World)(K:W.Frag)(mg:Zp)(base:Heap)(N:List Str)(qual:Str)(scope:Scope)(f:Addr)(cd:Value)(A:Around)(outer:List Env)(s:Shared)(H:Hp)(E:XK):Cx where
 prog:=P
 w:=w
 K:=K
 mg:=mg
 base:=base
 A:=A.deeper (envOfC qual scope s.heap.objs.size f cd)
 N:=N
 s₀:=s
 H₀:=H
 env:=envOfC qual scope s.heap.objs.size f cd
 outer:=outer
 stack:=envOfC qual scope s.heap.objs.size f cd::outer
 ex:=[]
 calm:=true
 fn:=λ_=>true
 pn:=[]
 xe:=λe s'=>wpAny (model P w) (A.deeper (envOfC qual scope s.heap.objs.size f cd)) (leaving (envOfC qual scope s.heap.objs.size f cd) e) (λ_ s''=>CX outer H s E e s'') (λe' s''=>CX outer H s E e' s'') s'
theorem FQ {sc:Scope}{n:Nat}{x:Str}(h:sc.names.lookup x=some .cell):∃c,(cellsFrom n sc.names []).lookup x=some c:=by
 have q:=W.cellsFrom_some sc.names n [] (.inl h);exact Option.isSome_iff_exists.mp q
theorem Od {CX:CXT}{P:Program}{w:World}{K:W.Frag}{mg:Zp}{base:Heap}{N ps:List Str}{qual:Str}{scope:Scope}{f:Addr}{cd:Value}{A:Around}{outer:List Env}{s s1:Shared}{H:Hp}{E:XK}{us:List Value}{vs:List V}
  (S:aY N ps scope) (hd:A.handled=none) (e0:Uo P w K mg base A outer s H) (hl:vs.length=ps.length) (r:Vals vs us)
  (x:InCallC s s.heap.objs.size (bindL (envOfC qual scope s.heap.objs.size f cd).kindOf (ps.zip us) λ_=>none) (cellsFrom (s.heap.objs.size+1) scope.names []) (bindC (envOfC qual scope s.heap.objs.size f cd).kindOf (ps.zip us) λ_=>none) s1):
  Inv (Ab CX P w K mg base N qual scope f cd A outer s H E) [] (start N vs) H s1:=by
 have hpl:ps.length<=N.length:=by have:=congrArg List.length S.pre;rw [List.length_take] at this;omega
 obtain ⟨h1,tk,rfl,hk⟩:=x.done;have noA:∀b:Addr,b∉(Ab CX P w K mg base N qual scope f cd A outer s H E).ex:=λb z=>absurd (show b∈([]:List Addr) from z) (by simp);refine ⟨⟨e0.mod,S.kind,rfl,rfl,Nat.le_refl _,λy z c h1 h2=>?_,λy hy=>?_,λy c _ h=>?_,λ_=>hd,Around.frames_deeper e0.frames,.inr ⟨rfl,rfl⟩,λb z=>absurd z (noA b),e0.bs,e0.bsz,λb _ _=>noA b,λb z=>absurd z (noA b),e0.yL,e0.frf⟩,
  rfl,e0.bare,Un.kept hk,⟨_,x.toInCall.ns,λi y v h1 h2 h3=>?_⟩,λy c h=>⟨_,x.cell y c h⟩,e0.hok.fresh (Nat.le_refl _),λy c h=>?_,λp hp=>absurd (show p∈([]:Zl) from hp) (by simp),e0.hok.kept hk,?_⟩
 ·exact name_of_addr x.apart (PySem.mem_of_lookup h1) (PySem.mem_of_lookup h2)
 ·have hy:scope.names.lookup y=some .cell\/scope.names.lookup y=some .free:=hy;rcases hy with hy | hy
  ·exact FQ hy
  ·exact absurd rfl (S.nofree _ (PySem.mem_of_lookup hy))
 ·exact Nat.le_of_lt (x.above y c (PySem.mem_of_lookup h))
 ·have hi:i<vs.length:=by
   unfold start at h2;by_cases hi:i<vs.length
   ·exact hi
   ·rw [List.getElem?_append_right (by simpa using hi)] at h2;rw [List.getElem?_replicate] at h2;split at h2<;>cases h2
  have ha:vs[i]? = some v:=by
   unfold start at h2;rw [List.getElem?_append_left (by simpa using hi),List.getElem?_map] at h2;cases e:vs[i]? with
   |none=>rw [e] at h2;cases h2
   |some a=>rw [e] at h2;cases h2;rfl
  obtain ⟨u,hu,rv⟩:=r.get ha;have hp:ps[i]? = some y:=by
   rw [← S.pre,List.getElem?_take_of_lt (by omega)];exact h1
  have ndP:ps.Nodup:=by rw [← S.pre];exact S.nd.sublist (List.take_sublist _ _)
  refine ⟨u,rv,?_⟩;rcases S.par y (List.mem_of_getElem? hp) with k | k
  ·exact .inl ⟨k,Af ndP hp hu k⟩
  ·obtain ⟨c,e⟩:=FQ (n:=s.heap.objs.size+1) k;refine .inr ⟨.inl k,c,e,?_⟩;have q:=x.cell y c e;rw [Bf ndP hp hu (by show scope.names.lookup y≠_;rw [k];decide)] at q;exact q
 ·exact e0.hok.fresh (Nat.le_of_lt (x.above y c (PySem.mem_of_lookup h)))
 ·unfold start;show _=N.length;rw [List.length_append,List.length_map,List.length_replicate];omega
theorem aau {CX:CXT}{P:Program}{w:World}{K:W.Frag}{mg:Zp}{base:Heap}{k:Nat}{f:Addr}{name qual:Str}{params:Arguments}{body:List Stmt}{scope:Scope}{dV kV doc pm cdv ct oc:Value}{an od:Option Addr}
  {osl:Array (Option Value)} {N ps:List Str} {sp:Sp} (lk:K.lookup f=some ⟨oc,od,.func (W.fnOf name qual params body scope dV kV doc pm an cdv ct),osl⟩) (hcd:W.codeIn K cdv qual=true) (S:aY N ps scope)
  (len:∀vs H Q E,sp vs H Q E->vs.length=ps.length)
  (hbody:∀(A:Around) (outer:List Env) (s:Shared) (H:Hp) (vs:List V) (Q:VK) (E:XK),fM k (A.deeper (envOfC qual scope s.heap.objs.size f cdv))->sp vs H Q E->
   ∃t,PSs (Ab CX P w K mg base N qual scope f cdv A outer s H E) body t/\t { nx:=λ_ H'=>Q .non H',rt:=Q } (start N vs) H):
  cB P w K mg base CX (k+1) f (W.fnOf name qual params body scope dV kV doc pm an cdv ct) ps sp:=by
 refine ⟨len,λA outer s H args us vs Q E hr e0 hb r hsp=>?_⟩;have hl:=len _ _ _ _ hsp;have KX:K.In s.heap:=e0.mod.kin.keeps λb o e=>(e0.bs b o e).1;have lim:s.heap.NoLimit:=e0.mod.nolimit.keeps λb o e=>(e0.bs b o e).1;have hkind:∀y∈ps.zip us,scope.names.lookup y.1=some .local\/(scope.names.lookup y.1=some .cell/\((cellsFrom (s.heap.objs.size+1) scope.names []).lookup y.1).isSome=true):=λ⟨n,v⟩ hy=>by
  rcases S.par n (List.of_mem_zip hy).1 with q | q
  ·exact .inl q
  ·exact .inr ⟨q,W.cellsFrom_some _ _ _ (.inl q)⟩
 refine codeAny_call_function hr.depth (KX _ _ lk) rfl S.co S.gen rfl (W.codeRec_of KX hcd) (hb _ _ _ _ ?_);refine wpAny_newFunctionEnv_cells S.kind hkind λenv he s1 x=>?_;subst he;refine ⟨lim.keeps x.toInCall.keep,codeAny_func ?_⟩;obtain ⟨t,ht,hq⟩:=hbody A outer s H vs Q E (hr.deeper _) hsp;have I:Inv (Ab CX P w K mg base N qual scope f cdv A outer s H E) [] (start N vs) H s1:=Od S hr.hd e0 hl r x;refine wpAny_mono (ht [] s1 (start N vs) H _ I hq) (λfl s' hs=>?_) λe s' hs=>hs;have fin:∀{σ':St} {H':Hp} {v:V} {u:Value},Inv (Ab CX P w K mg base N qual scope f cdv A outer s H E) [] σ' H' s'->RelV v u->Q v H'->CE outer P w H s Q u s':=
  λ{σ' H' v u} J rv q=>⟨v,H',J.os,J.bare,J.base,J.hok,rv,q⟩
 cases fl with
 |ret u=>
  obtain ⟨v,σ',H',J,rv,q⟩:=hs;exact fin J rv q
 |next=>
  obtain ⟨σ',H',J,q⟩:=hs;exact fin (v:=V.non) (u:=Value.none) J rfl q
 |brk=>
  obtain ⟨_,_,_,q⟩:=hs;exact False.elim q
 |cont=>
  obtain ⟨_,_,_,q⟩:=hs;exact False.elim q
section
variable {X:Cx}{x:Str}{p pos:Pos}{e:Expr}{es:List Expr}{t:TA}{id T:String}{r:List V->Hp->VK->Prop}
def tCB (r:List V->Hp->VK->Prop)(t:TA):TE:=λσ H Q=>t σ H λvs H1=>r vs H1 Q
theorem FP (hc:gG X (.builtin id) r)(hg:Gl X x)(hm:X.mg x=none)(hv:bootBuiltins x=some (.builtin id))(ha:PA X (e::es) t)(hn:x≠"__name__":=by decide)(hdb:(x == ("__debug__" : Str))=false:=by decide)
  (he:starEach (e::es) X.env=(false,eval e X.env)::starEach es X.env:=by rfl) (hpl:(backTo pos (starEach es X.env)).any (·.1)=false:=by rfl):PE X (.Call (.Name x p) (e::es) [] pos) (tCB r t):=by
 intro pins s σ H Q I h;refine wpAny_Call_Name_kw (qZ I hg hm hv ?_ hn hdb);exact PyProof.Rows.callWith_builtin1 (thn (ha pos pins s σ H _ I h) λus s1 hE=>xq2 hE λvs H1 I1 r1 q1=>hc pins s1 σ H1 vs us Q I1 r1 q1) he hpl
theorem vK (hc:gG X (.type T) r)(hg:Gl X x)(hm:X.mg x=none)(hv:bootBuiltins x=some (.type T))(ha:PA X (e::es) t)(hn:x≠"__name__":=by decide)(hdb:(x == ("__debug__" : Str))=false:=by decide)
  (he:starEach (e::es) X.env=(false,eval e X.env)::starEach es X.env:=by rfl) (hpl:(backTo pos (starEach es X.env)).any (·.1)=false:=by rfl):PE X (.Call (.Name x p) (e::es) [] pos) (tCB r t):=by
 intro pins s σ H Q I h;refine wpAny_Call_Name_kw (qZ I hg hm hv ?_ hn hdb);exact PyProof.Rows.callWith_type1 (thn (ha pos pins s σ H _ I h) λus s1 hE=>xq2 hE λvs H1 I1 r1 q1=>hc pins s1 σ H1 vs us Q I1 r1 q1) he hpl
end
end L2
namespace HT
open PySem PyProof.Rows
def lexLt:List Int->List Int->Bool
 |[],[]=>false
 |[],_::_=>true
 |_::_,[]=>false
 |x::xs,y::ys=>if x=y then lexLt xs ys else decide (x<y)
theorem Ir (x y:Int)(xs ys:List Int):lexLt (x::xs) (y::ys)=if x=y then lexLt xs ys else decide (x<y):=rfl
theorem zP:lexLt [] []=false:=rfl
theorem zG (y:Int)(ys:List Int):lexLt [] (y::ys)=true:=rfl
theorem yC (x:Int)(xs:List Int):lexLt (x::xs) []=false:=rfl
theorem O6 (A:Around)(s:Shared)(a:Int)(t:Tok)(c:Int)(u:Tok):∃e,SeqAt.EqAt A s (.int a t) (.int c u) e/\(e=true↔a=c):=
 ⟨(a == c),SeqAt.EqAt.int_int a t c u,by simp⟩
theorem R5 (A:Around)(s:Shared)(a:Int)(t:Tok)(c:Int)(u:Tok)(prog:Program)(w:World)(E:Zs)(Q:Zs)(h:Q (.bool (decide (a<c))) s):
  wpAny (model prog w) A (richCompare .Lt (.int a t) (.int c u)) Q E s:=
 (PyProof.Rows.lt_int h:wpAny (model prog w) A (compareOp .Lt (.int a t) (.int c u)) Q E s)
section
open PySem.SeqAt
open PySem.AutoSeq1 (wpAny_loadPart')
open PySem.MeetsSeq PySem.MeetsSeq2 PySem.MeetsSeq3
theorem z6 (l b:Addr)(items items2:Array Value)(n n2:Nat)(dd dd2:Option Addr)(sl sl2:Array (Option Value))(ns ms:List Int)(hi:IntsAre items.toList ns)(hj:IntsAre items2.toList ms):
  Meets (Builtin.«tuple.__lt__» ⟨[.ref l,.ref b],[]⟩)
   (λ_ R s=>s.heap.get? l=some { cls:=.type "tuple",dict:=dd,data:=.seq items n,slots:=sl }/\s.heap.get? b=some { cls:=.type "tuple",dict:=dd2,data:=.seq items2 n2,slots:=sl2 }/\
    R (.ok (.ret (.bool (lexLt ns ms)))) s):=
 .of_wp λprog w A R s h=>by
  obtain ⟨hp,g,d,tk,os⟩:=s;obtain ⟨hl,hb,h⟩:=h;have f2:=AutoSeq1.sub_tuple_tuple;have z1:items.size=ns.length:=by rw [← hi.length];simp
  have z2:items2.size=ms.length:=by rw [← hj.length];simp
  wp_walk using wpAny_loadPart' hl,wpAny_loadPart' hb,wpAny_forIn_list _ (λrest b s'=>b.1=none/\s'=⟨hp,g,d,tk,os⟩/\∃(vs ws:List Value) (ns' ms':List Int),rest=vs.zip ws/\
   IntsAre vs ns'/\IntsAre ws ms'/\ns'.length+items2.size=ms'.length+items.size/\R (.ok (.ret (.bool (lexLt ns' ms')))) ⟨hp,g,d,tk,os⟩) _
  case turn=>
   rintro ⟨y,x⟩ rest b s' ⟨hb',rfl,vs,ws,ns',ms',hz,hvi,hwi,hlen,hR⟩;cases hvi with
   |nil=>rw [List.zip_nil_left] at hz;cases hz
   |cons a t hvi'=>
    cases hwi with
    |nil=>rw [List.zip_nil_right] at hz;cases hz
    |cons c u hwi'=>
     rw [List.zip_cons_cons] at hz;injection hz with hyx hrest
     injection hyx with hy hx
     subst hy hx;rw [Ir] at hR;simp only [List.length_cons] at hlen;obtain ⟨e,he,hiff⟩:=O6 A.in1 ⟨hp,g,d,tk,os⟩ a t c u;refine wpAny_bind (he prog w _ _ ?_);cases e with
     |true=>
      rw [if_pos (hiff.mp rfl)] at hR
      wp_walk
      exact ⟨rfl,rfl,_,_,_,_,hrest,hvi',hwi',by omega,hR⟩
     |false=>
      rw [if_neg (λq=>absurd (hiff.mpr q) Bool.false_ne_true)] at hR;have hri:=R5 A.in1 ⟨hp,g,d,tk,os⟩ a t c u prog w
      wp_walk using hri
      exact ⟨_,rfl,by simpa using hR⟩
  case fin=>
   rintro ⟨b1,b2⟩ s' ⟨hb',rfl,vs,ws,ns',ms',hz,hvi,hwi,hlen,hR⟩;simp only at hb';subst hb';have hv:lexLt ns' ms'=decide (items.size<items2.size):=by
    cases hvi with
    |nil=>
     cases hwi with
     |nil=>
      simp only [List.length_nil] at hlen;rw [zP];exact (decide_eq_false (by omega)).symm
     |cons c u hw=>
      simp only [List.length_nil,List.length_cons] at hlen;rw [zG];exact (decide_eq_true (by omega)).symm
    |cons a t hv=>
     cases hwi with
     |nil=>
      simp only [List.length_nil,List.length_cons] at hlen;rw [yC];exact (decide_eq_false (by omega)).symm
     |cons c u hw=>
      rw [List.zip_cons_cons] at hz;cases hz
   rw [hv] at hR
   wp_walk
   exact ⟨_,rfl,by simpa [Builtin.Tuple.tupleCompareSizes] using hR⟩
  case h=>
   exact ⟨rfl,rfl,items.toList,items2.toList,ns,ms,rfl,hi,hj,by omega,h⟩
end
section
variable {prog:Program}{w:World}{A:Around}{E:Zs}{s:Shared}
theorem Ie {l b:Addr}{items items2:Array Value}{ns ms:List Int}{Q:Zs}(hl:IsTup s.heap l items)(hb:IsTup s.heap b items2)(hi:IntsAre items.toList ns)(hj:IntsAre items2.toList ms)
  (hu:A.units<cLine) (h:Q (.bool (lexLt ns ms)) s):wpAny (model prog w) A (compareOp .Lt (.ref l) (.ref b)) Q E s:=by
 obtain ⟨⟨cls,dd,data,sl⟩,ho,hc,n,hd⟩:=id hl;obtain ⟨⟨cls2,dd2,data2,sl2⟩,ho2,hc2,n2,hd2⟩:=id hb;simp only at hc hd hc2 hd2;subst hc hd hc2 hd2;exact richCompare_meets_room (op:=.Lt) ⟨_,ho,rfl⟩ ⟨_,ho2,rfl⟩ PySem.F.slot_tuple_lt PySem.F.entry_tuple_lt (PySem.F.args_tuple_lt_2 _ _) (z6 l b items items2 n n2 dd dd2 sl sl2 ns ms hi hj)
  ⟨ho,ho2,show Value.bool (lexLt ns ms)≠Value.notImplemented/\Q (.bool (lexLt ns ms)) s from ⟨(λx=>nomatch x),h⟩⟩ hu
theorem V7 {t b:Addr}{vs ws:List Value}{Q:Zs}(ht:IsTup s.heap t vs.toArray)(hb:IsTup s.heap b ws.toArray)(hv:vs≠[])
  (h1:ws=[]->Q (.ref t) s) (h2:ws≠[]->Q (.ref s.heap.objs.size) { s with heap:=s.heap.push { cls:=.type "tuple",data:=.seq (vs++ws).toArray } })
  (hsz:vs.length+ws.length<=sizeLine):wpAny (model prog w) A (binaryOp .Add (.ref t) (.ref b)) Q E s:=by
 obtain ⟨⟨cls,dd,data,sl⟩,ho,hc,n,hd⟩:=id ht;obtain ⟨⟨cls2,dd2,data2,sl2⟩,ho2,hc2,n2,hd2⟩:=id hb;simp only at hc hd hc2 hd2;subst hc hd hc2 hd2;have e:vs.toArray++ws.toArray=(vs++ws).toArray:=by simp
 by_cases hw:ws=[]
 ·exact concat_meets ⟨_,ho,rfl⟩ ⟨_,ho2,rfl⟩ noFill_tuple_add seq_tuple_add PySem.F.slot_tuple_add PySem.F.entry_tuple_add (PySem.F.args_tuple_add_2 _ _)
   (tuple_addW1 t b vs.toArray ws.toArray n n2 dd dd2 sl sl2 (by simpa using hv) (by simp [hw])) ⟨ho,ho2,h1 hw⟩
 ·refine concat_meets ⟨_,ho,rfl⟩ ⟨_,ho2,rfl⟩ noFill_tuple_add seq_tuple_add PySem.F.slot_tuple_add PySem.F.entry_tuple_add (PySem.F.args_tuple_add_2 _ _)
   (tuple_addW2 t b vs.toArray ws.toArray n n2 dd dd2 sl sl2 (by simpa using hv) (by simpa using hw) (by rw [List.size_toArray,List.size_toArray];exact hsz)) ⟨ho,ho2,?_⟩
  rw [e];exact h2 hw
def sIx (n d:Nat):Option Int->Nat
 |none=>d
 |some v=>if v<0 then (v+(n:Int)).toNat else min v.toNat n
theorem YB (n d:Nat)(hd:d<=n)(o:Option Int):sIx n d o<=n:=by
 cases o with
 |none=>exact hd
 |some v=>
  show (if v<0 then (v+(n:Int)).toNat else min v.toNat n)<=n;by_cases hv:v<0
  ·rw [if_pos hv];omega
  ·rw [if_neg hv];exact Nat.min_le_right _ _
theorem Lj (v:Int)(n d:Nat):(if v<0 then max (v+(n:Int)) 0 else min v (n:Int))=((sIx n d (some v):Nat):Int):=by
 show (if v<0 then max (v+(n:Int)) 0 else min v (n:Int))=(((if v<0 then (v+(n:Int)).toNat else min v.toNat n):Nat):Int);by_cases hv:v<0
 ·simp only [if_pos hv];omega
 ·simp only [if_neg hv];omega
theorem Jg (lo hi:Option Int)(n:Nat):Builtin.Slice.sliceAdjust lo hi 1 (n:Int)=(((sIx n 0 lo:Nat):Int),((sIx n n hi:Nat):Int)):=by
 have h1:¬((1:Int)<0):=by omega
 unfold Builtin.Slice.sliceAdjust;simp only [h1,if_false];refine Prod.ext ?_ ?_
 ·cases lo with
  |none=>rfl
  |some v=>exact Lj v n 0
 ·cases hi with
  |none=>rfl
  |some v=>exact Lj v n n
theorem Js (i j:Nat):Builtin.Slice.slicePlaces (i:Int) (j:Int) 1=j-i:=by
 unfold Builtin.Slice.slicePlaces;have h1:(1:Int) > 0:=by omega
 simp only [h1,if_true,Int.ediv_one];split<;>omega
theorem zL {v:Value}{o:Option Int}{Q:Option Int->Shared->Prop}(p:IsPart v o)(h:Q o s):wpAny (model prog w) A (Builtin.Slice.slicePartIndex v) Q E s:=by
 cases p with
 |none=>exact slicePart_none h
 |int i t=>exact slicePart_int h
theorem vQ {sl:Addr}{vl vu:Value}{lo hi:Option Int}{n:Nat}{Q:Int×Int×Nat->Shared->Prop}(hs:s.heap.IsSliceOf sl vl vu .none)(pl:IsPart vl lo)(pu:IsPart vu hi)
  (h:Q (((sIx n 0 lo:Nat):Int),1,sIx n n hi-sIx n 0 lo) s):wpAny (model prog w) A (Builtin.Slice.sliceApplied (.ref sl) (pure (n:Int))) Q E s:=by
 obtain ⟨os,hos,hcs,hds⟩:=id hs;unfold Builtin.Slice.sliceApplied Builtin.Slice.sliceFields;refine wpAny_bind (wpAny_bind (wpAny_field hos hds (x:=vl) rfl (wpAny_bind (wpAny_field hos hds (x:=vu) rfl (wpAny_bind (wpAny_field hos hds (x:=.none) rfl (wpAny_pure ?_)))))));refine wpAny_bind (slicePart_none ?_);show wpAny _ _ (if ((1:Int) == 0)=true then _ else _) _ _ s;rw [if_neg (by decide)];refine wpAny_bind (zL pl (wpAny_bind (zL pu (wpAny_bind (wpAny_pure ?_)))));show wpAny _ _ (match Builtin.Slice.sliceAdjust lo hi 1 (n:Int) with | (lo,hi)=>pure (lo,(1:Int),Builtin.Slice.slicePlaces lo hi 1)) _ _ s;rw [Jg lo hi n];show wpAny _ _ (pure (((sIx n 0 lo:Nat):Int),(1:Int),Builtin.Slice.slicePlaces ((sIx n 0 lo:Nat):Int) ((sIx n n hi:Nat):Int) 1)) _ _ s;rw [Js];exact wpAny_pure h
theorem RX (xs:Array Value)(i k:Nat):((List.range k).filterMap λ(m:Nat)=>xs[((i:Int)+(m:Int)*1).toNat]?).toArray=((xs.toList.drop i).take k).toArray:=by
 have e:(λ(m:Nat)=>xs[((i:Int)+(m:Int)*1).toNat]?)=λm=>xs[i+m]?:=by
  funext m
  have:((i:Int)+(m:Int)*1).toNat=i+m:=by omega
  rw [this]
 rw [e]
 have:=pick_run xs i k
 rw [List.filterMap_map] at this;have e2:((λx=>xs[x]?) ∘ λx=>i+x)=λm=>xs[i+m]?:=rfl;rw [e2] at this;rw [this]
theorem vG {t sl:Addr}{items:Array Value}{vl vu:Value}{lo hi:Option Int}{Q:Zs}(ht:IsTup s.heap t items)(hs:s.heap.IsSliceOf sl vl vu .none)(pl:IsPart vl lo)(pu:IsPart vu hi)
  (hw:¬(sIx items.size 0 lo=0/\sIx items.size items.size hi=items.size))
  (h:Q (.ref s.heap.objs.size) { s with heap:=s.heap.push { cls:=.type "tuple",data:=.seq ((items.toList.drop (sIx items.size 0 lo)).take (sIx items.size items.size hi-sIx items.size 0 lo)).toArray } })
  (hsz:items.size<=sizeLine):wpAny (model prog w) A (getItem (.ref t) (.ref sl)) Q E s:=by
 have htake:sizeOk (.seq ((items.toList.drop (sIx items.size 0 lo)).take (sIx items.size items.size hi-sIx items.size 0 lo)).toArray):=by
  show ((items.toList.drop (sIx items.size 0 lo)).take (sIx items.size items.size hi-sIx items.size 0 lo)).toArray.size<=sizeLine;rw [List.size_toArray,List.length_take,List.length_drop,Array.length_toList];omega
 have hj:sIx items.size items.size hi<=items.size:=YB _ _ (Nat.le_refl _) hi;obtain ⟨os,hos,hcs,hds⟩:=id hs;have hTs:s.TypeIs (.ref sl) "slice":=⟨os,hos,hcs⟩;unfold getItem
 try with_reducible refine wpAny_holding ?_
 first | refine wpAny_bind (wpAny_pure ?_) | skip
 refine wpAny_bind (wpAny_sequenceKey ht.typeIs (by decide) ?_);refine wpAny_bind (wpAny_callSpecial?_slot (name:=Str.ofString "__getitem__") ht.typeIs PyProof.Rows.slot_tuple_getitem
  (wpAny_call_entry PyProof.Rows.slot_tuple_getitem ht.typeIs entry_tuple_getitem ?_ (args_tuple_getitem _ _)))
 show wpAny _ _ (Builtin.Tuple.tupleItemsOf (.ref t) >>= _) _ _ s;refine wpAny_bind (tupleItemsOf_ ht ?_);refine wpAny_bind (wpAny_typeOf hTs ?_);rw [if_pos (by decide)];refine wpAny_bind (vQ hs pl pu ?_);have hno:¬((((sIx items.size 0 lo:Nat):Int) == 0 && (1:Int) == 1 && (sIx items.size items.size hi-sIx items.size 0 lo) == items.size)=true):=by
  intro q;rw [Bool.and_eq_true,Bool.and_eq_true] at q;have q1:((sIx items.size 0 lo:Nat):Int)=0:=eq_of_beq q.1.1;have q2:sIx items.size items.size hi-sIx items.size 0 lo=items.size:=eq_of_beq q.2;exact hw ⟨by omega,by omega⟩
 show wpAny _ _ (if (((sIx items.size 0 lo:Nat):Int) == 0 && (1:Int) == 1 && (sIx items.size items.size hi-sIx items.size 0 lo) == items.size)=true then _ else _) _ _ s;rw [if_neg hno,RX]
 first
  |exact wpAny_bind (m:=Builtin.Tuple.tupleExact _) (wpAny_newObj_type (wpAny_pure ⟨_,rfl,wpAny_pure h⟩) htake)
  |exact wpAny_bind (m:=Builtin.Tuple.tupleExact _) (wpAny_newObj_type (wpAny_bind (wpAny_pure (wpAny_pure ⟨_,rfl,wpAny_pure h⟩))) htake)
  |exact wpAny_bind (wpAny_bind (m:=Builtin.Tuple.tupleExact _) (wpAny_newObj_type (wpAny_pure (wpAny_pure ⟨_,rfl,wpAny_pure h⟩)) htake))
  |exact wpAny_bind (wpAny_bind (m:=Builtin.Tuple.tupleExact _) (wpAny_newObj_type (wpAny_pure ⟨_,rfl,wpAny_pure h⟩) htake))
end
end HT
namespace L2
open PySem PySem.Spec PyProof.Rows
abbrev TO:=St->Hp->(Option Int->Hp->Prop)->Prop
def PO (X:Cx)(e:Option Expr)(t:TO):Prop:=
 ∀(pins:Zl) (s:Shared) (σ:St) (H:Hp) (Q:Option Int->Hp->Prop),Inv X pins σ H s->t σ H Q->
  wpAny (model X.prog X.w) X.A (evalPart e X.env) (λu s'=>∃o H',Inv X pins σ H' s'/\IsPart u o/\Q o H') X.xe s
def VF:TO:=λ_ H Q=>Q none H
def aay (t:TE):TO:=λσ H Q=>t σ H λx H1=>∃i,x=.int i/\Q (some i) H1
theorem intsAre_of {ns:List Int}:∀{us:List Value},Vals (ns.map V.int) us->IntsAre us ns:=by
 induction ns with
 |nil=>intro us r;rw [List.map_nil] at r;cases r;exact .nil
 |cons n ns ih=>
  intro us r;rw [List.map_cons] at r;cases r with
  |cons r1 r2=>
   obtain ⟨t,e⟩:=r1;subst e;exact .cons n t (ih r2)
section
variable {X:Cx}{e:Expr}{te:TE}{lo hi:Option Expr}{tl th:TO}{pos p2:Pos}
theorem Vk:PO X none VF:=by
 intro pins s σ H Q I h;rw [evalPart_none];exact wpAny_pure ⟨none,H,I,.none,h⟩
theorem Tr (h:PE X e te):PO X (some e) (aay te):=by
 intro pins s σ H Q I hw;rw [evalPart_some];refine thn (h pins s σ H _ I hw) λu s1 hE=>xq2 hE λx H1 I1 r1 q1=>?_;obtain ⟨i,rfl,q⟩:=q1;obtain ⟨t,rfl⟩:=r1;exact ⟨some i,H1,I1,.int i t,q⟩
def SlR (X:Cx)(r:V->Option Int->Option Int->Hp->VK->Prop):Prop:=
 ∀(pins:Zl) (s:Shared) (σ:St) (H:Hp) (x:V) (v vl vu:Value) (lo hi:Option Int) (sl:Addr) (Q:VK),Inv X pins σ H s->RelV x v->s.heap.IsSliceOf sl vl vu .none->IsPart vl lo->IsPart vu hi->r x lo hi H Q->
  ∃T id,typeLookup (.type T) "__getitem__" = pure (some (.builtin id))/\s.TypeIs v T/\wpAny (model X.prog X.w) X.A (getItem v (.ref sl)) (EP X pins σ Q) X.xe s
def tSl (r:V->Option Int->Option Int->Hp->VK->Prop)(te:TE)(tl th:TO):TE:=λσ H Q=>te σ H λx H1=>tl σ H1 λl H2=>th σ H2 λu H3=>r x l u H3 Q
theorem Q4 {r:V->Option Int->Option Int->Hp->VK->Prop}(hr:SlR X r)(he:PE X e te)(hl:PO X lo tl)(hu:PO X hi th):PE X (.Subscript e (.Slice lo hi none p2) pos) (tSl r te tl th):=by
 intro pins s σ H Q I h;refine Subscript_ (thn (he pins s σ H _ I h) λv s1 hE=>xq2 hE λx H1 I1 r1 q1=>?_);refine wpAny_Slice (thn (hl pins s1 σ H1 _ I1 q1) λvl s2 ⟨l,H2,I2,pl,q2⟩=>thn (hu pins s2 σ H2 _ I2 q2) λvu s3 ⟨u,H3,I3,pu,q3⟩=>?_);rw [evalPart_none];refine wpAny_pure ?_;have I4:Inv X pins σ H3 { s3 with heap:=s3.heap.push { cls:=.type "slice",data:=.fields #[vl,vu,.none] } }:=I3.kept (t':=s3.toks) λb ob q=>Heap.get?_push_of_some _ q;obtain ⟨T,id,hT,ht,hg⟩:=hr pins { s3 with heap:=s3.heap.push { cls:=.type "slice",data:=.fields #[vl,vu,.none] } } σ H3 x v vl vu l u s3.heap.objs.size Q I4 r1 (Heap.IsSliceOf.new ..) pl pu q3;show wpAny (model X.prog X.w) X.A (subscriptTail e (.Slice lo hi none p2) v (.ref s3.heap.objs.size)) (EP X pins σ Q) X.xe { s3 with heap:=s3.heap.push { cls:=.type "slice",data:=.fields #[vl,vu,.none] } };exact tail_any (ops:=[.ref s3.heap.objs.size,v]) ht hT hg (by with_unfolding_all rfl)
def Fo (xs:List V)(lo hi:Option Int):List V:=(xs.drop (HT.sIx xs.length 0 lo)).take (HT.sIx xs.length xs.length hi-HT.sIx xs.length 0 lo)
theorem wW (xs:List V)(lo hi:Option Int):(Fo xs lo hi).length<=xs.length:=by
 unfold Fo;rw [List.length_take,List.length_drop];omega
def abk (K:W.Frag):V->Option Int->Option Int->Hp->VK->Prop:=λx lo hi H Q=>∃a xs,x=.ref a/\SqT K H a xs/\
 ¬(HT.sIx xs.length 0 lo=0/\HT.sIx xs.length xs.length hi=xs.length)/\∀p,H p=none->Q (.ref p) (upd H p (.tup (Fo xs lo hi)))
theorem Yl:SlR X (abk X.K):=by
 intro pins s σ H x v vl vu lo hi sl Q I rx hs pl pu h;obtain ⟨a,xs,rfl,hx,hw,q⟩:=h;cases rx;obtain ⟨its,r,ht,hz⟩:=I.tuple hx;have hlen:its.toArray.size=xs.length:=by rw [List.size_toArray];exact r.length.symm
 refine ⟨"tuple",_,PyProof.Rows.slot_tuple_getitem.lookup,ht.typeIs,?_⟩;refine HT.vG ht hs pl pu (by rw [hlen];exact hw) ?_ (by rw [hlen];exact hz);rw [hlen];refine ⟨.ref s.heap.objs.size,_,I.laid (t':=s.toks) (o:=.tup (Fo xs lo hi)) (λb ob q=>Heap.get?_push_of_some _ q) (Nat.le_refl _) ?_,rfl,q _ (I.hok.fresh (Nat.le_refl _))⟩;exact ⟨Nat.le_trans (wW xs lo hi) hz,_,(r.drop (HT.sIx xs.length 0 lo)).take (HT.sIx xs.length xs.length hi-HT.sIx xs.length 0 lo),IsTup.new _ _⟩
def abF (K:W.Frag):R2:=λx y H Q=>∃a b ns ms,x=.ref a/\y=.ref b/\SqT K H a (ns.map V.int)/\SqT K H b (ms.map V.int)/\Q (.bl (HT.lexLt ns ms)) H
theorem Xg (hu:X.A.units<cLine):OpR X (compareOp .Lt) (abF X.K):=by
 intro pins s σ H x y v u Q I rx ry h;obtain ⟨a,b,ns,ms,rfl,rfl,ha,hb,q⟩:=h;cases rx;cases ry;obtain ⟨its,r1,p1,_⟩:=I.tuple ha;obtain ⟨its2,r2,p2,_⟩:=I.tuple hb;have i1:IntsAre its.toArray.toList ns:=intsAre_of r1;have i2:IntsAre its2.toArray.toList ms:=intsAre_of r2;exact HT.Ie p1 p2 i1 i2 hu ⟨.bl (HT.lexLt ns ms),H,I,rfl,q⟩
def Z7 (K:W.Frag):R2:=λx y H Q=>∃a b xs ys,x=.ref a/\y=.ref b/\SqT K H a xs/\SqT K H b ys/\xs≠[]/\xs.length+ys.length<=sizeLine/\
 (ys=[]->Q (.ref a) H)/\(ys≠[]->∀p,H p=none->Q (.ref p) (upd H p (.tup (xs++ys))))
theorem Vals.DY {xs:List V}{us:List Value}(r:Vals xs us):us=[]↔xs=[]:=by
 cases r with
 |nil=>simp
 |cons _ _=>simp
theorem V1:OpR X (binaryOp .Add) (Z7 X.K):=by
 intro pins s σ H x y v u Q I rx ry h;obtain ⟨a,b,xs,ys,rfl,rfl,ha,hb,hx,hz,q1,q2⟩:=h;cases rx;cases ry;obtain ⟨its,r1,p1,_⟩:=I.tuple ha;obtain ⟨its2,r2,p2,_⟩:=I.tuple hb;refine HT.V7 p1 p2 (λz=>hx (r1.DY.mp z)) (λz=>⟨.ref a,H,I,rfl,q1 (r2.DY.mp z)⟩) (λz=>?_) (by rw [← r1.length,← r2.length];exact hz);refine ⟨.ref s.heap.objs.size,_,I.laid (t':=s.toks) (o:=.tup (xs++ys)) (λb ob q=>Heap.get?_push_of_some _ q) (Nat.le_refl _) ?_,rfl,q2 (λw=>z (r2.DY.mpr w)) _ (I.hok.fresh (Nat.le_refl _))⟩;exact ⟨by rw [List.length_append];exact hz,_,r1.append r2,IsTup.new _ _⟩
end
def ixN (n:Nat)(i:Int):Option Nat:=if 0<=i then (if i<n then some i.toNat else none) else if -(n:Int)<=i then some (i+n).toNat else none
def atI {α:Type}(xs:List α)(i:Int):Option α:=(ixN xs.length i).bind λj=>xs[j]?
theorem Uj {n:Nat}{i:Int}{j:Nat}(h:ixN n i=some j):seqIndex? i n=some j/\j<n/\-(n:Int)<=i/\i<n:=by
 unfold ixN at h;by_cases h0:0<=i
 ·rw [if_pos h0] at h;by_cases h1:i<n
  ·rw [if_pos h1] at h;have e:i.toNat=j:=Option.some.inj h;exact ⟨by rw [seqIndex_of h0 h1,e],by omega,by omega,h1⟩
  ·rw [if_neg h1] at h;cases h
 ·rw [if_neg h0] at h;by_cases h1:-(n:Int)<=i
  ·rw [if_pos h1] at h;have e:(i+n).toNat=j:=Option.some.inj h;exact ⟨by rw [seqIndex_neg (by omega) h1,e],by omega,h1,by omega⟩
  ·rw [if_neg h1] at h;cases h
theorem Ed {α:Type}{xs:List α}{i:Int}{v:α}(h:atI xs i=some v):∃j,seqIndex? i xs.length=some j/\xs[j]? = some v/\j<xs.length/\-(xs.length:Int)<=i/\i<xs.length:=by
 unfold atI at h;cases e:ixN xs.length i with
 |none=>rw [e] at h;cases h
 |some j=>
  rw [e] at h;obtain ⟨h1,h2,h3,h4⟩:=Uj e;exact ⟨j,h1,h,h2,h3,h4⟩
theorem Cg {α:Type}{xs:List α}{j:Nat}{v:α}(h:xs[j]? = some v):atI xs (j:Int)=some v:=by
 have hj:j<xs.length:=(List.getElem?_eq_some_iff.mp h).1;have e:ixN xs.length (j:Int)=some j:=by
  unfold ixN;rw [if_pos (by omega),if_pos (by omega)];simp
 unfold atI;rw [e];exact h
def JW (b:Expr):Prop:=∀o i,subscripted b false o i=operate [o,i] (getItem o i)
def IxR (X:Cx)(r:R2):Prop:=
 ∀(value slice:Expr) (pins:Zl) (s:Shared) (σ:St) (H:Hp) (x y:V) (v u:Value) (Q:VK),Inv X pins σ H s->RelV x v->RelV y u->r x y H Q->
  subscripted slice false v u=operate [v,u] (getItem v u)->wpAny (model X.prog X.w) X.A (subscriptTail value slice v u) (EP X pins σ Q) X.xe s
def MtR (X:Cx)(id:String)(r:V->List V->Hp->VK->Prop):Prop:=
 ∀(pins:Zl) (s:Shared) (σ:St) (H:Hp) (x:V) (xs:List V) (v:Value) (us:List Value) (Q:VK),Inv X pins σ H s->RelV x v->Vals xs us->r x xs H Q->
  wpAny (model X.prog X.w) X.A (call (.builtin id) (v::us)) (EP X pins σ Q) X.xe s
section
variable {X:Cx}{a b:Expr}{ta tb:TE}{pos:Pos}
theorem aaG {r:R2}(hr:IxR X r)(ha:PE X a ta)(hb:PE X b tb)(hs:JW b):PE X (.Subscript a b pos) (tOp r ta tb):=by
 intro pins s σ H Q I h;exact Subscript_ (Xl ha hb I h λv u s2 x y H2 I2 rx ry q=>hr a b pins s2 σ H2 x y v u Q I2 rx ry q (hs _ _))
def aa6 (K:W.Frag):R2:=λx y H Q=>∃p xs i v,x=.ref p/\y=.int i/\SqL K H p xs/\atI xs i=some v/\Q v H
def abn (K:W.Frag):R2:=λx y H Q=>∃p xs i v,x=.ref p/\y=.int i/\SqT K H p xs/\atI xs i=some v/\Q v H
def abf:R2:=λx y H Q=>∃z i c,x=.str z/\y=.int i/\z.length<=sizeLine/\atI z.cps.toList i=some c/\Q (.str ⟨#[c]⟩) H
theorem Tj:IxR X (aa6 X.K):=by
 intro value slice pins s σ H x y v u Q I rx ry h hs;obtain ⟨p,xs,i,z,rfl,rfl,hq,he,q⟩:=h;cases rx;obtain ⟨t,rfl⟩:=ry;obtain ⟨its,r,pl,hz⟩:=I.list hq;obtain ⟨j,h1,h2,h3,h4,h5⟩:=Ed he;obtain ⟨w,ew,rw'⟩:=r.get h2;have hl:=r.length;have hn:=zr;have fin:EP X pins σ Q w s:=⟨z,H,I,rw',q⟩;by_cases h0:0<=i
 ·have hj:i.toNat=j:=by
   rw [seqIndex_of h0 h5] at h1;exact Option.some.inj h1
  exact item_listR pl.isList h0 (by omega) (by rw [hj];simpa using ew) fin hs
 ·have hj:(i+(its.toArray.size:Int)).toNat=j:=by
   rw [seqIndex_neg (by omega) h4] at h1;rw [List.size_toArray,← hl];exact Option.some.inj h1
  exact subscriptTail_builtinR (x:=w) pl.isList.typeIs slot_list_getitem.lookup
   (wpAny_getItem_list_neg (Q:=λr s'=>r=w/\EP X pins σ Q r s') pl.isList (by omega) (by rw [List.size_toArray]<;>omega) (by omega) (by rw [hj];simpa using ew) ⟨rfl,fin⟩) hs
theorem Yy:IxR X (abn X.K):=by
 intro value slice pins s σ H x y v u Q I rx ry h hs;obtain ⟨p,xs,i,z,rfl,rfl,hq,he,q⟩:=h;cases rx;obtain ⟨t,rfl⟩:=ry;obtain ⟨its,r,pl,hz⟩:=I.tuple hq;obtain ⟨j,h1,h2,h3,h4,h5⟩:=Ed he;obtain ⟨w,ew,rw'⟩:=r.get h2;have hl:=r.length;have hn:=zr;have fin:EP X pins σ Q w s:=⟨z,H,I,rw',q⟩;exact subscriptTail_builtinR (x:=w) pl.typeIs slot_tuple_getitem.lookup
  (getItem_tuple (j:=j) (Q:=λr s'=>r=w/\EP X pins σ Q r s') pl (by omega) (by omega) (by rw [List.size_toArray,← hl];exact h1) (by simpa using ew) ⟨rfl,fin⟩) hs
theorem Zc:IxR X abf:=by
 intro value slice pins s σ H x y v u Q I rx ry h hs;obtain ⟨z,i,c,rfl,rfl,hz,he,q⟩:=h;obtain ⟨t,rfl⟩:=rx;obtain ⟨t',rfl⟩:=ry;obtain ⟨j,h1,h2,h3,h4,h5⟩:=Ed he;have hl:z.cps.toList.length=z.length:=by simp [Str.length]
 rw [hl] at h1 h4 h5;have hn:=zr;exact tail_any (typeIs_str s z t) slot_str_getitem.lookup (getItem_str (c:=c) (by
  have e1:decide (i < -(2 ^ 63:Int))=false:=decide_eq_false (by omega);have e2:decide (i ≥ 2 ^ 63)=false:=decide_eq_false (by omega);rw [e1,e2,Bool.or_false]) (by rw [h1];simpa using h2) ⟨.str ⟨#[c]⟩,H,I.tok _,⟨_,rfl⟩,q⟩) hs
theorem Dh (lo hi:Option Int)(n:Nat):(sliceBounds lo hi none n).1=((HT.sIx n 0 lo:Nat):Int)/\(sliceBounds lo hi none n).2.1=((HT.sIx n n hi:Nat):Int)/\(sliceBounds lo hi none n).2.2=1:=by
 refine ⟨?_,?_,rfl⟩
 ·cases lo with
  |none=>simp [sliceBounds,HT.sIx]
  |some i=>
   simp only [sliceBounds,HT.sIx,Option.getD_none,show (1:Int) > 0 by decide,if_true];by_cases h:i<0
   ·simp only [h,if_true]<;>omega
   ·simp only [h,if_false]<;>omega
 ·cases hi with
  |none=>simp [sliceBounds,HT.sIx]
  |some i=>
   simp only [sliceBounds,HT.sIx,Option.getD_none,show (1:Int) > 0 by decide,if_true];by_cases h:i<0
   ·simp only [h,if_true]<;>omega
   ·simp only [h,if_false]<;>omega
theorem zO (its:List Value)(lo hi:Option Int):slicePick its.toArray lo hi none=((its.drop (HT.sIx its.length 0 lo)).take (HT.sIx its.length its.length hi-HT.sIx its.length 0 lo)).toArray:=by
 obtain ⟨h1,h2,h3⟩:=Dh lo hi its.toArray.size;unfold slicePick;rw [h1,h2,h3];simp only [sliceRange_one,pick_run,List.size_toArray]<;>rfl
def abG (K:W.Frag):V->Option Int->Option Int->Hp->VK->Prop:=λx lo hi H Q=>∃a xs,x=.ref a/\SqL K H a xs/\∀p,H p=none->Q (.ref p) (upd H p (.lst (Fo xs lo hi)))
theorem Us:SlR X (abG X.K):=by
 intro pins s σ H x v vl vu lo hi sl Q I rx hs pl pu h;obtain ⟨a,xs,rfl,hx,q⟩:=h;cases rx;obtain ⟨its,r,ht,hz⟩:=I.list hx;have hlen:=r.length;refine ⟨"list",_,slot_list_getitem.lookup,ht.isList.typeIs,?_⟩;refine wpAny_getItem_list_slice ht.isList hs pl pu .none (by simp) ?_ (by rw [List.size_toArray]<;>omega);rw [zO,← hlen];refine ⟨.ref s.heap.objs.size,_,I.laid (t':=s.toks) (o:=.lst (Fo xs lo hi)) (λb ob q=>Heap.get?_push_of_some _ q) (Nat.le_refl _) ?_,rfl,q _ (I.hok.fresh (Nat.le_refl _))⟩;exact ⟨Nat.le_trans (wW xs lo hi) hz,_,0,(r.drop (HT.sIx xs.length 0 lo)).take (HT.sIx xs.length xs.length hi-HT.sIx xs.length 0 lo),Heap.get?_push_size _ rfl⟩
def sY:V->Bool
 | .non=>true
 | .bl _=>true
 | .int _=>true
 | .str _=>true
 |_=>false
def eqV:V->V->Bool
 | .non,.non=>true
 | .bl a,.bl b=>a == b
 | .bl a,.int b=>(if a then 1 else 0) == b
 | .int a,.bl b=>a == (if b then 1 else 0)
 | .int a,.int b=>a == b
 | .str a,.str b=>a == b
 |_,_=>false
theorem Y8 {A:Around}{s:Shared}{y x:V}{u v:Value}(ry:RelV y u)(rx:RelV x v)(fy:sY y=true)(fx:sY x=true):SeqAt.EqAt A s u v (eqV y x):=by
 cases y with
 |non=>
  cases ry;cases x with
  |non=>cases rx;exact SeqAt.EqAt.same _
  |bl b=>cases rx;exact SeqAt.EqAt.none_bool b
  |int b=>obtain ⟨t,rfl⟩:=rx;exact SeqAt.EqAt.none_int b t
  |str b=>obtain ⟨t,rfl⟩:=rx;exact SeqAt.EqAt.none_str b t
  |_=>exact absurd (show false=true from fx) Bool.false_ne_true
 |bl a=>
  cases ry;cases x with
  |non=>cases rx;exact SeqAt.EqAt.bool_none a
  |bl b=>cases rx;exact SeqAt.EqAt.bool_bool a b
  |int b=>obtain ⟨t,rfl⟩:=rx;exact SeqAt.EqAt.bool_int a b t
  |str b=>obtain ⟨t,rfl⟩:=rx;exact SeqAt.EqAt.bool_str a b t
  |_=>exact absurd (show false=true from fx) Bool.false_ne_true
 |int a=>
  obtain ⟨t',rfl⟩:=ry;cases x with
  |non=>cases rx;exact SeqAt.EqAt.int_none a t'
  |bl b=>cases rx;exact SeqAt.EqAt.int_bool a t' b
  |int b=>obtain ⟨t,rfl⟩:=rx;exact SeqAt.EqAt.int_int a t' b t
  |str b=>obtain ⟨t,rfl⟩:=rx;exact SeqAt.EqAt.int_str a t' b t
  |_=>exact absurd (show false=true from fx) Bool.false_ne_true
 |str a=>
  obtain ⟨t',rfl⟩:=ry;cases x with
  |non=>cases rx;exact SeqAt.EqAt.str_none a t'
  |bl b=>cases rx;exact SeqAt.EqAt.str_bool a t' b
  |int b=>obtain ⟨t,rfl⟩:=rx;exact SeqAt.EqAt.str_int a t' b t
  |str b=>obtain ⟨t,rfl⟩:=rx;exact SeqAt.EqAt.str_str a t' b t
  |_=>exact absurd (show false=true from fx) Bool.false_ne_true
 |_=>exact absurd (show false=true from fy) Bool.false_ne_true
def eqU (x:V)(u:Value):Bool:=match u with
 | .none=>eqV .non x
 | .bool b=>eqV (.bl b) x
 | .int i _=>eqV (.int i) x
 | .str z _=>eqV (.str z) x
 |_=>false
theorem QW {x y:V}{u:Value}(r:RelV y u)(f:sY y=true):eqU x u=eqV y x:=by
 cases y with
 |non=>cases r;rfl
 |bl b=>cases r;rfl
 |int i=>obtain ⟨t,rfl⟩:=r;rfl
 |str z=>obtain ⟨t,rfl⟩:=r;rfl
 |_=>exact absurd (show false=true from f) Bool.false_ne_true
theorem uR {x:V}:∀{xs:List V} {us:List Value},Vals xs us->xs.all sY=true->us.any (eqU x)=xs.any λy=>eqV y x
 |_,_,.nil,_=>rfl
 |y::xs,u::us,.cons r t,f=>by
  rw [List.all_cons,Bool.and_eq_true] at f;rw [List.any_cons,List.any_cons,QW r f.1,uR t f.2]
theorem qL {A:Around}{s:Shared}{x:V}{v:Value}(rx:RelV x v)(fx:sY x=true):∀{xs:List V} {us:List Value},Vals xs us->xs.all sY=true->∀u∈us,SeqAt.EqAt A s u v (eqU x u)
 |_,_,.nil,_=>λu hu=>by cases hu
 |y::xs,u::us,.cons r t,f=>λu' hu=>by
  rw [List.all_cons,Bool.and_eq_true] at f;rcases List.mem_cons.mp hu with rfl | hu
  ·rw [QW r f.1];exact Y8 r rx f.1 fx
  ·exact qL rx fx t f.2 u' hu
def inV (x:V)(xs:List V):Bool:=xs.any λy=>eqV y x
def rIn (K:W.Frag)(neg:Bool):R2:=λx y H Q=>∃p xs,y=.ref p/\(SqL K H p xs\/SqT K H p xs)/\sY x=true/\xs.all sY=true/\Q (.bl (if neg then !inV x xs else inV x xs)) H
theorem Bp:OpR X (compareOp .In) (rIn X.K false):=by
 intro pins s σ H x y v u Q I rx ry h;obtain ⟨p,xs,rfl,hq,fx,fs,q⟩:=h;cases ry;rcases hq with hq | hq
 ·obtain ⟨its,r,pl,hz⟩:=I.list hq;refine SeqAt.in_listAt (eqU x) pl.isList (λw hw=>qL rx fx r fs w (by simpa using hw)) ⟨.bl _,H,I,rfl,?_⟩;rw [show its.toArray.any (eqU x)=its.any (eqU x) by simp,uR r fs];exact q
 ·obtain ⟨its,r,pl,hz⟩:=I.tuple hq;refine SeqAt.in_tupleAt (eqU x) pl (λw hw=>qL rx fx r fs w (by simpa using hw)) ⟨.bl _,H,I,rfl,?_⟩;rw [show its.toArray.any (eqU x)=its.any (eqU x) by simp,uR r fs];exact q
theorem vf:OpR X (compareOp .NotIn) (rIn X.K true):=by
 intro pins s σ H x y v u Q I rx ry h;obtain ⟨p,xs,rfl,hq,fx,fs,q⟩:=h;cases ry;rcases hq with hq | hq
 ·obtain ⟨its,r,pl,hz⟩:=I.list hq;refine SeqAt.notIn_listAt (eqU x) pl.isList (λw hw=>qL rx fx r fs w (by simpa using hw)) ⟨.bl _,H,I,rfl,?_⟩;rw [show its.toArray.any (eqU x)=its.any (eqU x) by simp,uR r fs];exact q
 ·obtain ⟨its,r,pl,hz⟩:=I.tuple hq;refine SeqAt.notIn_tupleAt (eqU x) pl (λw hw=>qL rx fx r fs w (by simpa using hw)) ⟨.bl _,H,I,rfl,?_⟩;rw [show its.toArray.any (eqU x)=its.any (eqU x) by simp,uR r fs];exact q
theorem uB:gG X (.builtin "len") (λxs H Q=>∃p ys,xs=[.ref p]/\(SqL X.K H p ys\/SqT X.K H p ys)/\Q (.int ys.length) H):=by
 intro pins s σ H xs us Q I r h;obtain ⟨p,ys,rfl,hq,q⟩:=h;obtain ⟨u,rfl,rx⟩:=vals1 r;cases rx;have hn:=zr;rcases hq with hq | hq
 ·obtain ⟨its,r',pl,hz⟩:=I.list hq;have hlen:=r'.length;exact Calls.call_len_list pl.isList (by simp only [List.size_toArray]<;>omega) ⟨.int ys.length,H,I.tok _,⟨s.toks+1,by rw [List.size_toArray,hlen]⟩,q⟩
 ·obtain ⟨its,r',pl,hz⟩:=I.tuple hq;have hlen:=r'.length;exact len_tuple pl (by simp only [List.size_toArray]<;>omega) ⟨.int ys.length,H,I.tok _,⟨s.toks+1,by rw [List.size_toArray,hlen]⟩,q⟩
theorem Du:gG X (.builtin "len") (λxs H Q=>∃z,xs=[.str z]/\z.length<=sizeLine/\Q (.int z.length) H):=by
 intro pins s σ H xs us Q I r h;obtain ⟨z,rfl,hz,q⟩:=h;obtain ⟨u,rfl,t,rfl⟩:=vals1 r;have hn:=zr;exact len_str (by omega) ⟨.int z.length,H,I.tok _,⟨_,rfl⟩,q⟩
theorem Fg:gG X (.type "list") (λxs H Q=>∃p ys,xs=[.ref p]/\(SqL X.K H p ys\/SqT X.K H p ys)/\∀l,H l=none->Q (.ref l) (upd H l (.lst ys))):=by
 intro pins s σ H xs us Q I r h;obtain ⟨p,ys,rfl,hq,q⟩:=h;obtain ⟨u,rfl,rx⟩:=vals1 r;cases rx;have fin:∀(its:List Value),Vals ys its->ys.length<=sizeLine->∀(h':Heap) (c':Nat),(∀b o',s.heap.get? b=some o'->h'.get? b=some o')->
   h'.get? s.heap.objs.size=some { cls:=.type "list",dict:=none,data:=.seq its.toArray c',slots:=#[] }->EP X pins σ Q (.ref s.heap.objs.size) { s with heap:=h' }:=λits r' hz h' c' kp e=>
  ⟨.ref s.heap.objs.size,_,I.laid (t':=s.toks) kp (Nat.le_refl _) (show cD X.prog X.w _ h' _ (.lst ys) from ⟨hz,its,c',r',e⟩),rfl,q _ (I.hok.fresh (Nat.le_refl _))⟩
 rcases hq with hq | hq
 ·obtain ⟨its,r',pl,hz⟩:=I.list hq;have hlen:=r'.length;obtain ⟨o,ho,hc,n,hd⟩:=pl.isList;exact call_list_seq p (.inl rfl) ho hc hd (λh' c' kp e=>fin its r' hz h' c' kp e) (by simp only [List.size_toArray]<;>omega)
 ·obtain ⟨its,r',pl,hz⟩:=I.tuple hq;have hlen:=r'.length;obtain ⟨o,ho,hc,n,hd⟩:=pl;exact call_list_seq p (.inr rfl) ho hc hd (λh' c' kp e=>fin its r' hz h' c' kp e) (by simp only [List.size_toArray]<;>omega)
theorem sI:gG X (.type "tuple") (λxs H Q=>∃p ys,xs=[.ref p]/\((SqL X.K H p ys/\∀l,H l=none->Q (.ref l) (upd H l (.tup ys)))\/(SqT X.K H p ys/\Q (.ref p) H))):=by
 intro pins s σ H xs us Q I r h;obtain ⟨p,ys,rfl,h⟩:=h;obtain ⟨u,rfl,rx⟩:=vals1 r;cases rx;rcases h with ⟨hq,q⟩ | ⟨hq,q⟩
 ·obtain ⟨its,r',pl,hz⟩:=I.list hq;have hlen:=r'.length;refine call_tuple_list pl.isList (λh' kp=>?_) (by simp only [List.size_toArray]<;>omega);have I1:Inv X pins σ H { s with heap:=h' }:=I.kept (t':=s.toks) kp;have I2:Inv X pins σ (upd H h'.objs.size (.tup ys)) { s with heap:=h'.push { cls:=.type "tuple",data:=.seq its.toArray } }:=
   I1.laid (t':=s.toks) (λb o e=>Heap.get?_push_of_some _ e) (Nat.le_refl _) (show cD X.prog X.w _ _ _ (.tup ys) from ⟨hz,its,r',IsTup.new _ _⟩)
  exact ⟨.ref h'.objs.size,_,I2,rfl,q _ (I1.hok.fresh (Nat.le_refl _))⟩
 ·obtain ⟨its,r',pl,hz⟩:=I.tuple hq;exact call_tuple_same pl ⟨.ref p,H,I,rfl,q⟩
def tyV (K:W.Frag)(T:String)(x:V)(H:Hp):Prop:=match x with
 | .str _=>T = "str"
 | .int _=>T = "int"
 | .ref p=>(T = "list"/\∃xs,SqL K H p xs)\/(T = "tuple"/\∃o,K.lookup p=some o/\o.cls=.type "tuple"/\o.dict=none) ∨
   (T = "dict"/\((∃kvs,Rd H p (.dK kvs))\/∃T kvs,Rd H p (.dT T kvs)))\/(T = "set"/\∃S n,H p=some (.set S n))
 |_=>False
theorem Q9 {pins:Zl}{σ:St}{H:Hp}{s:Shared}{T:String}{x:V}{v:Value}(I:Inv X pins σ H s)(r:RelV x v)(ty:tyV X.K T x H):
  s.TypeIs v T/\∀a,v=.ref a->∃ob,s.heap.get? a=some ob/\ob.dict=none:=by
 cases x with
 |str z=>
  obtain ⟨t,rfl⟩:=r;cases (show T = "str" from ty);exact ⟨typeIs_str s z t,λ_ e=>nomatch e⟩
 |int i=>
  obtain ⟨t,rfl⟩:=r;cases (show T = "int" from ty);exact ⟨typeIs_int s i t,λ_ e=>nomatch e⟩
 |ref p=>
  cases r;rcases ty with ⟨rfl,xs,hq⟩ | ⟨rfl,o,hk,hc,hd⟩ | ⟨rfl,hk⟩ | ⟨rfl,S,n,hk⟩
  ·obtain ⟨its,_,pl,_⟩:=I.list hq;refine ⟨pl.isList.typeIs,λa e=>?_⟩;cases e;obtain ⟨o,n,e,c,hd,_⟩:=pl;exact ⟨o,e,hd⟩
  ·refine ⟨⟨o,I.kIn p o hk,hc⟩,λa e=>?_⟩;cases e;exact ⟨o,I.kIn _ o hk,hd⟩
  ·have z:∃o,s.heap.get? p=some o/\o.ExactDict:=by
    rcases hk with ⟨kvs,hk⟩ | ⟨_,kvs,hk⟩
    ·obtain ⟨_,_,_,_,o,_,_,e,ex,_⟩:=(show cD X.prog X.w H s.heap p (.dK kvs) from hk.ok I.hok);exact ⟨o,e,ex⟩
    ·obtain ⟨_,_,_,_,o,_,_,e,ex,_⟩:=(show cD X.prog X.w H s.heap p (.dT _ kvs) from hk.ok I.hok);exact ⟨o,e,ex⟩
   obtain ⟨o,e,ex⟩:=z;refine ⟨⟨o,e,ex.1⟩,λa e2=>?_⟩;cases e2;exact ⟨o,e,ex.2.1⟩
  ·obtain ⟨o,_,_,_,e,ex,_⟩:=I.hok p _ hk;refine ⟨⟨o,e,ex.1⟩,λa e2=>?_⟩;cases e2;exact ⟨o,e,ex.2.1⟩
 |_=>exact False.elim ty
def aa5 (K:W.Frag)(T:String)(r:V->List V->Hp->VK->Prop)(to:TE):TE:=λσ H Q=>to σ H λx H1=>tyV K T x H1/\r x [] H1 Q
def tBM (K:W.Frag)(T:String)(r:V->List V->Hp->VK->Prop)(to:TE)(t:TA):TE:=λσ H Q=>to σ H λx H1=>tyV K T x H1/\t σ H1 λxs H2=>r x xs H2 Q
variable {o e:Expr}{es:List Expr}{to:TE}{t:TA}{name:Str}{apos cpos:Pos}{T id:String}{r:V->List V->Hp->VK->Prop}
theorem Im (pa:PlainAttrs T)(slot:Slot T name id)(hty:typeOf (.builtin id)=pure (.type "method_descriptor"))(hm:MtR X id r)(ho:PE X o to)
  (hbase:attributeBase o name X.env (eval o X.env)=eval o X.env:=by rfl) (hline:(apos.endLine == cpos.line)=true:=by rfl):PE X (.Call (.Attribute o name apos) [] [] cpos) (aa5 X.K T r to):=by
 intro pins s σ H Q I h;refine wpAny_Call_method0_late hbase hline (thn (ho pins s σ H _ I h) λv s1 ⟨x,H1,I1,r1,ty,q1⟩=>?_);obtain ⟨h1,h2⟩:=Q9 I1 r1 ty;exact ⟨T,id,pa,slot,hty,h1,h2,Calls.callWith_builtin rfl (PySem.evalArgs_none (hm pins s1 σ H1 x [] v [] Q I1 r1 .nil q1))⟩
theorem Rx (pa:PlainAttrs T)(slot:Slot T name id)(hty:typeOf (.builtin id)=pure (.type "method_descriptor"))(hm:MtR X id r)(ho:PE X o to)(ha:PA X (e::es) t)
  (hbase:attributeBase o name X.env (eval o X.env)=eval o X.env:=by rfl)
  (hfew:((backTo cpos (starEach (e::es) X.env)).all (λx=>!x.1) && (backToKw cpos (keywordEach [] X.env)).all (λx=>x.1.isSome)
   && decide ((e::es).length+([]:List Keyword).length+(if ([]:List Keyword).isEmpty then 0 else 1)<30))=true:=by rfl)
  (hline:(apos.endLine == cpos.line)=true:=by rfl) (hs:starEach (e::es) X.env=(false,eval e X.env)::starEach es X.env:=by rfl) (hplain:(backTo cpos (starEach es X.env)).any (·.1)=false:=by rfl):
  PE X (.Call (.Attribute o name apos) (e::es) [] cpos) (tBM X.K T r to t):=by
 intro pins s σ H Q I h;refine wpAny_Call_method_late hbase hfew hline rfl (thn (ho pins s σ H _ I h) λv s1 ⟨x,H1,I1,r1,ty,q1⟩=>?_);obtain ⟨h1,h2⟩:=Q9 I1 r1 ty;refine ⟨T,id,pa,slot,hty,h1,h2,?_⟩;have hA:=ha cpos pins s1 σ H1 _ I1 q1;rw [hs] at hA ⊢;refine Calls.callWith_builtin (by show (false || (backTo cpos (starEach es X.env)).any (·.1))=false;rw [hplain]<;>rfl) (Calls.evalArgs_plain ?_);exact thn hA λus s2 hE=>xq2 hE λvs H2 I2 r2 q2=>hm pins s2 σ H2 x vs v us Q I2 r1 r2 q2
end
def MtM (X:Cx)(id:String)(r:V->List V->Hp->VK->Prop):Prop:=
 ∀(pins:Zl) (s:Shared) (σ:St) (H:Hp) (x:V) (xs:List V) (v:Value) (us:List Value) (Q:VK),Inv X pins σ H s->RelV x v->Vals xs us->r x xs H Q->
  wpAny (model X.prog X.w) X.A (call (.builtin id) (v::us)) (EP X pins σ Q) X.xe s
theorem Vals.one:∀{x:V} {us:List Value},Vals [x] us->∃u,us=[u]/\RelV x u
 |_,_,.cons r .nil=>⟨_,rfl,r⟩
theorem Vals.zero:∀{us:List Value},Vals [] us->us=[]
 |_,.nil=>rfl
theorem Vals.dropLast {xs:List V}{us:List Value}(h:Vals xs us):Vals xs.dropLast us.dropLast:=by
 induction h with
 |nil=>exact .nil
 |cons r t ih=>
  cases t with
  |nil=>exact .nil
  |cons q t'=>exact .cons r ih
theorem Vals.reverse {xs:List V}{us:List Value}(h:Vals xs us):Vals xs.reverse us.reverse:=by
 induction h with
 |nil=>exact .nil
 |cons r t ih=>rw [List.reverse_cons,List.reverse_cons];exact Vals.append ih (.cons r .nil)
theorem Ju {α:Type}(l:List α):l.eraseIdx (l.length - 1)=l.dropLast:=by
 induction l with
 |nil=>rfl
 |cons a r ih=>
  cases r with
  |nil=>rfl
  |cons b r=>
   have e:(a::b::r).length - 1=((b::r).length - 1)+1:=by
    have h1:(a::b::r).length=r.length+2:=rfl;have h2:(b::r).length=r.length+1:=rfl;omega
   rw [e,List.eraseIdx_cons_succ,ih]
   all_goals rfl
section
variable {X:Cx}{pins:Zl}{σ:St}{H:Hp}{s:Shared}{l b:Addr}{xs ys zs:List V}
theorem Inv.W3 {its its':List Value}{n:Nat}{f:Array Value->Array Value}{t':Nat}(I:Inv X pins σ H s)(hH:H l=some (.lst xs))
  (e:s.heap.get? l=some { cls:=.type "list",data:=.seq its.toArray n }) (hf:f its.toArray=its'.toArray) (hv:Vals ys its') (hz:ys.length<=sizeLine):
  Inv X pins σ (upd H l (.lst ys)) { s with heap:=s.heap.update l (Obj.mapSeq f),toks:=t' }:=by
 have q:=PySem.IsL.update e f;rw [hf] at q;refine I.write (x:=l) (e:=l) (by rw [hH];exact trivial) (.inl rfl) (λb' u hb hu=>(Heap.get?_update_other s.heap (Obj.mapSeq f) (Ne.symm hb)).trans hu) ⟨_,q⟩ ?_;exact ⟨hz,its',_,hv,q⟩
theorem Inv.Vf (I:Inv X pins σ H s)(hH:H l=some (.lst xs)):xs.length<=sizeLine/\∃(its:List Value) (n:Nat),Vals xs its/\xs.length=its.length/\s.heap.get? l=some { cls:=.type "list",data:=.seq its.toArray n }:=by
 obtain ⟨z,its,n,r,e⟩:=I.hok l _ hH;exact ⟨z,its,n,r,r.length,e⟩
theorem RB {n:Nat}(h:n<=sizeLine):Builtin.List.listTooLong n=false:=by
 unfold Builtin.List.listTooLong;exact decide_eq_false (by omega)
end
section
variable {X:Cx}
def Uc:V->List V->Hp->VK->Prop:=λx vs H Q=>∃l xs y,x=.ref l/\vs=[y]/\H l=some (.lst xs)/\xs.length<sizeLine/\Q .non (upd H l (.lst (xs++[y])))
theorem Be:MtM X "list.append" Uc:=by
 intro pins s σ H x vs v us Q I rx rv h;obtain ⟨l,xs,y,rfl,rfl,hH,hz,q⟩:=h;cases rx;obtain ⟨u,rfl,ru⟩:=rv.one;obtain ⟨z,its,n,r,hl,e⟩:=I.Vf hH;refine call_meets F.slot_list_append ⟨_,e,rfl⟩ F.entry_list_append (F.args_list_append_2 _ _) (PySem.list_append l its.toArray n u (by rw [List.size_toArray];omega)) ⟨e,?_⟩;refine ⟨.non,_,I.W3 (its':=its++[u]) hH e (by simp) (r.append (.cons ru .nil)) ?_,rfl,q⟩;rw [List.length_append,List.length_singleton];omega
def Vn:V->List V->Hp->VK->Prop:=λx vs H Q=>∃l b xs zs,x=.ref l/\vs=[.ref b]/\H l=some (.lst xs)/\H b=some (.lst zs)/\xs.length+zs.length<=sizeLine/\Q .non (upd H l (.lst (xs++zs)))
theorem N6:MtM X "list.extend" Vn:=by
 intro pins s σ H x vs v us Q I rx rv h;obtain ⟨l,b,xs,zs,rfl,rfl,hH,hB,hz,q⟩:=h;cases rx;obtain ⟨u,rfl,ru⟩:=rv.one;cases ru;obtain ⟨z,its,n,r,hl,e⟩:=I.Vf hH;obtain ⟨z2,its2,n2,r2,hl2,e2⟩:=I.Vf hB;have hsz:its.toArray.size+its2.toArray.size<=sizeLine:=by rw [List.size_toArray,List.size_toArray];omega
 have hlong:¬(!its.toArray.isEmpty && Builtin.List.listTooLong (its.toArray.size+its2.toArray.size))=true:=by
  rw [RB hsz,Bool.and_false];exact Bool.false_ne_true
 refine call_meets F.slot_list_extend ⟨_,e,rfl⟩ F.entry_list_extend (F.args_list_extend_2 _ _)
  (AutoSeq1.list_extend_list_list_0 l its.toArray n b its2.toArray n2 hlong (by rw [List.size_toArray];omega) (by omega)) ⟨e,e2,?_⟩
 refine ⟨.non,_,I.W3 (its':=its++its2) hH e (by simp) (r.append r2) ?_,rfl,q⟩;rw [List.length_append];omega
def abe:V->List V->Hp->VK->Prop:=λx vs H Q=>∃l xs y,x=.ref l/\vs=[]/\H l=some (.lst xs)/\xs[xs.length - 1]? = some y/\Q y (upd H l (.lst xs.dropLast))
theorem Xf:MtM X "list.pop" abe:=by
 intro pins s σ H x vs v us Q I rx rv h;obtain ⟨l,xs,y,rfl,rfl,hH,hy,q⟩:=h;cases rx;have hus:=rv.zero;subst hus;obtain ⟨z,its,n,r,hl,e⟩:=I.Vf hH;obtain ⟨u,hu,ru⟩:=r.get hy;have hy':its.toArray[its.toArray.size - 1]? = some u:=by
  show its.toArray[its.length - 1]? = some u;rw [← Array.getElem?_toList,← hl];exact hu
 refine call_meets F.slot_list_pop ⟨_,e,rfl⟩ F.entry_list_pop (F.args_list_pop_1 _) (MeetsSeq.list_pop_last l its.toArray n u hy' (by rw [List.size_toArray];omega)) ⟨e,?_⟩;refine ⟨y,_,I.W3 (its':=its.dropLast) hH e ?_ r.dropLast ?_,ru,q⟩
 ·show its.toArray.eraseIdxIfInBounds (its.toArray.size - 1)=its.dropLast.toArray;rw [List.size_toArray,List.eraseIdxIfInBounds_toArray,Ju]
 ·rw [List.length_dropLast];omega
end
section
variable {prog:Program}{w:World}{A:Around}{E:Zs}{s:Shared}
end
section
variable {X:Cx}
end
end L2
namespace Att
open PySem PySem.W PySem.Calls PyProof.Rows
theorem wY {P:Params}{h:Heap}:∀(ns:List Int) (vs:List Value),WellAll P h vs (ns.map WData.int)->IntsAre vs ns:=by
 intro ns;induction ns with
 |nil=>
  intro vs w;rw [List.map_nil] at w;cases w;exact .nil
 |cons n ns ih=>
  intro vs w;rw [List.map_cons] at w;cases w with
  |cons a b=>
   cases a;exact .cons _ _ (ih _ b)
theorem Mp {l:OpenLaw}{n:Nat}(hn:l.most=some n){P:Params}{h:Heap}{args:List WData}{vals:List Value}
  (hpre:l.row.toRowW.claim.pre args=true) (hwl:WellAll P h vals args):
  ∃a vs ns,vals=[Value.ref a]/\args=[WData.list (ns.map WData.int)]/\h.get? a=some { cls:=.type "list",data:=.seq vs.toArray }/\IntsAre vs ns/\ns.length<=n:=by
 have hsh:WShape.hasAll [] args [.list .int]=true:=(pre_splitW hpre).1;have hc:l.pre.holds [] { args:=args }=true:=(pre_splitW hpre).2;obtain ⟨d,r,rfl,h1,h2⟩:=hasAllW_cons hsh;obtain rfl:=hasAllW_nil h2;obtain ⟨xs,rfl,h3⟩:=hasW_list h1;obtain ⟨ns,rfl⟩:=items_int h3;have hlen:ns.length<=n:=by
  unfold OpenLaw.pre at hc;have h4:(WTm.not (.lt (.lit (.int (n:Int))) (.len (.arg 0)))).holds [] { args:=[.list (ns.map .int)] }=true:=by
   have h4:=(holds_andW hc).1;rw [hn] at h4;exact h4
  have h5:=condW_of h4 (w_not (w_lt w_lit (w_len_list (w_arg rfl))));rw [List.length_map] at h5;refine Nat.le_of_not_lt λq=>?_;have q':(n:Int)<((ns.length:Nat):Int):=by omega
  first
   |(rw [decide_eq_true q'] at h5;exact absurd h5 (by decide))
   |(simp at h5;omega)
 cases hwl with
 |cons w1 w2=>
  cases w2;cases w1 with
  |list ho hall=>exact ⟨_,_,ns,rfl,rfl,ho,wY ns _ hall,hlen⟩
theorem M3 (l:OpenLaw)(args:List WData):l.row.toRowW.claim.post args (.bool true) args=true:=
 postW_of (r:=l.row.toRowW) (X:=(true == true))
  (show WShape.has [] (.bool true) .bool=true by first | rfl | decide | simp [WShape.has,WShape.arms,WShape.armsAll])
  (show (WTm.eq .res (.lit (.bool true))).value [] { args:=args,res:=some (.bool true),after:=args }=some (.bool (true == true)) from w_eq_bool (w_res rfl) w_lit) rfl
theorem Hs {l:OpenLaw}{n:Nat}{q:Program}{loose:List Str}{XP:(Zp)->Heap->Prop}{YP:World->Heap->Prop}{d:DefRec}
  (hn:l.most=some n) (hdf:d.params.defaults=[])
  (call:∀(w:World) (s₀ s₁:Shared) (mg mb:Zp) (fa:Addr) (o:Obj) (pm cd doc:Value) (a:Addr) (vs:List Value) (ns:List Int),
   Ground q loose [] XP w s₀ mg mb s₁.heap->YP w s₁.heap->
   s₁.heap.get? fa=some o->o.data=.func (docDef d.name d.params d.body d.scope pm cd doc)->s₁.heap.CodeRec cd d.name->mg d.name=some (.ref fa)->
   s₁.heap.get? a=some { cls:=.type "list",data:=.seq vs.toArray }->IntsAre vs ns->ns.length<=n->s₁.gens=#[]->
   codeAny (model l.prog w) callerA (.call (.ref fa) ⟨[.ref a],[]⟩) (λr s'=>r=.ok (.ret (.bool true))/\OldK s₁.heap s'.heap/\s'.os=s₁.os/\AllBare s'.gens) s₁):
  WalkO q loose XP YP l.row.toRowW d [] (λf vs=>PySem.call f vs):=by
 intro w s₀ s₁ mg mb G Y fa o pm cd doc dV kV ho hd hcd hD hmg hg args vals as hpre hlay hrd hwl hlo;obtain rfl:dV=.none:=Dflts.none hD hdf;obtain rfl:kV=.none:=Dflts.noKw hD;obtain ⟨a,vs,ns,rfl,rfl,hobj,hints,hlen⟩:=Mp hn hpre hwl;refine enter_call (codeAny_mono (call w s₀ s₁ mg mb fa o pm cd doc a vs ns G Y ho (fd_plain hd) hcd hmg hobj hints hlen hg) λr s' hq=>?_);obtain ⟨rfl,h2,h3,h4⟩:=hq;exact ⟨.inl ⟨.bool true,.bool true,[],rfl,λ_=>rfl,.bool true,M3 l _,λ_=>⟨List.Pairwise.nil,λ_ hm=>(nomatch hm)⟩⟩,h2,h3,h4⟩
section
variable {prog:Program}{w:World}{A:Around}{E:Zs}{s:Shared}{K:Frag}
end
end Att
namespace L2
open PySem PySem.Spec PyProof.Rows
theorem Bu:∀{vs:List Value} {ns:List Int},IntsAre vs ns->Vals (ns.map V.int) vs
 |_,_,.nil=>.nil
 |_,_,.cons n t h=>.cons ⟨t,rfl⟩ (Bu h)
def Only (H:Hp):Prop:=∀b,H b=none\/∃o xs,H b=some (.frz o (.lst xs))
theorem QR {P:Program}{w:World}{K:W.Frag}{mg mb:Zp}{CX:CXT}{k:Nat}{fa a:Addr}{fd:FuncData}{x:Str}{sp:Sp}{s₁:Shared}{vs:List Value}{ns:List Int}
  (KX:K.In s₁.heap) (hns:s₁.heap.Ns mainGlobals mg) (hb:s₁.heap.Ns builtinsNs mb) (hbb:∀x:Str,x≠"__name__"->mb x=bootBuiltins x) (hlim:s₁.heap.NoLimit) (hg:s₁.gens=#[])
  (ha:s₁.heap.get? a=some { cls:=.type "list",data:=.seq vs.toArray }) (hi:IntsAre vs ns) (hl:ns.length<=sizeLine) (hr:fM k callerA)
  (F:∀base:Heap,K.In base->base.Ns mainGlobals mg->cB P w K mg base CX k fa fd [x] sp) (hbind:∀(s:Shared) (u:Value),BindsTo s fd ⟨[u],[]⟩ [(x,u)])
  (hsp:∀H:Hp,Only H->SqL K H a (ns.map V.int)->sp [.ref a] H (λv _=>v=.bl true) λ_ _ _=>False)
  (hCX:∀H e s',CX [] H s₁ (λ_ _ _=>False) e s'->False):
  codeAny (model P w) callerA (.call (.ref fa) ⟨[.ref a],[]⟩) (λr s'=>r=.ok (.ret (.bool true))/\OldK s₁.heap s'.heap/\s'.os=s₁.os/\AllBare s'.gens) s₁:=by
 have rv:=Bu hi;have lenV:=hi.length;have core:∀H:Hp,Only H->SqL K H a (ns.map V.int)->HOk P w H s₁.heap->(∀b,H b≠none->b=a)->(H a≠none->K.lookup a=none)->
   codeAny (model P w) callerA (.call (.ref fa) ⟨[.ref a],[]⟩) (λr s'=>r=.ok (.ret (.bool true))/\OldK s₁.heap s'.heap/\s'.os=s₁.os/\AllBare s'.gens) s₁:=by
  intro H hO hS hok hA hK;have base_of:∀{b:Addr} {o:Obj},s₁.heap.get? b=some o->H b=none->(Cq s₁.heap H).get? b=some o:=λe n=>Qm e n;have noA:∀{b:Addr} {o:Obj} {es:Array DictEntry} {ep:Nat},s₁.heap.get? b=some o->o.data=.dict es ep->H b=none:=λ{b o es ep} e d=>by
   cases q:H b with
   |none=>rfl
   |some u=>
    have e':b=a:=hA b (by rw [q];simp);subst e';rw [ha] at e;cases e;have d':Data.seq vs.toArray _=Data.dict es ep:=d;cases d'
  have nsK:∀{b:Addr} {m:Zp},s₁.heap.Ns b m->(Cq s₁.heap H).Ns b m:=λ{b m} ⟨o,es,ep,e,d,r⟩=>⟨o,es,ep,base_of e (noA e d),d,r⟩;have hKb:K.In (Cq s₁.heap H):=λb o e=>base_of (KX b o e) (by
   cases q:H b with
   |none=>rfl
   |some u=>
    have e':b=a:=hA b (by rw [q];simp);subst e';rw [hK (by rw [q];simp)] at e;cases e)
  have hM:Mod K mg (Cq s₁.heap H):=⟨hKb,nsK hns,⟨mb,nsK hb,hbb⟩,let ⟨mc,h1,h2⟩:=hlim;⟨mc,nsK h1,h2⟩⟩;have e0:Uo P w K mg (Cq s₁.heap H) callerA [] s₁ H:=⟨rfl,hM,λb o e=>Ub e,Nat.le_of_eq (Nj _ _),trivial,λb hb=>absurd (show b∈([]:List Addr) from hb) (by simp),hok,.of_eq hg⟩;refine codeAny_mono ((F _ hKb (nsK hns)).run callerA [] s₁ H ⟨[.ref a],[]⟩ [.ref a] [.ref a] _ _ hr e0 (hbind s₁ (.ref a)) (.cons rfl .nil) (hsp H hO hS)) λr s' h=>?_;cases r with
  |error e=>exact (hCX H e s' h).elim
  |ok fl=>
   cases fl with
   |next=>exact False.elim h
   |brk=>exact False.elim h
   |cont=>exact False.elim h
   |ret u=>
    obtain ⟨v,H',os,bare,un,hok',r',q⟩:=h;have q':v=.bl true:=q;subst q';obtain rfl:u=Value.bool true:=r';refine ⟨rfl,OldK.of_keep λb o e=>?_,os,bare⟩;cases q:H b with
    |none=>exact un.keep b o e q (by intro z;exact absurd (show b∈([]:List Addr) from z) (by simp)) (by simp)
    |some u=>
     rcases hO b with z | ⟨ob,xs,z⟩
     ·rw [q] at z;cases z
     ·have z2:=un.frzs b ob _ z;obtain ⟨e1,_⟩:=hok b _ z;obtain ⟨e2,_⟩:=hok' b _ z2;rw [e] at e1;cases e1;exact e2
 cases hk:K.lookup a with
 |some o=>
  have e:=KX a o hk;rw [ha] at e;cases e;refine core (λ_=>none) (λ_=>.inl rfl) (.inr ⟨_,vs.toArray,_,hk,rfl,rfl,rfl,by rw [List.size_toArray,lenV];exact hl,by simpa using rv⟩) (λb u z=>by have z':(none:Option HO)=some u:=z;cases z') (λb z=>absurd rfl z) λz=>absurd rfl z
 |none=>
  refine core (λb=>if b=a then some (.frz { cls:=.type "list",data:=.seq vs.toArray } (.lst (ns.map V.int))) else none) (λb=>?_) (.inl (.inr ⟨{ cls:=.type "list",data:=.seq vs.toArray },if_pos rfl⟩)) (λb u z=>?_) (λb z=>?_) λ_=>hk
  ·by_cases hb:b=a
   ·exact .inr ⟨_,_,if_pos hb⟩
   ·exact .inl (if_neg hb)
  ·by_cases hb:b=a
   ·have z':=(if_pos hb).symm.trans z;cases z';subst hb;exact ⟨ha,by rw [List.length_map];exact hl,vs,_,rv,ha⟩
   ·have z':=(if_neg hb).symm.trans z;cases z'
  ·by_cases hb:b=a
   ·exact hb
   ·exact absurd (if_neg hb) z
theorem Uz {l:W.OpenLaw}{n k:Nat}{q:Program}{loose:List Str}{XP:(Zp)->Heap->Prop}{YP:World->Heap->Prop}{d:DefRec}{K:Params->W.Frag}{CX:World->CXT}{sp:World->Sp}{x:Str}
  (hn:l.most=some n) (hn2:n<=sizeLine) (hdf:d.params.defaults=[]) (hr:fM k callerA)
  (hY:∀(w:World) (h:Heap),YP w h->(K w.params).In h)
  (F:∀(w:World) (mg:Zp) (fa:Addr) (h:Heap),(K w.params).In h->h.Ns mainGlobals mg->mg d.name=some (.ref fa)->
   ∃fd:FuncData,(∀(s:Shared) (u:Value),BindsTo s fd ⟨[u],[]⟩ [(x,u)])/\
    ∀base:Heap,(K w.params).In base->base.Ns mainGlobals mg->cB l.prog w (K w.params) mg base (CX w) k fa fd [x] (sp w))
  (hsp:∀(w:World) (H:Hp) (a:Addr) (ns:List Int),ns.length<=n->Only H->SqL (K w.params) H a (ns.map V.int)->sp w [.ref a] H (λv _=>v=.bl true) λ_ _ _=>False)
  (hCX:∀(w:World) (H:Hp) (s:Shared) (e:Value) (s':Shared),CX w [] H s (λ_ _ _=>False) e s'->False):
  W.WalkO q loose XP YP l.row.toRowW d [] (λf vs=>PySem.call f vs):=by
 refine Att.Hs hn hdf λw s₀ s₁ mg mb fa o pm cd doc a vs ns G Y ho hd hcd hmg hobj hints hlen hg=>?_;have KX:=hY w _ Y;obtain ⟨fd,hb,hF⟩:=F w mg fa _ KX G.T.g hmg;exact QR KX G.T.g G.T.b G.T.builtins G.T.nolimit hg hobj hints (Nat.le_trans hlen hn2) hr hF hb (λH hO hS=>hsp w H a ns hlen hO hS) λH e s'=>hCX w H s₁ e s'
def pP (s:Stmt):Arguments:=match s with
 | .FunctionDef _ a _ _ _ _ _ _ _ _=>a
 |_=>{ posonlyargs:=[],args:=[],vararg:=none,kwonlyargs:=[],kw_defaults:=[],kwarg:=none,defaults:=[] }
def mq (s:Stmt):List Stmt:=match s with
 | .FunctionDef _ _ b _ _ _ _ _ _ _=>b
 |_=>[]
def aJ (s:Stmt):Scope:=match s with
 | .FunctionDef _ _ _ _ _ _ sc _ _ _=>sc
 |_=>{ kind:=.function,names:=[],isGenerator:=false,isCoroutine:=false }
abbrev E0:XK:=λ_ _ _=>False
structure Fun (K:W.Frag)(x qual:Str)(st:Stmt)(f:Addr)(fd:FuncData):Prop where
 ex:∃(oc:Value) (od:Option Addr) (kV doc pm:Value) (an:Option Addr) (cdv ct:Value) (osl:Array (Option Value)),
  fd=W.fnOf x qual (pP st) (mq st) (aJ st) .none kV doc pm an cdv ct/\K.lookup f=some ⟨oc,od,.func fd,osl⟩/\W.codeIn K cdv qual=true
 kp:W.keepIn K (.ref f)=true
section
variable {P:Program}{w:World}{K:W.Frag}{mg:Zp}{base:Heap}
theorem Fun.binds {x qual:Str}{st:Stmt}{f:Addr}{fd:FuncData}{ps:List Str}(F:Fun K x qual st f fd)
  (h:∀(kV doc pm:Value) (an:Option Addr) (cdv ct:Value) (us:List Value),us.length=ps.length->bindArgs (W.fnOf x qual (pP st) (mq st) (aJ st) .none kV doc pm an cdv ct) ⟨us,[]⟩=pure (ps.zip us)):Binds K fd ps []:=by
 obtain ⟨oc,od,kV,doc,pm,an,cdv,ct,osl,rfl,lk,hcd⟩:=F.ex;exact .all (h kV doc pm an cdv ct)
theorem Yd {x qual:Str}{st:Stmt}{f:Addr}{oc:Value}{od an:Option Addr}{osl:Array (Option Value)}{kV doc pm cdv ct:Value}(l:K.lookup f=some ⟨oc,od,.func (W.fnOf x qual (pP st) (mq st) (aJ st) .none kV doc pm an cdv ct),osl⟩)
  (c:W.codeIn K cdv qual=true) (k:W.keepIn K (.ref f)=true):Fun K x qual st f (W.fnOf x qual (pP st) (mq st) (aJ st) .none kV doc pm an cdv ct):=⟨⟨oc,od,kV,doc,pm,an,cdv,ct,osl,rfl,l,c⟩,k⟩
end
section
variable {X:Cx}
end
def aL (H H':Hp):Prop:=∀b o,H b=some o->H' b=some o
theorem aL.refl (H:Hp):aL H H:=λ_ _ h=>h
theorem aL.trans {H H1 H2:Hp}(a:aL H H1)(b:aL H1 H2):aL H H2:=λc o h=>b c o (a c o h)
theorem aL.free {H H':Hp}(e:aL H H'){l:Addr}(h:H' l=Option.none):H l=Option.none:=by
 cases q:H l with
 |none=>rfl
 |some o=>
  rw [e l o q] at h;cases h
end L2
set_option maxHeartbeats 4000000
namespace Hd
open PySem PySem.Spec PyProof.Rows L2
abbrev St:=L2.St
theorem SN {n k:Nat}(h:n<2 ^ k)(hk:0<k):n.log2<k:=by
 by_cases z:n=0
 ·rw [z];exact hk
 ·exact (Nat.log2_lt z).mpr h
@[irreducible] def lmM:Nat:=2 ^ 60000
@[irreducible] def lmD:Nat:=2 ^ 8900
theorem QL:lmM=2 ^ 60000:=by unfold lmM;rfl
theorem Jr:lmD=2 ^ 8900:=by unfold lmD;rfl
theorem bits_le {i:Int}(h:i.natAbs<lmM):Builtin.Int.intBits i<=60000:=by
 unfold Builtin.Int.intBits;split
 ·exact Nat.zero_le _
 ·rw [QL] at h;exact SN (k:=60000) h (by decide)
def aat (_ j:Int):Prop:=j≠0/\j.natAbs<lmD
def Q3 (i j:Int):Prop:=i.natAbs<lmM/\j.natAbs<lmM
theorem Q3.ok {i j:Int}(h:Q3 i j):IntMulOk i j:=by
 have h1:=bits_le h.1;have h2:=bits_le h.2;have hb:bitsLine=134217728:=rfl;have z:Builtin.Int.intTooBig (Builtin.Int.intBits i+Builtin.Int.intBits j)=false:=by
  unfold Builtin.Int.intTooBig;refine decide_eq_false ?_;omega
 unfold IntMulOk;rw [z]
 simp
section
variable {X:Cx}
theorem QG:OpR X (binaryOp .FloorDiv) (rI aat λi j=>.int (i.fdiv j)):=
 opI λ_ _ _ _ _ _ _ hc q=>floordiv_int hc.1 q (.inl (PyProof.noPylong_of_log2 (Nat.lt_of_lt_of_le (SN (k:=8900) (Jr ▸ hc.2) (by decide)) (by decide))))
theorem Vv:OpR X (binaryOp .Mult) (rI Q3 λi j=>.int (i*j)):=opI λ_ _ _ _ _ _ _ hc q=>mul_int q hc.ok
end
mutual
inductive DV (K:W.Frag)(H:Hp):V->PyData->Prop where
 |non:DV K H .non .none
 |bl (b:Bool):DV K H (.bl b) (.bool b)
 |int (i:Int):DV K H (.int i) (.int i)
 |str (x:Str):DV K H (.str x) (.str x)
 |tup {a:Addr} {xs:List V} {ds:List PyData}:SqT K H a xs->DVs K H xs ds->DV K H (.ref a) (.tuple ds)
 |lst {a:Addr} {xs:List V} {ds:List PyData}:SqL K H a xs->DVs K H xs ds->DV K H (.ref a) (.list ds)
inductive DVs (K:W.Frag)(H:Hp):List V->List PyData->Prop where
 |nil:DVs K H [] []
 |cons {v:V} {vs:List V} {d:PyData} {ds:List PyData}:DV K H v d->DVs K H vs ds->DVs K H (v::vs) (d::ds)
end
section
variable {X:Cx}{pins:Zl}{σ:St}{H:Hp}{s:Shared}
mutual
theorem DV.reads (I:Inv X pins σ H s):∀{v:V} {d:PyData} {u:Value},DV X.K H v d->RelV v u->∃as,Reads s.heap u d as
 |_,_,u,.non,r=>by cases (show u=Value.none from r);exact ⟨_,.none⟩
 |_,_,u,.bl b,r=>by cases (show u=Value.bool b from r);exact ⟨_,.bool b⟩
 |_,_,u,.int i,r=>by obtain ⟨t,e⟩:=(show ∃t,u=Value.int i t from r);subst e;exact ⟨_,.int i t⟩
 |_,_,u,.str x,r=>by obtain ⟨t,e⟩:=(show ∃t,u=Value.str x t from r);subst e;exact ⟨_,.str x t⟩
 |_,_,u,.tup (a:=a) h hs,r=>by
  cases (show u=Value.ref a from r);obtain ⟨its,rv,⟨o,ho,hc,n,hd⟩,_⟩:=I.tuple h;obtain ⟨as,ra⟩:=DVs.reads I hs rv;exact ⟨as,.tuple ho hc hd (by simpa using ra)⟩
 |_,_,u,.lst (a:=a) h hs,r=>by
  cases (show u=Value.ref a from r);obtain ⟨its,rv,⟨o,n,ho,hc,_,hd⟩,_⟩:=I.list h;obtain ⟨as,ra⟩:=DVs.reads I hs rv;exact ⟨a::as,.list ho hc hd (by simpa using ra)⟩
theorem DVs.reads (I:Inv X pins σ H s):∀{vs:List V} {ds:List PyData} {us:List Value},DVs X.K H vs ds->Vals vs us->∃as,ReadsAll s.heap us ds as
 |_,_,_,.nil,.nil=>⟨[],.nil⟩
 |_,_,_,.cons h hs,.cons r rs=>by
  obtain ⟨as,ra⟩:=DV.reads I h r;obtain ⟨bs,rb⟩:=DVs.reads I hs rs;exact ⟨as++bs,.cons ra rb⟩
end
end
section
variable {X:Cx}
def aaZ (K:W.Frag):R2:=λx y H Q=>∃d e,DV K H x d/\DV K H y e/\SeqAt.shaped d=true/\SeqAt.shaped e=true/\Q (.bl (PyData.eqv d e)) H
def abh (K:W.Frag):R2:=λx y H Q=>∃d e,DV K H x d/\DV K H y e/\SeqAt.shaped d=true/\SeqAt.shaped e=true/\Q (.bl (!PyData.eqv d e)) H
theorem YW (hu:X.A.units+64<cLine):OpR X (compareOp .Eq) (aaZ X.K):=by
 intro pins s σ H x y v u Q I rx ry h;obtain ⟨d,e,hd,he,sd,se,q⟩:=h;obtain ⟨as,ra⟩:=hd.reads I rx;obtain ⟨bs,rb⟩:=he.reads I ry;exact eq_dataH ra rb sd se hu (bW I q rfl)
theorem Ym (hu:X.A.units+64<cLine):OpR X (compareOp .NotEq) (abh X.K):=by
 intro pins s σ H x y v u Q I rx ry h;obtain ⟨d,e,hd,he,sd,se,q⟩:=h;obtain ⟨as,ra⟩:=hd.reads I rx;obtain ⟨bs,rb⟩:=he.reads I ry;exact ne_dataH ra rb sd se hu (bW I q rfl)
end
section
variable {X:Cx}
def ZZ:V->Option Value
 | .ty n=>some (.type n)
 | .ref a=>some (.ref a)
 |_=>none
theorem S8 {c:V}{cv u:Value}(e:ZZ c=some cv)(r:RelV c u):u=cv:=by
 cases c with
 |ty n=>cases e;exact r
 |ref a=>cases e;exact r
 |_=>cases e
end
section
variable {X:Cx}{t u:TS}{pos:Pos}
end
structure Fly (P:Program)(w:World)(outer:List Env)(H:Hp)(s:Shared)(e:Value)(s':Shared)(ea t:Addr)(cls:Value)(B:Heap)(H':Hp):Prop where
 is:e=.ref ea
 os:s'.os=s.os
 bare:AllBare s'.gens
 fly:Heap.FlyingW B outer ea cls (.ref t) s'.heap
 keep:∀b o,s.heap.get? b=some o->H b=none->b∉frs outer->B.get? b=some o
 slot:∀b o,s.heap.get? b=some o->b∈frs outer->∃sl,s'.heap.get? b=some { o with slots:=sl }
 free:∀b o,s.heap.get? b=some o->H b=none->H' b=none
 there:∀b o,s.heap.get? b=some o->b∉frs outer->∃o',B.get? b=some o'
 tups:∀b xs,H b=some (.tup xs)->H' b=some (.tup xs)
 frzs:∀b o u,H b=some (.frz o u)->H' b=some (.frz o u)
 tbls:∀b ps,H b=some (.tbl ps)->∃more,H' b=some (.tbl (ps++more))
 hok:HOk P w H' B
 new:s.heap.get? ea=none
 nin:H' ea=none
def CX1 (P:Program)(w:World):CXT:=λouter H s E e s'=>∃ea t cls B H',Fly P w outer H s e s' ea t cls B H'/\E cls none H'
theorem RN {env:Env}{l:List Env}{L b:Addr}(hf:env.frame=some L)(h:b∈frs (env::l)):b=L\/b∈frs l:=by
 unfold frs at h;rw [List.filterMap_cons,hf] at h;rcases List.mem_cons.mp h with z | z
 ·exact .inl z
 ·exact .inr z
theorem PL {env:Env}{l:List Env}{b:Addr}(h:b∈frs l):b∈frs (env::l):=by
 unfold frs at h ⊢;obtain ⟨e,he,hf⟩:=List.mem_filterMap.mp h;exact List.mem_filterMap.mpr ⟨e,List.mem_cons_of_mem _ he,hf⟩
section
variable {P:Program}{w:World}{K:W.Frag}{mg:Zp}{base:Heap}{N:List Str}{qual:Str}{scope:Scope}{f:Addr}{cd:Value}{A:Around}{outer:List Env}{s:Shared}{H:Hp}{E:XK}
theorem aR:Passes (CX1 P w) (Ab (CX1 P w) P w K mg base N qual scope f cd A outer s H E) E:=by
 intro pins σ H1 s1 e s' I h;obtain ⟨ea,t,cls,B,H',F,hw⟩:=h;obtain rfl:=F.is;have nfr:∀b o,s.heap.get? b=some o->b∉frs outer->b∉frs (Ab (CX1 P w) P w K mg base N qual scope f cd A outer s H E).stack:=λb o q nb hb=>by
  rcases RN (L:=s.heap.objs.size) rfl hb with z | z
  ·exact absurd (Heap.lt_size q) (by rw [z];exact Nat.lt_irrefl _)
  ·exact nb z
 have nx:∀b:Addr,b∉(Ab (CX1 P w) P w K mg base N qual scope f cd A outer s H E).ex:=λb z=>absurd (show b∈([]:List Addr) from z) (by simp);refine wpAny_leaves_onW (base:=B) (outer:=outer) (L:=s.heap.objs.size) I.ok.frames rfl F.fly λh2 x1 x2=>?_;refine ⟨ea,t,cls,B,H',⟨rfl,F.os.trans I.os,F.bare,x1,λb o q n nb=>?_,λb o q hb=>?_,λb o q n=>?_,λb o q nb=>?_,λb xs q=>F.tups b xs (I.base.tups b xs q),λb o u q=>F.frzs b o u (I.base.frzs b o u q),λb ps q=>?_,F.hok,?_,F.nin⟩,hw⟩
 ·exact F.keep b o (I.base.keep b o q n nb (nx b)) (I.base.free b o q n (nx b)) (nfr b o q nb)
 ·obtain ⟨sl,e1⟩:=I.base.slot b o q (I.ok.frf b hb) hb (nx b);obtain ⟨_,o',ho',hnf⟩:=I.ok.yL.mem hb;have eo:o=o':=Option.some.inj (q.symm.trans ho');obtain ⟨sl1,e2⟩:=F.slot b _ e1 (PL hb);obtain ⟨sl2,e3⟩:=x2 b _ e2 (λv z=>hnf v (by rw [← eo];exact z));exact ⟨sl2,e3⟩
 ·obtain ⟨o',e1⟩:=I.base.there b o q (nx b);exact F.free b o' e1 (I.base.free b o q n (nx b))
 ·obtain ⟨o',e1⟩:=I.base.there b o q (nx b);exact F.there b o' e1 (nfr b o q nb)
 ·obtain ⟨m1,e1⟩:=I.base.tbls b ps q;obtain ⟨m2,e2⟩:=F.tbls b _ e1;exact ⟨m1++m2,by rw [e2,Array.append_assoc]⟩
 ·cases q:s.heap.get? ea with
  |none=>rfl
  |some o=>
   obtain ⟨o',e1⟩:=I.base.there ea o q (nx ea);rw [F.new] at e1;cases e1
end
theorem sV {P:Program}{w:World}{X:Cx}:Passes (CX1 P w) X E0:=λ_ _ _ _ _ _ _ ⟨_,_,_,_,_,_,z⟩=>z.elim
def Zr (ea:Addr)(cls:Value)(h:Heap):Prop:=∃o,h.get? ea=some o/\o.cls=cls/\∃vs,o.data=.fields vs
section
variable {X:Cx}{pins:Zl}{σ:St}{H H':Hp}{s s':Shared}{e:Value}{ea t:Addr}{cls:Value}{B:Heap}
end
section
variable {X:Cx}{pins:Zl}{σ:St}{H H':Hp}{s s':Shared}{e:Value}{ea t:Addr}{cls:Value}{B:Heap}
end
section
variable {X:Cx}{k:Nat}{f:Addr}{fd:FuncData}{ps:List Str}{sp:Sp}{x:Str}{p pos pos':Pos}{e:Expr}{es:List Expr}{t:TA}
end
section
variable {X:Cx}{x:Str}{e₀:Expr}{np cpos pos:Pos}{te:TE}{C:Addr}{bmB:List Value}{B newId initId:String}
end
structure Fn (P:Program)(w:World)(K:W.Frag)(mg:Zp)(base:Heap)(k:Nat)(x:Str)(ps:List Str)(sp:Sp):Prop where
 ex:∃f fd,cB P w K mg base (CX1 P w) k f fd ps sp/\Binds K fd ps []/\W.keepIn K (.ref f)=true/\mg x=some (.ref f)
section
variable {X:Cx}{j k:Nat}{x:Str}{ps:List Str}{sp:Sp}{p pos:Pos}{e:Expr}{es:List Expr}{t:TA}
end
section
variable {P:Program}{w:World}{K:W.Frag}{mg:Zp}{base:Heap}
theorem Ue {x qual:Str}{st:Stmt}{f:Addr}{fd:FuncData}{N ps:List Str}{k:Nat}{sp:Sp}(F:Fun K x qual st f fd)(S:aY N ps (aJ st))(len:∀vs H Q E,sp vs H Q E->vs.length=ps.length)
  (hbody:∀(cdv:Value) (A:Around) (outer:List Env) (s:Shared) (H:Hp) (vs:List V) (Q:VK) (E:XK),fM k (A.deeper (envOfC qual (aJ st) s.heap.objs.size f cdv))->sp vs H Q E->
   ∃t,PSs (Ab (CX1 P w) P w K mg base N qual (aJ st) f cdv A outer s H E) (mq st) t/\t { nx:=λ_ H'=>Q .non H',rt:=Q } (start N vs) H):cB P w K mg base (CX1 P w) (k+1) f fd ps sp:=by
 obtain ⟨oc,od,kV,doc,pm,an,cdv,ct,osl,rfl,lk,hcd⟩:=F.ex;refine aau lk hcd S len λA outer s H vs Q E hr hsp=>?_;obtain ⟨t,h,q⟩:=hbody cdv A outer s H vs Q E hr hsp;exact ⟨t,h,q⟩
end
structure Df (K:W.Frag)(mg:Zp)(x:Str)(st:Stmt)(ps:List Str):Prop where
 ex:∃f fd,Fun K x x st f fd/\Binds K fd ps []/\mg x=some (.ref f)
theorem Df.fn {P:Program}{w:World}{K:W.Frag}{mg:Zp}{base:Heap}{x:Str}{st:Stmt}{ps:List Str}{k:Nat}{sp:Sp}(D:Df K mg x st ps)
  (h:∀f fd,Fun K x x st f fd->cB P w K mg base (CX1 P w) k f fd ps sp):Fn P w K mg base k x ps sp:=by
 obtain ⟨f,fd,F,b,m⟩:=D.ex;exact ⟨f,fd,h f fd F,b,F.kp,m⟩
section
variable {prog:Program}{w:World}{A:Around}{E:Zs}{h:Heap}{g:Array GenState}{d:Drawn}{t:Nat}{os:OsState}{a C:Addr}{o:Obj}{K:W.Frag}
end
section
variable {X:Cx}
end
end Hd
namespace L2
open PySem PySem.Spec PyProof.Rows
section
variable {κ:Type}[DecidableEq κ]
def m9 (kvs:List (κ×V))(k:κ):Option V:=(kvs.find? λkv=>decide (kv.1=k)).map (·.2)
def putK (kvs:List (κ×V))(k:κ)(v:V):List (κ×V):=
 if (kvs.any λkv=>decide (kv.1=k))=true then kvs.map (λkv=>if kv.1=k then (kv.1,v) else kv) else kvs++[(k,v)]
theorem rB {p:κ×V}{r:List (κ×V)}{k:κ}(e:p.1=k):m9 (p::r) k=some p.2:=by simp [m9,List.find?_cons,e]
theorem rC {p:κ×V}{r:List (κ×V)}{k:κ}(e:¬p.1=k):m9 (p::r) k=m9 r k:=by simp [m9,List.find?_cons,e]
theorem yt (k:κ):∀kvs:List (κ×V),(kvs.any λkv=>decide (kv.1=k))=(m9 kvs k).isSome
 |[]=>rfl
 |p::r=>by
  rw [List.any_cons];by_cases e:p.1=k
  ·simp only [rB e,decide_eq_true e,Bool.true_or,Option.isSome_some]
  ·rw [rC e,decide_eq_false e,Bool.false_or];exact yt k r
theorem qM (kvs:List (κ×V))(k:κ)(v:V):(putK kvs k v).length<=kvs.length+1:=by
 unfold putK;split
 ·rw [List.length_map];omega
 ·rw [List.length_append,List.length_cons,List.length_nil];omega
theorem PN {kvs:List (κ×V)}{k:κ}(v:V)(h:m9 kvs k=none):putK kvs k v=kvs++[(k,v)]:=by
 unfold putK;rw [yt,h];exact if_neg (by decide)
theorem vV.v8 {o:Option V}{u:Option Value}(r:vV o u):o.isSome=u.isSome:=by
 cases o with
 |none=>cases u with
  |none=>rfl
  |some _=>exact (show False from r).elim
 |some _=>cases u with
  |none=>exact (show False from r).elim
  |some _=>rfl
theorem vV.getD {o:Option V}{u:Option Value}{d:V}{d':Value}(r:vV o u)(rd:RelV d d'):RelV (o.getD d) (u.getD d'):=by
 cases o with
 |none=>cases u with
  |none=>exact rd
  |some _=>exact (show False from r).elim
 |some _=>cases u with
  |none=>exact (show False from r).elim
  |some _=>exact r
theorem KV.val {kvs:List (κ×V)}{vs:List (κ×Value)}(r:KV kvs vs)(k:κ):vV (m9 kvs k) (valueAt vs k):=by
 unfold KV at r;induction r with
 |nil=>exact True.intro
 | @cons p q ps qs h t ih=>
  obtain ⟨h1,h2⟩:=h;by_cases e:p.1=k
  ·have e':q.1=k:=h1.symm.trans e;have b:valueAt (q::qs) k=some q.2:=by simp [valueAt,List.find?_cons,e']
   rw [rB e,b];exact h2
  ·have e':¬q.1=k:=λz=>e (h1.trans z);have b:valueAt (q::qs) k=valueAt qs k:=by simp [valueAt,List.find?_cons,e']
   rw [rC e,b];exact ih
theorem KV.any {kvs:List (κ×V)}{vs:List (κ×Value)}(r:KV kvs vs)(k:κ):(kvs.any λkv=>decide (kv.1=k))=vs.any λkv=>decide (kv.1=k):=by
 unfold KV at r;induction r with
 |nil=>rfl
 |cons h t ih=>rw [List.any_cons,List.any_cons,ih,h.1]
theorem KV.repl {kvs:List (κ×V)}{vs:List (κ×Value)}(r:KV kvs vs)(k:κ){y:V}{u:Value}(ry:RelV y u):
  KV (kvs.map λkv=>if kv.1=k then (kv.1,y) else kv) (vs.map λkv=>if kv.1=k then (kv.1,u) else kv):=by
 unfold KV at r ⊢;induction r with
 |nil=>exact .nil
 | @cons p q ps qs h t ih=>
  rw [List.map_cons,List.map_cons];refine .cons ?_ ih;obtain ⟨h1,h2⟩:=h;by_cases e:p.1=k
  ·rw [if_pos e,if_pos (h1.symm.trans e)];exact ⟨h1,ry⟩
  ·rw [if_neg e,if_neg (λz=>e (h1.trans z))];exact ⟨h1,h2⟩
theorem KV.put {kvs:List (κ×V)}{vs:List (κ×Value)}(r:KV kvs vs)(k:κ){y:V}{u:Value}(ry:RelV y u):KV (putK kvs k y) (stored vs k u):=by
 unfold putK stored;rw [r.any k];by_cases e:(vs.any λkv=>decide (kv.1=k))=true
 ·rw [if_pos e,if_pos e];exact r.repl k ry
 ·rw [if_neg e,if_neg e];exact Paired.snoc r ⟨rfl,ry⟩
theorem KV.length {kvs:List (κ×V)}{vs:List (κ×Value)}(r:KV kvs vs):kvs.length=vs.length:=Paired.length r
end
theorem yD {P:Program}{w:World}{k:Key}{u:Value}(r:RelV (kV k) u):(fG P w).is k u=true:=by
 cases k with
 |inl i=>obtain ⟨t,e⟩:=(show ∃t,u=Value.int i t from r);subst e;exact Hj P w i t
 |inr x=>obtain ⟨t,e⟩:=(show ∃t,u=Value.str x t from r);subst e;exact GQ P w x t
theorem Yw {a b:Key}(e:kV a=kV b):a=b:=by
 cases a with
 |inl i=>cases b with
  |inl j=>have e':V.int i=V.int j:=e;injection e' with e';rw [e']
  |inr y=>exact nomatch (show V.int i=V.str y from e)
 |inr x=>cases b with
  |inl j=>exact nomatch (show V.str x=V.int j from e)
  |inr y=>have e':V.str x=V.str y:=e;injection e' with e';rw [e']
abbrev KT (T:Addr->List V->Prop)(H:Hp):List (List Kt×V)->List (List Kt×Addr×Value)->Prop:=Paired λp q=>p.1=q.1/\TrT T H q.2.1 p.1/\RelV p.2 q.2.2
theorem KT.val {T:Addr->List V->Prop}{H:Hp}{kvs:List (List Kt×V)}{xs:List (List Kt×Addr×Value)}(r:KT T H kvs xs)(k:List Kt):vV (m9 kvs k) ((atKey xs k).map (·.2)):=by
 induction r with
 |nil=>exact True.intro
 | @cons p q ps qs h t ih=>
  obtain ⟨h1,_,h2⟩:=h;by_cases e:p.1=k
  ·have e':q.1=k:=h1.symm.trans e;have b:atKey (q::qs) k=some q.2:=by simp [atKey,List.find?_cons,e']
   rw [rB e,b];exact h2
  ·have e':¬q.1=k:=λz=>e (h1.trans z);have b:atKey (q::qs) k=atKey qs k:=by simp [atKey,List.find?_cons,e']
   rw [rC e,b];exact ih
theorem KT.repl {T:Addr->List V->Prop}{H:Hp}{kvs:List (List Kt×V)}{xs:List (List Kt×Addr×Value)}(r:KT T H kvs xs)(k:List Kt){y:V}{u:Value}(ry:RelV y u):
  KT T H (kvs.map λkv=>if kv.1=k then (kv.1,y) else kv) (xs.map (putAt k u)):=by
 induction r with
 |nil=>exact .nil
 | @cons p q ps qs h t ih=>
  rw [List.map_cons,List.map_cons];refine .cons ?_ ih;obtain ⟨h1,h2,h3⟩:=h;unfold putAt;by_cases e:p.1=k
  ·rw [if_pos e,if_pos (h1.symm.trans e)];exact ⟨h1,h2,ry⟩
  ·rw [if_neg e,if_neg (λz=>e (h1.trans z))];exact ⟨h1,h2,h3⟩
theorem KT.put {T:Addr->List V->Prop}{H:Hp}{kvs:List (List Kt×V)}{xs:List (List Kt×Addr×Value)}(r:KT T H kvs xs)(k:List Kt){b:Addr}{y:V}{u:Value}(hb:TrT T H b k)(ry:RelV y u):
  KT T H (putK kvs k y) (storedH xs k b u):=by
 have e:(kvs.any λkv=>decide (kv.1=k))=(atKey xs k).isSome:=by
  rw [yt,(r.val k).v8,Option.isSome_map]
 unfold putK storedH;rw [e];by_cases q:(atKey xs k).isSome=true
 ·rw [if_pos q,if_pos q];exact r.repl k ry
 ·rw [if_neg q,if_neg q];exact Paired.snoc r ⟨rfl,hb,ry⟩
theorem KT.keeps {T:Addr->List V->Prop}{H H':Hp}{kvs:List (List Kt×V)}{xs:List (List Kt×Addr×Value)}(r:KT T H kvs xs)(ht:∀b ys,H b=some (.tup ys)->H' b=some (.tup ys)):KT T H' kvs xs:=
 Paired.XN r λ_ _ z=>⟨z.1,z.2.1.imp ht,z.2.2⟩
section
variable {P:Program}{w:World}{H:Hp}{h:Heap}{a:Addr}
theorem Wj {u:HO}(ok:HOk P w H h)(e:Rd H a u):cD P w H h a u:=e.ok ok
theorem qN {kvs:List (Key×V)}(ok:HOk P w H h)(e:Rd H a (.dK kvs)):kvs.length<=sizeLine/\(a == sysModules)=false/\∃vs,KV kvs vs/\h.DictOf (fG P w) a vs:=
 show cD P w H h a (.dK kvs) from Wj ok e
theorem WR {kvs:List (Key×V)}(ok:HOk P w H h)(e:H a=some (.dK kvs)):kvs.length<=sizeLine/\(a == sysModules)=false/\∃vs,KV kvs vs/\h.DictOf (fG P w) a vs:=qN ok (.inl e)
theorem Aj {T:Addr->List V->Prop}{kvs:List (List Kt×V)}(hT:∀b ks,TrT T H b ks->(gf P w).is h ks b)(ok:HOk P w H h)(e:Rd H a (.dT T kvs)):kvs.length<=sizeLine/\(a == sysModules)=false/\
  ∃xs,KT T H kvs xs/\h.DictOfH (gf P w) a xs:=by
 obtain ⟨z,y,xs,r,o,es,ep,h1,h2,h3,h4,h5⟩:=(show cD P w H h a (.dT T kvs) from Wj ok e);refine ⟨z,y,xs,r,o,es,ep,h1,h2,h3,h4,λx hx=>?_,h5⟩;have all:∀{l:List (List Kt×V)} {m:List (List Kt×Addr×Value)},KT T H l m->∀x∈m,(gf P w).is h x.1 x.2.1:=by
  intro l m q;induction q with
  |nil=>intro x hx;exact nomatch hx
  | @cons p q ps qs hq t ih=>
   intro x hx;rcases List.mem_cons.mp hx with e | hx
   ·subst e;rw [← hq.1];exact hT _ _ hq.2.1
   ·exact ih x hx
 exact all r x hx
theorem O9 {T:Addr->List V->Prop}{kvs:List (List Kt×V)}(hT:∀b ks,TrT T H b ks->(gf P w).is h ks b)(ok:HOk P w H h)(e:H a=some (.dT T kvs)):kvs.length<=sizeLine/\(a == sysModules)=false/\
  ∃xs,KT T H kvs xs/\h.DictOfH (gf P w) a xs:=Aj hT ok (.inl e)
end
def Fd (K:W.Frag)(H:Hp)(a:Addr)(y:V)(r:Option V):Prop:=
 (∃kvs k,Rd H a (.dK kvs)/\y=kV k/\r=m9 kvs k)\/∃kvs k b,Rd H a (.dT (KTp K) kvs)/\y=.ref b/\TrT (KTp K) H b k/\r=m9 kvs k
def Gn (K:W.Frag)(H:Hp)(a:Addr)(y v:V)(H':Hp):Prop:=
 (∃kvs k,H a=some (.dK kvs)/\y=kV k/\kvs.length<sizeLine/\H'=upd H a (.dK (putK kvs k v))) ∨
 ∃kvs k b,H a=some (.dT (KTp K) kvs)/\y=.ref b/\TrT (KTp K) H b k/\kvs.length<sizeLine/\H'=upd H a (.dT (KTp K) (putK kvs k v))
theorem Gn.k {K:W.Frag}{H:Hp}{a:Addr}{kvs:List (Key×V)}{k:Key}{v:V}(e:H a=some (.dK kvs))(hl:kvs.length<sizeLine):Gn K H a (kV k) v (upd H a (.dK (putK kvs k v))):=.inl ⟨kvs,k,e,rfl,hl,rfl⟩
theorem Gn.t {K:W.Frag}{H:Hp}{a b:Addr}{kvs:List (List Kt×V)}{k:List Kt}{v:V}(e:H a=some (.dT (KTp K) kvs))(eb:TrT (KTp K) H b k)(hl:kvs.length<sizeLine):
  Gn K H a (.ref b) v (upd H a (.dT (KTp K) (putK kvs k v))):=.inr ⟨kvs,k,b,e,rfl,eb,hl,rfl⟩
section
variable {X:Cx}{pins:Zl}{σ:St}{H:Hp}{s:Shared}{a:Addr}{y v:V}{u r:Value}{o:Option V}{A:Around}{E:Zs}
theorem Inv.big (I:Inv X pins σ H s):sysModules<s.heap.objs.size:=by
 have h:mainGlobals<s.heap.objs.size:=(I.mod.glob.keeps I.bk).lt;exact Nat.lt_trans (by decide) h
mutual
theorem KD (I:Inv X pins σ H s):∀{n:Nat} {v:V} {k:Kt} {u:Value},v9 (KTp X.K) H n v k->RelV v u->lu s.heap n k u
 |n,_,_,u,.k (x:=x),r=>by rw [oA];exact yD (P:=X.prog) (w:=X.w) r
 |_,_,_,u,.t (b:=b) h hs,r=>by
  cases (show u=Value.ref b from r);obtain ⟨its,rv,⟨o,ho,hc,m,hd⟩,_⟩:=I.tuple (SqU.sq h);exact jC.mpr ⟨b,o,its.toArray,m,rfl,ho,hc,hd,by simpa using Gz I hs rv⟩
theorem Gz (I:Inv X pins σ H s):∀{n:Nat} {vs:List V} {ks:List Kt} {us:List Value},pB (KTp X.K) H n vs ks->Vals vs us->Paired (lu s.heap n) ks us
 |_,_,_,_,.nil,.nil=>.nil
 |_,_,_,_,.cons h hs,.cons r rs=>.cons (KD I h r) (Gz I hs rs)
end
theorem tY {ks:List Kt}{b:Addr}(I:Inv X pins σ H s)(e:TrT (KTp X.K) H b ks):(gf X.prog X.w).is s.heap ks b:=by
 obtain ⟨vs,h,hs⟩:=e;exact KD I (.t h hs) rfl
theorem wI (I:Inv X pins σ H s):∀b ks,TrT (KTp X.K) H b ks->(gf X.prog X.w).is s.heap ks b:=λb ks e=>tY I e
theorem pF {A:Around}(hu:A.units+16<cLine):(gf X.prog X.w).room A.in1:=by
 show A.units+1+8<cLine;omega
theorem Ob {Q:Zs}(hu:A.units+16<cLine)(I:Inv X pins σ H s)(g:Fd X.K H a y (some v))(ry:RelV y u)(h:∀w' s',Inv X pins σ H s'->RelV v w'->Q w' s'):
  wpAny (model X.prog X.w) A (getItem (.ref a) u) Q E s:=by
 rcases g with ⟨kvs,k,e,ey,l⟩ | ⟨kvs,k,b,e,ey,eb,l⟩
 ·subst ey;obtain ⟨z,hd,vs,rel,dd⟩:=qN I.hok e;obtain ⟨w',hw,rw'⟩:=vV.some_of (v:=v) (o:=valueAt vs k) (by rw [l];exact rel.val k);exact wpAny_getItem_of (yD ry) dd.mapOf hw (h w' _ (I.tok _) rw')
 ·subst ey;cases (show u=Value.ref b from ry);obtain ⟨z,hd,xs,rel,dd⟩:=Aj (wI I) I.hok e;obtain ⟨w',hw,rw'⟩:=vV.some_of (v:=v) (o:=(atKey xs k).map (·.2)) (by rw [l];exact rel.val k);obtain ⟨p,hp,hp2⟩:=Option.map_eq_some_iff.mp hw;refine wpAny_getItem_heap (pF hu) (tY I eb) dd hp ?_;rw [hp2];exact h w' _ (I.tok _) rw'
theorem abH {Q:Zs}(hu:A.units+16<cLine)(I:Inv X pins σ H s)(g:Fd X.K H a y o)(ry:RelV y u)(h:∀s',Inv X pins σ H s'->Q (.bool o.isSome) s'):
  wpAny (model X.prog X.w) A (compareOp .In u (.ref a)) Q E s:=by
 rcases g with ⟨kvs,k,e,ey,l⟩ | ⟨kvs,k,b,e,ey,eb,l⟩
 ·subst ey;obtain ⟨z,hd,vs,rel,dd⟩:=qN I.hok e;refine wpAny_in_of (yD ry) hd dd.mapOf ?_;rw [← (rel.val k).v8,← l];exact h _ (I.tok _)
 ·subst ey;cases (show u=Value.ref b from ry);obtain ⟨z,hd,xs,rel,dd⟩:=Aj (wI I) I.hok e;refine wpAny_in_heap (pF hu) (tY I eb) hd dd ?_;have q:=(rel.val k).v8;rw [Option.isSome_map] at q;rw [← q,← l];exact h _ (I.tok _)
theorem uP {h':Heap}{t':Nat}{ob:HO}(I:Inv X pins σ H s)(mu:Mut (H a))(hs:Heap.SameBut a s.heap h')(he:∃q,h'.get? a=some q)(new:cD X.prog X.w (upd H a ob) h' a ob):
  Inv X pins σ (upd H a ob) { s with heap:=h',toks:=t' }:=
 I.write (x:=a) (e:=a) mu (.inl rfl) (λb q hb z=>(hs.2 b hb).trans z) he new
theorem PQ {P:Program}{w:World}{H':Hp}{h':Heap}{kvs:List (Key×V)}{vs:List (Key×Value)}(z:kvs.length<=sizeLine)(hd:(a == sysModules)=false)(rel:KV kvs vs)(dd:h'.DictOf (fG P w) a vs):
  cD P w H' h' a (.dK kvs):=⟨z,hd,vs,rel,dd⟩
theorem Nb {H':Hp}{Q:Unit->Shared->Prop}(hu:A.units+16<cLine)(I:Inv X pins σ H s)(g:Gn X.K H a y v H')(ry:RelV y u)(rv:RelV v r)(h:∀s',Inv X pins σ H' s'->Q () s'):
  wpAny (model X.prog X.w) A (setItem (.ref a) u r) Q E s:=by
 rcases g with ⟨kvs,k,e,ey,l,eH⟩ | ⟨kvs,k,b,e,ey,eb,l,eH⟩
 ·subst ey eH;obtain ⟨z,hd,vs,rel,dd⟩:=WR I.hok e;have hz:vs.length<=sizeLine:=by rw [← rel.length];exact z
  have hl:(putK kvs k v).length<=sizeLine:=by have:=qM kvs k v;omega
  refine wpAny_setItem_pairs (hsz:=hz) (yD ry) dd λh' dd' hs=>h _ ?_;have he:∃q,h'.get? a=some q:=let ⟨q,_,_,hq,_⟩:=dd';⟨q,hq⟩
  exact uP I (by rw [e];exact True.intro) hs he (PQ hl hd (rel.put k rv) dd')
 ·subst ey eH;cases (show u=Value.ref b from ry);obtain ⟨z,hd,xs,rel,dd⟩:=O9 (wI I) I.hok e;have hz:xs.length<=sizeLine:=by rw [← Paired.length rel];exact z
  have hl:(putK kvs k v).length<=sizeLine:=by have:=qM kvs k v;omega
  refine wpAny_setItem_heap (hsz:=hz) (pF hu) (tY I eb) dd λh' dd' hs=>h _ ?_;obtain ⟨q,es,ep,hq,h2,h3,h4,_,h5⟩:=dd';refine uP I (by rw [e];exact True.intro) hs ⟨q,hq⟩ ⟨hl,hd,_,(rel.put k eb rv).keeps λc ys ec=>?_,q,es,ep,hq,h2,h3,h4,h5⟩;rw [bc (yH ec e (λz=>nomatch z))];exact ec
end
section
variable {X:Cx}{pins:Zl}{σ:St}{H:Hp}{s:Shared}{a:Addr}{kvs:List (Key×V)}{k:Key}{u:Value}{A:Around}{E:Zs}
theorem Zi {Q:Zs}(I:Inv X pins σ H s)(e:Rd H a (.dK kvs))(h:∀t s',Inv X pins σ H s'->Q (.int kvs.length t) s'):wpAny (model X.prog X.w) A (call (.builtin "len") [.ref a]) Q E s:=by
 obtain ⟨z,hd,vs,rel,dd⟩:=qN I.hok e;refine call_len_dict hd dd (by rw [← rel.length];rw [sizeLine_eq] at z;omega) ?_;rw [← rel.length];exact h _ _ (I.tok _)
end
def Vg (i:Expr):Prop:=∀ov iv,subscripted i false ov iv=operate [ov,iv] (getItem ov iv)
theorem Vp {prog:Program}{w:World}{A:Around}{E:Zs}{s:Shared}{env:Env}{value slice:Expr}{pos:Pos}{T id:String}{Q:Zs}
  (hl:typeLookup (.type T) "__getitem__" = pure (some (.builtin id))) (hs:Vg slice)
  (h:wpAny (model prog w) A (eval value env) (λo s₁=>wpAny (model prog w) A (eval slice env) (λi s₂=>s₂.TypeIs o T/\wpAny (model prog w) A (getItem o i) Q E s₂) E s₁) E s):
  wpAny (model prog w) A (eval (.Subscript value slice pos) env) Q E s:=by
 refine Subscript_ (wpAny_mono h (λo s₁ h₁=>wpAny_mono h₁ (λi s₂ h₂=>?_) λ_ _ x=>x) λ_ _ x=>x);obtain ⟨hT,h₂⟩:=h₂;unfold subscriptTail;refine wpAny_bind ?_;rw [getitemInPython_of_ne hT.not_modules];refine wpAny_bind (wpAny_specialOf hT hl ?_);have fin:wpAny (model prog w) A (subscripted slice false o i) (λr s₃=>wpAny (model prog w) A (letTemporaryGo value o r >>= λ_=>pure r) Q E s₃) E s₂:=by
  rw [hs o i];exact wpAny_operating (wpAny_mono h₂ (λr s₃ h₃=>wpAny_bind (wpAny_letTemporaryGo (wpAny_pure h₃))) λ_ _ x=>x)
 first
  |exact wpAny_pure (wpAny_bind fin)
  |exact wpAny_bind (wpAny_pure (wpAny_bind fin))
  |exact wpAny_bind fin
theorem GF {X:Cx}{pins:Zl}{σ:St}{H:Hp}{s:Shared}{a:Addr}{y:V}{o:Option V}(I:Inv X pins σ H s)(g:Fd X.K H a y o):s.TypeIs (.ref a) "dict":=by
 rcases g with ⟨kvs,k,e,_,_⟩ | ⟨kvs,k,b,e,_,_,_⟩
 ·obtain ⟨_,_,vs,_,dd⟩:=qN I.hok e;exact dd.typeIs
 ·obtain ⟨_,_,xs,_,dd⟩:=Aj (wI I) I.hok e;exact dd.typeIs
def Zf (K:W.Frag)(td ty:TE):TE:=λσ H Q=>td σ H λx H1=>ty σ H1 λy H2=>∃a v,x=.ref a/\Fd K H2 a y (some v)/\Q v H2
def ZS (K:W.Frag)(td ty tv:TE):TS:=λD σ H=>tv σ H λv H1=>td σ H1 λx H2=>ty σ H2 λy H3=>∃a H4,x=.ref a/\Gn K H3 a y v H4/\D.nx σ H4
section
variable {X:Cx}{o i e value:Expr}{pos pos' tpos:Pos}{td ty tv:TE}
theorem LC (hu:X.A.units+16<cLine)(ho:PE X o td)(hi:PE X i ty)(hs:Vg i):PE X (.Subscript o i pos) (Zf X.K td ty):=by
 intro pins s σ H Q I h;refine Vp PySem.F.slot_dict_getitem.lookup hs (thn (ho pins s σ H _ I h) λu s1 ⟨x,H1,I1,rx,q1⟩=>thn (hi pins s1 σ H1 _ I1 q1) λiv s2 ⟨y,H2,I2,ry,a,v,ex,g,q2⟩=>?_);subst ex;obtain rfl:u=Value.ref a:=rx;exact ⟨GF I2 g,Ob hu I2 g ry λw' s3 I3 rw'=>⟨v,H2,I3,rw',q2⟩⟩
theorem JL (hu:X.A.units+16<cLine)(ho:PE X o td)(hi:PE X i ty)(hv:PE X value tv)(hs:swapsWith value (some (.Subscript o i pos')) pos.line X.env=pure false):
  PS X (.Assign [.Subscript o i pos'] value pos) (ZS X.K td ty tv):=by
 intro pins s σ H D I h;refine wpAny_Assign_Subscript (thn (hv pins s σ H _ I h) λr s1 ⟨v,H1,I1,rv,q1⟩=>thn (ho pins s1 σ H1 _ I1 q1) λu s2 ⟨x,H2,I2,rx,q2⟩=>thn (hi pins s2 σ H2 _ I2 q2) λiv s3 ⟨y,H3,I3,ry,a,H4,ex,g,q3⟩=>?_) hs;subst ex;obtain rfl:u=Value.ref a:=rx;exact Nb hu I3 g ry rv λs4 I4=>⟨σ,H4,I4,q3⟩
end
theorem Gh {P:Program}{w:World}{H:Hp}(h:Heap)(hb:sysModules<h.objs.size):cD P w H (h.push { cls:=.type "dict",data:=.dict #[] }) h.objs.size (.dK []):=
 ⟨Nat.zero_le _,beq_eq_false_iff_ne.mpr (Ne.symm (Nat.ne_of_lt hb)),[],.nil,Heap.DictOf.new h⟩
theorem Gq {T:Addr->List V->Prop}{P:Program}{w:World}{H:Hp}(h:Heap)(hb:sysModules<h.objs.size):cD P w H (h.push { cls:=.type "dict",data:=.dict #[] }) h.objs.size (.dT T []):=
 ⟨Nat.zero_le _,beq_eq_false_iff_ne.mpr (Ne.symm (Nat.ne_of_lt hb)),[],.nil,_,#[],0,Heap.get?_push_size _ rfl,⟨rfl,rfl,rfl⟩,rfl,rfl,List.nodup_nil⟩
def XX:TE:=λ_ H Q=>∀p,H p=none->Q (.ref p) (upd H p (.dK []))
def W2 (K:W.Frag):TE:=λ_ H Q=>∀p,H p=none->Q (.ref p) (upd H p (.dT (KTp K) []))
section
variable {X:Cx}{pos:Pos}
theorem PJ:PE X (.Dict [] [] pos) XX:=λpins s σ H Q I h=>
 wpAny_Dict_empty ⟨.ref s.heap.objs.size,_,I.laid (a:=s.heap.objs.size) (o:=.dK []) (t':=s.toks) (λ_ _ q=>Heap.get?_push_of_some _ q) (Nat.le_refl _) (Gh s.heap I.big),rfl,h _ (I.hok.fresh (Nat.le_refl _))⟩
theorem QT:PE X (.Dict [] [] pos) (W2 X.K):=λpins s σ H Q I h=>
 wpAny_Dict_empty ⟨.ref s.heap.objs.size,_,I.laid (a:=s.heap.objs.size) (o:=.dT (KTp X.K) []) (t':=s.toks) (λ_ _ q=>Heap.get?_push_of_some _ q) (Nat.le_refl _) (Gq s.heap I.big),rfl,h _ (I.hok.fresh (Nat.le_refl _))⟩
end
def Ep:List (TE×TE)->St->Hp->(List (V×V)->Hp->Prop)->Prop
 |[],_,H,Q=>Q [] H
 |(tk,tv)::r,σ,H,Q=>tk σ H λx H1=>tv σ H1 λy H2=>Ep r σ H2 λps H3=>Q ((x,y)::ps) H3
abbrev VV:List (V×V)->List (Value×Value)->Prop:=Paired λp q=>RelV p.1 q.1/\RelV p.2 q.2
def PPs (X:Cx)(pos:Pos)(keys:List (Option Expr))(values:List Expr)(trs:List (TE×TE)):Prop:=
 ∀(pins:Zl) (s:Shared) (σ:St) (H:Hp) (Q:List (V×V)->Hp->Prop),Inv X pins σ H s->Ep trs σ H Q->
  wpAny (model X.prog X.w) X.A (evalPairs (pairTrees keys values X.env pos)) (λvs s'=>∃ps H',Inv X pins σ H' s'/\VV ps vs/\Q ps H') X.xe s
theorem VR {X:Cx}{pos:Pos}:PPs X pos [] [] []:=λpins s σ H Q I h=>pairTrees_nil_walk ⟨[],H,I,.nil,h⟩
theorem Pj {X:Cx}{pos:Pos}{k v:Expr}{ks:List (Option Expr)}{vs:List Expr}{tk tv:TE}{trs:List (TE×TE)}(hk:PE X k tk)(hv:PE X v tv)(hr:PPs X pos ks vs trs):
  PPs X pos (some k::ks) (v::vs) ((tk,tv)::trs):=λpins s σ H Q I h=>
 pairTrees_cons_walk (thn (hk pins s σ H _ I h) λu s1 ⟨x,H1,I1,rx,q1⟩=>thn (hv pins s1 σ H1 _ I1 q1) λw2 s2 hE=>xq2 hE λy H2 I2 ry q2=>
  thn (hr pins s2 σ H2 _ I2 q2) λws s3 ⟨ps,H3,I3,rel,q3⟩=>⟨(x,y)::ps,H3,I3,.cons ⟨rx,ry⟩ rel,q3⟩)
def oM (kvs more:List (Key×V)):List (Key×V):=more.foldl (λacc kv=>putK acc kv.1 kv.2) kvs
theorem KV.merge:∀{more:List (Key×V)} {rs:List (Key×Value)} {kvs:List (Key×V)} {vs:List (Key×Value)},KV more rs->KV kvs vs->KV (oM kvs more) (merged vs rs):=by
 intro more rs kvs vs r;unfold KV at r;induction r generalizing kvs vs with
 |nil=>intro q;exact q
 | @cons p q ps qs h t ih=>
  intro r0;have e:KV (putK kvs p.1 p.2) (stored vs q.1 q.2):=by
   have:=r0.put p.1 h.2
   rw [← h.1];exact this
  exact ih e
theorem ou:∀(more kvs:List (Key×V)),(oM kvs more).length<=kvs.length+more.length
 |[],kvs=>by show kvs.length<=kvs.length+0;omega
 |p::r,kvs=>by
  have h1:=ou r (putK kvs p.1 p.2);have h2:=qM kvs p.1 p.2;show (oM (putK kvs p.1 p.2) r).length<=_;rw [List.length_cons];omega
theorem zm {P:Program}{w:World}:∀{kvs:List (Key×V)} {ws:List (Value×Value)},VV (kvs.map λkv=>(kV kv.1,kv.2)) ws->∃rs,Carries (fG P w) ws rs/\KV kvs rs
 |[],_,r=>by rw [List.map_nil] at r;cases r;exact ⟨[],True.intro,.nil⟩
 |p::kvs,_,r=>by
  rw [List.map_cons] at r;cases r with
  | @cons a b as bs h t=>
   obtain ⟨rs,c,q⟩:=zm (P:=P) (w:=w) t;obtain ⟨b1,b2⟩:=b;exact ⟨(p.1,b2)::rs,⟨yD h.1,rfl,c⟩,.cons ⟨rfl,h.2⟩ q⟩
def aax (trs:List (TE×TE)):TE:=λσ H Q=>∀p,H p=none->Ep trs σ (upd H p (.dK [])) λps H2=>H2 p=some (.dK [])/\∃kvs:List (Key×V),ps=kvs.map (λkv=>(kV kv.1,kv.2))/\kvs.length<=15/\Q (.ref p) (upd H2 p (.dK (oM [] kvs)))
theorem Up {X:Cx}{pos:Pos}{keys:List (Option Expr)}{values:List Expr}{trs:List (TE×TE)}(h:PPs X pos keys values trs)(hall:keys.all (·.isSome)=true)(hl:keys.length=values.length)(h0:keys≠[])
  (h15:keys.length<=15):PE X (.Dict keys values pos) (aax trs):=by
 intro pins s σ H Q I q;have hn:=I.hok.fresh (Nat.le_refl s.heap.objs.size);have I1:=I.laid (a:=s.heap.objs.size) (o:=.dK []) (h':=s.heap.push { cls:=.type "dict",data:=.dict #[] }) (t':=s.toks) (λ_ _ q=>Heap.get?_push_of_some _ q) (Nat.le_refl _) (Gh s.heap I.big);refine wpAny_Dict_walk (knd:=fG X.prog X.w) hall hl h0 h15 (thn (h pins _ σ _ _ I1 (q _ hn)) λws s2 ⟨ps,H2,I2,rel,e,kvs,ep,lk,q2⟩=>?_);subst ep;obtain ⟨rs,c,rk⟩:=zm (P:=X.prog) (w:=X.w) rel;obtain ⟨z,hd,vs0,r0,dd⟩:=WR I2.hok e;cases r0;refine ⟨rs,c,dd,λh' dd' hs=>⟨.ref s.heap.objs.size,_,?_,rfl,q2⟩⟩;have hz:(oM [] kvs).length<=sizeLine:=by
  have h1:=ou kvs [];rw [List.length_nil] at h1;rw [sizeLine_eq];omega
 have he:∃q,h'.get? s.heap.objs.size=some q:=let ⟨q,_,_,hq,_⟩:=dd';⟨q,hq⟩
 exact uP I2 (by rw [e];exact True.intro) hs he (PQ hz hd (rk.merge .nil) dd')
structure M2 (X:Cx)(o:Expr)(m:Str)(apos:Pos)(e f:Expr)(cpos:Pos):Prop where
 base:attributeBase o m X.env (eval o X.env)=eval o X.env
 few:((backTo cpos (starEach [e,f] X.env)).all (λx=>!x.1) && (backToKw cpos (keywordEach [] X.env)).all (λx=>x.1.isSome)
  && decide (([e,f]:List Expr).length+([]:List Keyword).length+(if ([]:List Keyword).isEmpty then 0 else 1)<30))=true
 line:(apos.endLine == cpos.line)=true
 trees:backTo cpos (starEach [e,f] X.env)=[(false,eval e X.env),(false,eval f X.env)]
def IsD (K:W.Frag)(H:Hp)(a:Addr):Prop:=(∃kvs,Rd H a (.dK kvs))\/∃kvs,Rd H a (.dT (KTp K) kvs)
theorem S9 {X:Cx}{pins:Zl}{σ:St}{H:Hp}{s:Shared}{a:Addr}(I:Inv X pins σ H s)(d:IsD X.K H a):
  s.TypeIs (.ref a) "dict"/\(∀b,Value.ref a=.ref b->∃ob,s.heap.get? b=some ob/\ob.dict=none)/\(a == sysModules)=false:=by
 rcases d with ⟨kvs,e⟩ | ⟨kvs,e⟩
 ·obtain ⟨_,hd,vs,_,dd⟩:=qN I.hok e;refine ⟨dd.typeIs,λb q=>?_,hd⟩;cases q;obtain ⟨ob,_,_,h1,h2,_⟩:=dd;exact ⟨ob,h1,h2.2.1⟩
 ·obtain ⟨_,hd,xs,_,dd⟩:=Aj (wI I) I.hok e;refine ⟨dd.typeIs,λb q=>?_,hd⟩;cases q;obtain ⟨ob,_,_,h1,h2,_⟩:=dd;exact ⟨ob,h1,h2.2.1⟩
section
variable {X:Cx}{pins:Zl}{σ:St}{H:Hp}{s:Shared}{a:Addr}{y d:V}{u r:Value}{o:Option V}{A:Around}{E:Zs}
theorem Yg {Q:Zs}(hu:A.units+16<cLine)(I:Inv X pins σ H s)(g:Fd X.K H a y o)(ry:RelV y u)(rd:RelV d r)(h:∀w' s',Inv X pins σ H s'->RelV (o.getD d) w'->Q w' s'):
  wpAny (model X.prog X.w) A (call (.builtin "dict.get") [.ref a,u,r]) Q E s:=by
 rcases g with ⟨kvs,k,e,ey,l⟩ | ⟨kvs,k,b,e,ey,eb,l⟩
 ·subst ey;obtain ⟨z,hd,vs,rel,dd⟩:=qN I.hok e;refine call_meetsIn PySem.F.slot_dict_get dd.typeIs PySem.F.entry_dict_get (PySem.F.args_dict_get_3 _ _ _) (meets_dict_get_default (fG X.prog X.w) a (yD ry) hd r) ⟨_,dd.mapOf,h _ _ (I.tok _) ?_⟩;rw [l];exact (rel.val k).getD rd
 ·subst ey;cases (show u=Value.ref b from ry);obtain ⟨z,hd,xs,rel,dd⟩:=Aj (wI I) I.hok e;refine call_meetsIn PySem.F.slot_dict_get dd.typeIs PySem.F.entry_dict_get (PySem.F.args_dict_get_3 _ _ _) (meetsH_dict_get_default (gf X.prog X.w) a b hd r) ⟨pF hu,k,xs,tY I eb,dd,h _ _ (I.tok _) ?_⟩;rw [l];exact (rel.val k).getD rd
end
def W8 (K:W.Frag)(td ty tx:TE):TE:=λσ H Q=>td σ H λx H1=>∃a,x=.ref a/\IsD K H1 a/\ty σ H1 λy H2=>tx σ H2 λz H3=>∃o,Fd K H3 a y o/\Q (o.getD z) H3
section
variable {X:Cx}{o e f:Expr}{apos cpos:Pos}{td ty tx:TE}
theorem Qe (hu:X.A.units+16<cLine)(ho:PE X o td)(he:PE X e ty)(hf:PE X f tx)(m:M2 X o "get" apos e f cpos):PE X (.Call (.Attribute o "get" apos) [e,f] [] cpos) (W8 X.K td ty tx):=by
 intro pins s σ H Q I h;refine wpAny_Call_method m.base m.few m.line PySem.F.plainAttrs_dict PySem.F.slot_dict_get PySem.F.type_dict_get (thn (ho pins s σ H _ I h) λu s1 ⟨x,H1,I1,rx,a,ex,d,q1⟩=>?_);subst ex;obtain rfl:u=Value.ref a:=rx;obtain ⟨t1,t2,_⟩:=S9 I1 d;refine ⟨t1,t2,?_⟩;rw [m.trees];refine Calls.callWith_builtin rfl (Calls.evalArgs_plain (Calls.spliced_cons (thn (he pins s1 σ H1 _ I1 q1) λiv s2 hE=>xq2 hE λy H2 I2 ry q2=>
  Calls.spliced_cons (thn (hf pins s2 σ H2 _ I2 q2) λfv s3 ⟨z,H3,I3,rz,ov,g,q3⟩=>Calls.spliced_nil ?_))))
 exact Yg hu I3 g ry rz λw' s4 I4 rw'=>⟨_,H3,I4,rw',q3⟩
end
section
variable {X:Cx}{pins:Zl}{σ:St}{H:Hp}{s:Shared}{a:Addr}{kvs:List (Key×V)}{A:Around}{E:Zs}
end
section
variable {X:Cx}{pins:Zl}{σ:St}{H:Hp}{s:Shared}{a:Addr}{y:V}{u:Value}{A:Around}{E:Zs}
end
section
variable {X:Cx}
end
section
variable {κ:Type}[DecidableEq κ]
end
end L2
namespace Hd
open PySem PySem.Spec PyProof.Rows L2
theorem bD {H:Hp}{p:Addr}(h:H p=none)(o:HO):aL H (upd H p o):=λb u q=>by
 rw [bc (jy q h)];exact q
section
variable {X:Cx}{e:Expr}{es:List Expr}{pos:Pos}
theorem bJ {T T':TE}(h:PE X e T)(k:∀σ H Q,T' σ H Q->T σ H Q):PE X e T':=λpins s σ H Q I q=>h pins s σ H Q I (k σ H Q q)
def clA (t:TA):TA:=λσ H Q=>∃R,t σ H R/\∀xs H1,R xs H1->Q xs H1
theorem WL {t:TA}(h:PA X es t):PA X es (clA t):=λpos pins s σ H Q I ⟨R,hR,k⟩=>thn (h pos pins s σ H R I hR) λ_ _ hE=>xq2 hE λvs H1 I1 r q=>⟨vs,H1,I1,r,k _ _ q⟩
def ZW (t:TA):TE:=λσ H Q=>t σ H λxs H1=>xs.length<=sizeLine/\∀p H',aL H1 H'->H' p=some (.tup xs)->Q (.ref p) H'
theorem VM {x1}{t:TA}(h:PA X es t):PE X (.Tuple es x1 pos) (ZW t):=
 bJ (W9 (WL h)) λ_ _ _ q=>⟨_,q,λ_ _ ⟨z,k⟩=>⟨z,λp hp=>k p _ (bD hp _) aV⟩⟩
end
abbrev cV (X:Cx)(N':List Str)(scope:Scope)(cl:List (Str×Addr))(C:Addr)(sE:Shared)(HE:Hp)(fp:List Addr)(pins:Zl):Cx:=
 { X with N:=N',s₀:=sE,H₀:=HE,env:=compEnvC scope cl C X.env,outer:=X.stack,ex:=fp,fn:=λ_=>false,pn:=X.pn++pins,xe:=λ_ _=>False }
structure CSc (sc scope:Scope)(caps:List Str):Prop where
 kind:scope.kind=.function
 nocell:∀y∈scope.names,y.2≠.cell
 loc:∀y∈scope.names,y.2=.local->scope.names.lookup y.1=some .local
 free:∀y∈scope.names,y.2=.free->sc.names.lookup y.1=some .cell\/sc.names.lookup y.1=some .free
 caps:∀x∈caps,scope.names.lookup x=some .free/\(sc.names.lookup x=some .cell\/sc.names.lookup x=some .free)
theorem mem_of_lookup {β:Type}:∀{l:List (Str×β)} {x:Str} {k:β},l.lookup x=some k->(x,k)∈l
 |[],_,_,h=>by simp at h
 |(n,k')::r,x,k,h=>by
  rw [List.lookup_cons] at h;split at h
  ·rename_i e;have e':x=n:=by simpa using e
   cases h;rw [e'];exact List.mem_cons_self
  ·exact List.mem_cons_of_mem _ (mem_of_lookup h)
theorem vz {env:Env}:∀{names:List (Str×NameKind)} {x:Str},names.lookup x=some .free->
  (names.map λ(n,k)=>if (k == NameKind.free && env.scope.kind == .function && env.kindOf n == some .cell) then (n,NameKind.cell) else (n,k)).lookup x=some .cell ∨
  (names.map λ(n,k)=>if (k == NameKind.free && env.scope.kind == .function && env.kindOf n == some .cell) then (n,NameKind.cell) else (n,k)).lookup x=some .free
 |[],_,h=>by simp at h
 |(n,k)::r,x,h=>by
  have ih:=@vz env r x;show List.lookup x ((if (k == NameKind.free && env.scope.kind == .function && env.kindOf n == some .cell)=true then (n,NameKind.cell) else (n,k))::_)=_\/List.lookup x ((if (k == NameKind.free && env.scope.kind == .function && env.kindOf n == some .cell)=true then (n,NameKind.cell) else (n,k))::_)=_;cases hx:x == n with
  |true=>
   simp only [List.lookup_cons,hx] at h;cases h;by_cases hc:(NameKind.free == NameKind.free && env.scope.kind == .function && env.kindOf n == some .cell)=true
   ·rw [if_pos hc];simp only [List.lookup_cons,hx];exact .inl trivial
   ·rw [if_neg hc];simp only [List.lookup_cons,hx];exact .inr trivial
  |false=>
   simp only [List.lookup_cons,hx] at h;by_cases hc:(k == NameKind.free && env.scope.kind == .function && env.kindOf n == some .cell)=true
   ·rw [if_pos hc];simp only [List.lookup_cons,hx];exact ih h
   ·rw [if_neg hc];simp only [List.lookup_cons,hx];exact ih h
theorem zx {env:Env}:∀{names:List (Str×NameKind)} {x:Str},(∀y∈names,y.2≠.cell)->
  ((names.map λ(n,k)=>if (k == NameKind.free && env.scope.kind == .function && env.kindOf n == some .cell) then (n,NameKind.cell) else (n,k)).lookup x=some .cell ∨
  (names.map λ(n,k)=>if (k == NameKind.free && env.scope.kind == .function && env.kindOf n == some .cell) then (n,NameKind.cell) else (n,k)).lookup x=some .free)->names.lookup x=some .free
 |[],_,_,h=>by simp at h
 |(n,k)::r,x,hn,h=>by
  have ih:=@zx env r x (λy hy=>hn y (List.mem_cons_of_mem _ hy));have h':List.lookup x ((if (k == NameKind.free && env.scope.kind == .function && env.kindOf n == some .cell)=true then (n,NameKind.cell) else (n,k))::_)=some .cell\/List.lookup x ((if (k == NameKind.free && env.scope.kind == .function && env.kindOf n == some .cell)=true then (n,NameKind.cell) else (n,k))::_)=some .free:=h;have hk:k≠.cell:=hn (n,k) List.mem_cons_self;by_cases hc:(k == NameKind.free && env.scope.kind == .function && env.kindOf n == some .cell)=true
  ·rw [if_pos hc] at h';have kf:k=.free:=by
    simp only [Bool.and_eq_true,beq_iff_eq] at hc;exact hc.1.1
   subst kf;cases hx:x == n with
   |true=>simp only [List.lookup_cons,hx]
   |false=>
    simp only [List.lookup_cons,hx] at h' ⊢;exact ih h'
  ·rw [if_neg hc] at h';cases hx:x == n with
   |true=>
    simp only [List.lookup_cons,hx] at h' ⊢;rcases h' with z | z
    ·exact absurd (Option.some.inj z) hk
    ·exact z
   |false=>
    simp only [List.lookup_cons,hx] at h' ⊢;exact ih h'
theorem tM {env:Env}:∀(names:List (Str×NameKind)) (acc:List (Str×Addr)),(∀y∈names,y.2=.free->∃c,env.cells.lookup y.1=some c)->
  ∃cl,(forIn names acc λ(y:Str×NameKind) (cs:List (Str×Addr))=>(if y.2 == .free then do let c ← cellOf env y.1;pure (ForInStep.yield ((y.1,c)::cs)) else pure (ForInStep.yield cs):Sem (ForInStep (List (Str×Addr)))))=pure cl/\
   (∀x c,cl.lookup x=some c->acc.lookup x=some c\/env.cells.lookup x=some c)/\(∀x c,acc.lookup x=some c->∃c',cl.lookup x=some c')/\∀y∈names,y.2=.free->∃c,cl.lookup y.1=some c
 |[],acc,_=>⟨acc,rfl,λ_ _ e=>.inl e,λ_ c e=>⟨c,e⟩,λ_ z=>nomatch z⟩
 |(n,k)::r,acc,h=>by
  have hr:∀y∈r,y.2=.free->∃c,env.cells.lookup y.1=some c:=λy hy=>h y (List.mem_cons_of_mem _ hy);by_cases hk:(k == NameKind.free)=true
  ·obtain ⟨c,hc⟩:=h (n,k) List.mem_cons_self (by simpa using hk);obtain ⟨cl,e,h1,h2,h3⟩:=tM r ((n,c)::acc) hr;refine ⟨cl,?_,λx d q=>?_,λx d q=>?_,λy hy q=>?_⟩
   ·have ec:cellOf env n=pure c:=by unfold cellOf;rw [show env.cells.lookup n=some c from hc]
    rw [List.forIn_cons];simp only [hk,if_true,ec,pure_bind];exact e
   ·rcases h1 x d q with z | z
    ·rw [List.lookup_cons] at z;split at z
     ·rename_i e1;have e1':x=n:=by simpa using e1
      cases z;rw [e1'];exact .inr hc
     ·exact .inl z
    ·exact .inr z
   ·by_cases e1:(x == n)=true
    ·exact h2 x c (by rw [List.lookup_cons,e1])
    ·exact h2 x d (by rw [List.lookup_cons];simp only [Bool.not_eq_true] at e1;rw [e1];exact q)
   ·rcases List.mem_cons.mp hy with z | z
    ·subst z;exact h2 n c (by rw [List.lookup_cons];simp)
    ·exact h3 y z q
  ·obtain ⟨cl,e,h1,h2,h3⟩:=tM r acc hr;refine ⟨cl,?_,h1,h2,λy hy q=>?_⟩
   ·rw [List.forIn_cons];simp only [hk,if_false,pure_bind,Bool.false_eq_true];exact e
   ·rcases List.mem_cons.mp hy with z | z
    ·subst z;exact absurd (show (k == NameKind.free)=true by simpa using q) hk
    ·exact h3 y z q
theorem wO {scope:Scope}{env:Env}(h:∀y∈scope.names,y.2=.free->∃c,env.cells.lookup y.1=some c):
  ∃cl,closureFor scope env=pure cl/\(∀x c,cl.lookup x=some c->env.cells.lookup x=some c)/\∀y∈scope.names,y.2=.free->∃c,cl.lookup y.1=some c:=by
 obtain ⟨cl,e,h1,_,h3⟩:=tM scope.names [] h;refine ⟨cl,?_,λx c q=>(h1 x c q).elim (λz=>by simp at z) id,h3⟩;unfold closureFor;simp only [bind_pure];refine Eq.trans ?_ e;rfl
section
variable {X:Cx}{pins:Zl}{σ:St}{HE:Hp}{sE:Shared}{N':List Str}{scope sc:Scope}{cl:List (Str×Addr)}{fp:List Addr}{caps:List Str}
theorem V8 (I:Inv X pins σ HE sE)(S:CSc sc scope caps)(hfp:∀b∈fp,sy X pins HE b/\b<sE.heap.objs.size)
  (hc1:∀x c,cl.lookup x=some c->X.env.cells.lookup x=some c) (hc2:∀y∈scope.names,y.2=.free->∃c,cl.lookup y.1=some c):
  (cV X N' scope cl sE.heap.objs.size sE HE fp pins).Ok where
 mod:=I.ok.mod
 kind:=S.kind
 glob:=I.ok.glob
 blt:=I.ok.blt
 above:=Nat.le_refl _
 inj:=λx y c h1 h2=>I.ok.inj x y c (hc1 x c h1) (hc1 y c h2)
 has:=λx h=>hc2 (x,.free) (mem_of_lookup (zx S.nocell h)) rfl
 cab:=λx c h=>nomatch h
 hd:=I.ok.hd
 frames:=I.ok.frames
 stk:=.inl rfl
 exf:=λb hb=>⟨Nat.ne_of_lt (hfp b hb).2,λx c h=>(hfp b hb).1.2.2.2.2.1 x c (hc1 x c h)⟩
 bs:=I.bs
 bsz:=Nat.le_trans I.ok.bsz I.sz
 noex:=λb o e hb=>by
  rcases (hfp b hb).1.2.2.2.1 with z | z
  ·exact I.ok.noex b o e z
  ·exact absurd (Nat.lt_of_lt_of_le (Heap.lt_size e) (Nat.le_trans I.ok.bsz z)) (Nat.lt_irrefl _)
 exfs:=λb hb hz=>by
  rcases List.mem_cons.mp (I.Ea b hz) with z | z
  ·exact (hfp b hb).1.2.1 z
  ·exact (hfp b hb).1.2.2.1 z
 yL:=I.stack
 frf:=I.Kf
theorem Sg {k:Nat}{cap:List Nat}{h':Heap}(I:Inv X pins σ HE sE)(S:CSc sc scope caps)(hsc:X.env.scope=sc)(hfp:∀b∈fp,sy X pins HE b/\b<sE.heap.objs.size)
  (hc1:∀x c,cl.lookup x=some c->X.env.cells.lookup x=some c) (hc2:∀y∈scope.names,y.2=.free->∃c,cl.lookup y.1=some c)
  (hN:N'.drop k=caps) (hk:k<=N'.length) (hcap:Paired (λj x=>X.N[j]? = some x) cap caps) {m:Zp}
  (kp:∀b o,sE.heap.get? b=some o->h'.get? b=some o) (hns:h'.Ns sE.heap.objs.size m) (tk:Nat):
  Inv (cV X N' scope cl sE.heap.objs.size sE HE fp pins) [] (List.replicate k none++cap.map λj=>(σ[j]?).join) HE { sE with heap:=h',toks:=tk } where
 ok:=V8 I S hfp hc1 hc2
 os:=rfl
 bare:=I.bare
 base:=Un.kept kp
 loc:=by
  refine ⟨m,hns,λi x v e1 e2 e3=>?_⟩;have hik:k<=i:=by
   by_cases z:k<=i
   ·exact z
   ·rw [List.getElem?_append_left (by simp;omega),List.getElem?_replicate] at e2;rw [if_pos (by omega)] at e2;cases e2
  obtain ⟨j',rfl⟩:∃j',i=k+j':=⟨i-k,by omega⟩;rw [List.getElem?_append_right (by simp),List.length_replicate,Nat.add_sub_cancel_left,List.getElem?_map] at e2;have hx:caps[j']? = some x:=by rw [← hN,List.getElem?_drop];exact e1
  have:∀{l:List Nat} {l':List Str} {i:Nat},Paired (λj x=>X.N[j]? = some x) l l'->l'[i]? = some x->∃j,l[i]? = some j/\X.N[j]? = some x:=by
   intro l l' i p;induction p generalizing i with
   |nil=>intro z;simp at z
   |cons a _ ih=>
    intro z;cases i with
    |zero=>simp at z;subst z;exact ⟨_,rfl,a⟩
    |succ i=>exact ih (by simpa using z)
  obtain ⟨j,hj,hNj⟩:=this hcap hx;rw [hj] at e2;have e2':σ[j]? = some (some v):=by
   cases q:σ[j]? with
   |none=>rw [Option.map_some,q] at e2;cases e2
   |some o=>
    rw [Option.map_some,q] at e2
    have:o=some v:=Option.some.inj e2
    rw [this]
  obtain ⟨hxf,hxo⟩:=S.caps x (List.mem_of_getElem? hx);rw [← hsc] at hxo;obtain ⟨m0,_,hl⟩:=I.loc;obtain ⟨u,r,L⟩:=hl j x v hNj e2' (hxo.elim (λz=>.inr (.inl z)) λz=>.inr (.inr z));refine ⟨u,r,.inr ⟨vz hxf,?_⟩⟩;rcases L with ⟨z,_⟩ | ⟨_,c,hc,hcell⟩
  ·have z':X.env.scope.names.lookup x=some .local:=z;rcases hxo with q | q<;>rw [z'] at q<;>cases q
  ·obtain ⟨c',hc'⟩:=hc2 (x,.free) (mem_of_lookup hxf) rfl;have e:=hc1 x c' hc';rw [hc] at e;cases e;obtain ⟨o,ho,hd⟩:=hcell;exact ⟨c,hc',o,kp c o ho,hd⟩
 cell:=λx c e=>by
  obtain ⟨v,o,ho,hd⟩:=I.cell x c (hc1 x c e);exact ⟨v,o,kp c o ho,hd⟩
 free:=I.hok.fresh (Nat.le_refl _)
 freeC:=λx c e=>I.freeC x c (hc1 x c e)
 pin:=λp hp=>by
  rw [List.append_nil] at hp;obtain ⟨e,n,ne,nf,d⟩:=I.pin p hp;refine ⟨kp _ _ e,n,Nat.ne_of_lt (Heap.lt_size e),λz=>?_,d⟩;rcases List.mem_cons.mp (I.Ea p.1 z) with q | q
  ·exact ne q
  ·exact nf q
 hok:=I.hok.kept kp
 len:=by
  show (List.replicate k none++cap.map λj=>(σ[j]?).join).length=N'.length
  have:=hcap.length
  rw [← hN,List.length_drop] at this
  simp
  omega
theorem comp_back {σ':St}{H':Hp}{s':Shared}{p':Zl}(I:Inv X pins σ HE sE)(hfp:∀b∈fp,sy X pins HE b/\b<sE.heap.objs.size)
  (I':Inv (cV X N' scope cl sE.heap.objs.size sE HE fp pins) p' σ' H' s'):Inv X pins σ H' s':=
 I.call' (ch:=fp) I'.os I'.base I'.hok I'.bare λb hb=>⟨(hfp b hb).1.2.2.2.1,(hfp b hb).1.2.1,(hfp b hb).1.2.2.2.2.1,(hfp b hb).1.2.2.2.2.2⟩
end
theorem Ge {X:Cx}{pins:Zl}{σ σ':St}{HE H':Hp}{sE s':Shared}{h':Heap}(I:Inv X pins σ HE sE)(I':Inv X pins σ' H' s')(hn:H' sE.heap.objs.size=none)
  (hs:Heap.SameBut sE.heap.objs.size s'.heap h'):Inv X pins σ' H' { s' with heap:=h' }:=by
 refine I'.turned (t':=s'.toks) (λb o hb e=>(hs.2 b hb).trans e) hn (Nat.ne_of_gt I.lt) (.inr I.sz) (λx c e z=>?_) (λp hp z=>?_)
 ·obtain ⟨v,q⟩:=I.cell x c e;exact absurd q.lt (by rw [z];exact Nat.lt_irrefl _)
 ·exact absurd (Heap.lt_size (I.pin p hp).1) (by rw [z];exact Nat.lt_irrefl _)
def M4 (X:Cx)(ifs:List Expr)(t:TT):Prop:=
 ∀(pins:Zl) (s:Shared) (σ:St) (H:Hp) (Q:Bool->Hp->Prop),Inv X pins σ H s->t σ H Q->
  wpAny (model X.prog X.w) X.A (forIn ifs true λc r=>if r=true then do let ok ← isTrue c X.env (eval c X.env);pure (ForInStep.yield ok) else pure (ForInStep.yield r)) (TP X pins σ Q) X.xe s
def abv:TT:=λ_ H Q=>Q true H
theorem V2 {X:Cx}:M4 X [] abv:=λ_ _ _ H _ I q=>wpAny_tests_nil ⟨H,I,q⟩
theorem VD {X:Cx}{c:Expr}{t:TT}(h:PT X c t):M4 X [c] t:=λpins s σ H Q I q=>wpAny_tests_one (h pins s σ H Q I q)
def cSt (k:Nat)(cap:List Nat)(σ:St):St:=List.replicate k none++cap.map λj=>(σ[j]?).join
def Z6 (J:It)(k:Nat)(cap:List Nat)(g:TG)(tt:TT)(te:TE)(σ:St)(H1:Hp)(l:Addr)(Q:VK):Prop:=
 ∃W:Nat->Nat->List V->Hp->Prop,(∃m,W 0 m [] (upd H1 l (.lst [])))/\∀i m ys H,W i m ys H->
  (J.stop i H/\Q (.ref l) H)\/(J.go i H/\∀x H',J.yld i H x H'->g x (cSt k cap σ) H' λσ2 H3=>σ2.drop k=(cSt k cap σ).drop k/\tt σ2 H3 λb H4=>
   if b=true then te σ2 H4 λy H5=>H5 l=some (.lst ys)/\ys.length<sizeLine/\∃m',m'<m/\W (i+1) m' (ys++[y]) (upd H5 l (.lst (ys++[y])))
   else ∃m',m'<m/\W (i+1) m' ys H4)
def KN (k:Nat)(cap:List Nat)(wi:TI)(g:TG)(tt:TT)(te:TE):TE:=λσ H Q=>wi σ H λJ H1=>∀l,H1 l=none->Z6 J k cap g tt te σ H1 l Q
section
variable {X:Cx}{tg iter elt:Expr}{ifs:List Expr}{sc scope:Scope}{caps N':List Str}{cap:List Nat}{k:Nat}{wi:TI}{g:TG}{tt:TT}{te:TE}{pos:Pos}
theorem GD {pins:Zl}{s:Shared}{σ:St}{H:Hp}{Q:VK}(hcalm:X.calm=true)(S:CSc sc scope caps)(hsc:X.env.scope=sc)(hN:N'.drop k=caps)(hk:k<=N'.length)(hcap:Paired (λj x=>X.N[j]? = some x) cap caps)
  (hi:PI X tg iter wi) (hg:∀cl C sE HE fp pins,PG (cV X N' scope cl C sE HE fp pins) tg g) (ht:∀cl C sE HE fp pins,M4 (cV X N' scope cl C sE HE fp pins) ifs tt) (he:∀cl C sE HE fp pins,PE (cV X N' scope cl C sE HE fp pins) elt te)
  (I:Inv X pins σ H s) (h:KN k cap wi g tt te σ H Q) {cl:List (Str×Addr)} (hc1:∀x c,cl.lookup x=some c->X.env.cells.lookup x=some c) (hc2:∀y∈scope.names,y.2=.free->∃c,cl.lookup y.1=some c)
  {RR:Value->Addr->Result->Shared->Prop}
  (hRR:∀l sE HE H' s' m,Inv X pins σ HE sE->Inv X pins σ H' s'->H' sE.heap.objs.size=none->s'.heap.Ns sE.heap.objs.size m->Q (.ref l) H'->RR (.ref l) sE.heap.objs.size (.ok .next) s'):
  wpAny (model X.prog X.w) X.A (eval iter X.env) (λxv s₁=>wpAny (model X.prog X.w) X.A (pyIter xv) (λit s₂=>wpAny (model X.prog X.w) X.A (newList []) (λacc s₃=>
   wpAny (model X.prog X.w) X.A (newFunctionEnv scope X.env.globals cl [] X.env.qual none .none (some X.env)) (λcenv s₄=>
    codeAny (model X.prog X.w) X.A (.compStart (.ListComp elt [⟨tg,iter,ifs,0⟩] scope pos) 0 it acc { cenv with scope:=relabel scope X.env }) (RR acc cenv.locals) s₄) X.xe s₃) X.xe s₂) X.xe s₁) X.xe s:=by
 refine thn (hi pins s σ H _ I h) λv s1 h1=>thn h1 λitv s2 h2=>?_;obtain ⟨it,fp,tn,J,H1,e,I1,T,st1,f1,q1⟩:=h2;subst e;refine wpAny_newList ?_;have hfree:H1 s2.heap.objs.size=none:=I1.hok.fresh (Nat.le_refl _);have fpl:∀b∈fp,b<s2.heap.objs.size:=λb hb=>by
  obtain ⟨o,e,_⟩:=T.obj _ _ st1 b hb;exact Heap.lt_size e
 generalize hE:({ s2 with heap:=s2.heap.push { cls:=.type "list",data:=.seq ([]:List Value).toArray } }:Shared)=sE;have k2:∀b o,s2.heap.get? b=some o->sE.heap.get? b=some o:=λb o e=>by rw [← hE];exact Heap.get?_push_of_some _ e
 have szE:s2.heap.objs.size<sE.heap.objs.size:=by rw [← hE];show _<(s2.heap.push _).objs.size;rw [Heap.size_push];exact Nat.lt_succ_self _
 have IE:Inv X pins σ (upd H1 s2.heap.objs.size (.lst [])) sE:=by
  rw [← hE];refine I1.laid (t':=s2.toks) (λb o e=>Heap.get?_push_of_some _ e) (Nat.le_refl _) ?_;exact ⟨Nat.zero_le _,[],0,.nil,Heap.get?_push_size _ rfl⟩
 have fE:∀b∈fp,sy X pins (upd H1 s2.heap.objs.size (.lst [])) b/\b<sE.heap.objs.size:=λb hb=>
  ⟨⟨by rw [bc (Nat.ne_of_lt (fpl b hb))];exact (f1 b hb).1,(f1 b hb).2⟩,Nat.lt_trans (fpl b hb) szE⟩
 obtain ⟨W,⟨m0,w0⟩,turn⟩:=q1 _ hfree;generalize hl:s2.heap.objs.size=l at *;clear hl;generalize hHE:upd H1 l (.lst [])=HE at *;refine wpAny_newFunctionEnv S.nocell (by intro y hy;simp at hy) (λh₁ hns₁ hsb₁=>?_) S.kind;have kE:∀b o,sE.heap.get? b=some o->h₁.get? b=some o:=λb o e=>(hsb₁.2 b (Nat.ne_of_lt (Heap.lt_size e))).trans (Heap.get?_push_of_some _ e);have I0:=Sg (k:=k) (cap:=cap) (N':=N') IE S hsc fE hc1 hc2 hN hk hcap kE hns₁ (sE.toks+([]:List (Str×Value)).length);have st0:tn 0 h₁:=T.keep _ _ _ st1 λb hb o e=>kE b o (k2 b o e);have hX:∀{H':Hp},(∀b∈fp,H' b=none)->∀b∈fp,sy (cV X N' scope cl sE.heap.objs.size sE HE fp pins) [] H' b:=λhn b hb=>
  ⟨hn b hb,(I0.ok.exf b hb).1,I0.ok.exfs b hb,.inl hb,(I0.ok.exf b hb).2,λp hp=>by
   rw [List.append_nil] at hp;exact (fE b hb).1.2.2.2.2.2 p hp⟩
 have loop:∀s₃:Shared,s₃={ sE with heap:=h₁,toks:=sE.toks+([]:List (Str×Value)).length }->
   codeAny (model X.prog X.w) X.A (.compLoop (.ListComp elt [⟨tg,iter,ifs,0⟩] scope pos) 0 (.ref it) (.ref l) (compEnvC scope cl sE.heap.objs.size X.env)) (RR (.ref l) sE.heap.objs.size) s₃:=by
  rintro s₃ rfl;refine codeAny_loop rfl (λn s'=>∃i ys H',Inv (cV X N' scope cl sE.heap.objs.size sE HE fp pins) [] (cSt k cap σ) H' s'/\tn i s'.heap/\(∀b∈fp,H' b=none)/\W i n ys H') (λn s3 hI=>?_) m0
   ⟨0,[],HE,I0,st0,λb hb=>(fE b hb).1.1,w0⟩
  obtain ⟨i,ys,H3,I3,st3,fr3,w3⟩:=hI;show wpAny _ X.A ((compTurn (.ListComp elt [⟨tg,iter,ifs,0⟩] scope pos) 0 (.ref it) (.ref l) (compEnvC scope cl sE.heap.objs.size X.env)).onRaise (λx=>do noteFrame x (compEnvC scope cl sE.heap.objs.size X.env);theTreesLotGoes x)) _ _ s3;refine wpAny_noted ?_;rw [compTurn_list];refine wpAny_bind (wpAny_standAt (wpAny_bind ?_));rcases turn i n ys H3 w3 with ⟨stop,qn⟩ | ⟨go,step⟩
  ·refine wpAny_mono (T.done (cV X N' scope cl sE.heap.objs.size sE HE fp pins) rfl rfl rfl hcalm i [] s3 _ H3 (λ_ _=>False) I3 (hX fr3) st3 stop) (λr s4 ⟨hr,I4⟩=>?_) λ_ _ z=>z.elim;subst hr;obtain ⟨m4,hn4,_⟩:=I4.loc;exact wpAny_pure (hRR l sE HE H3 s4 m4 IE (comp_back IE fE I4) I4.free hn4 qn)
  ·refine wpAny_mono (T.item (cV X N' scope cl sE.heap.objs.size sE HE fp pins) rfl rfl rfl hcalm i [] s3 _ H3 (λ_ _=>False) I3 (hX fr3) st3 go) (λr s4 ⟨u,hr,h4⟩=>?_) λ_ _ z=>z.elim;subst hr;refine wpAny_bind (wpAny_mono h4 (λ_ s5 ⟨x,H5,I5,r5,y5,st5,fr5⟩=>?_) λ_ _ z=>z.elim);have I5':=I5.pinned (hX fr5) (T.obj _ _ st5);refine wpAny_bind (wpAny_mono (hg _ _ _ _ _ _ _ s5 _ H5 x u _ I5' r5 (step x H5 y5)) (λ_ s6 ⟨σ6,H6,I6,q6⟩=>?_) λ_ _ z=>z.elim);obtain ⟨d6,q6⟩:=q6;have weak:∀{H7 s7},Inv (cV X N' scope cl sE.heap.objs.size sE HE fp pins) ([]++uo fp s5.heap) σ6 H7 s7->Inv (cV X N' scope cl sE.heap.objs.size sE HE fp pins) ([]++uo fp s5.heap) (cSt k cap σ) H7 s7:=λ{H7 s7} I7=>by
    refine I7.weak (I0.len.trans I7.len.symm) λj v e=>?_;by_cases z:k<=j
    ·obtain ⟨j',rfl⟩:∃j',j=k+j':=⟨j-k,by omega⟩;rw [← List.getElem?_drop] at e ⊢;rw [d6];exact e
    ·unfold cSt at e;rw [List.getElem?_append_left (by simp;omega),List.getElem?_replicate,if_pos (by omega)] at e;cases e
   have again:∀{H7:Hp} {s7:Shared} {zs:List V},Inv (cV X N' scope cl sE.heap.objs.size sE HE fp pins) ([]++uo fp s5.heap) σ6 H7 s7->(∃m',m'<n/\W (i+1) m' zs H7)->
     ∃m,m<n/\∃i ys H',Inv (cV X N' scope cl sE.heap.objs.size sE HE fp pins) [] (cSt k cap σ) H' s7/\tn i s7.heap/\(∀b∈fp,H' b=none)/\W i m ys H':=λ{H7 s7 zs} I7 ⟨m',hm,w7⟩=>by
    refine ⟨m',hm,i+1,zs,H7,(weak I7).uN,T.keep _ _ _ st5 λb hb o e=>(I7.pin (b,o) (List.mem_append_right _ (List.mem_append_right _ (p6 hb e)))).1,λb hb=>?_,w7⟩;obtain ⟨o,e,d⟩:=T.obj _ _ st5 b hb;exact (I7.pin (b,o) (List.mem_append_right _ (List.mem_append_right _ (p6 hb e)))).2.1
   refine wpAny_bind (wpAny_mono (ht _ _ _ _ _ _ _ s6 σ6 H6 _ I6 q6) (λb s7 ⟨H7,I7,q7⟩=>?_) λ_ _ z=>z.elim);cases b with
   |false=>
    rw [if_neg Bool.false_ne_true] at q7;exact wpAny_pure ⟨rfl,again I7 q7⟩
   |true=>
    rw [if_pos rfl] at q7;refine wpAny_bind (wpAny_bind (wpAny_mono (he _ _ _ _ _ _ _ s7 σ6 H7 _ I7 q7) (λyv s8 ⟨y,H8,I8,r8,hl8,hz8,q8⟩=>?_) λ_ _ z=>z.elim));refine wpAny_bind (wpAny_mono (Be (X:=cV X N' scope cl sE.heap.objs.size sE HE fp pins) _ s8 σ6 H8 (.ref l) [y] (.ref l) [yv] (λ_ H9=>H9=upd H8 l (.lst (ys++[y]))) I8 rfl (.cons r8 .nil) ⟨l,ys,y,rfl,rfl,hl8,hz8,rfl⟩)
     (λ_ s9 ⟨_,H9,I9,_,e9⟩=>?_) λ_ _ z=>z.elim)
    subst e9;exact wpAny_pure (wpAny_pure ⟨rfl,again I9 q8⟩)
 exact codeAny_compStart_list (loop _ rfl) (T.self _ 0 _ _ _ st0 (loop _ rfl))
theorem Vq (sc:Scope)(N' caps:List Str)(k:Nat)(cap:List Nat)(hcalm:X.calm=true)(S:CSc sc scope caps)(hcap:Paired (λj x=>X.N[j]? = some x) cap caps)
  (hi:PI X tg iter wi) (hg:∀cl C sE HE fp pins,PG (cV X N' scope cl C sE HE fp pins) tg g) (ht:∀cl C sE HE fp pins,M4 (cV X N' scope cl C sE HE fp pins) ifs tt) (he:∀cl C sE HE fp pins,PE (cV X N' scope cl C sE HE fp pins) elt te)
  (hsc:X.env.scope=sc:=by rfl) (hN:N'.drop k=caps:=by rfl) (hk:k<=N'.length:=by decide) (hs:∀x,foldedSetIterable iter X.env x=pure x:=by intro _;rfl):
  PE X (.ListComp elt [⟨tg,iter,ifs,0⟩] scope pos) (KN k cap wi g tt te):=by
 intro pins s σ H Q I h;obtain ⟨cl,hcl,hc1,hc2⟩:=wO (scope:=scope) (env:=X.env) λy hy e=>I.ok.has y.1 (by
  have z:=S.free y hy e;rw [← hsc] at z;exact z)
 rw [eval_ListComp];refine wpAny_comprehension_free (use:=none) rfl hs hcl S.kind S.loc (GD (RR:=λacc C=>compPost (model X.prog X.w) X.A X.xe none (EP X pins σ Q) acc C) hcalm S hsc hN hk hcap hi hg ht he I h hc1 hc2 ?_);intro l sE HE H' s' m IE I' hn hns q;exact ⟨m,hns,λh' hs'=>⟨.ref l,H',Ge IE I' hn hs',rfl,q⟩⟩
theorem Ip {i:Nat}{y:Str}{py spos:Pos}(sc:Scope)(N' caps:List Str)(k:Nat)(cap:List Nat)(hnd:X.N.Nodup)(hi':X.N[i]? = some y)(hy:Loc X.env.scope y)(hcalm:X.calm=true)(S:CSc sc scope caps)(hcap:Paired (λj x=>X.N[j]? = some x) cap caps)
  (hi:PI X tg iter wi) (hg:∀cl C sE HE fp pins,PG (cV X N' scope cl C sE HE fp pins) tg g) (ht:∀cl C sE HE fp pins,M4 (cV X N' scope cl C sE HE fp pins) ifs tt) (he:∀cl C sE HE fp pins,PE (cV X N' scope cl C sE HE fp pins) elt te)
  (hsw:swapsWith (.ListComp elt [⟨tg,iter,ifs,0⟩] scope pos) (some (.Name y py)) spos.line X.env=pure true:=by rfl)
  (hsc:X.env.scope=sc:=by rfl) (hN:N'.drop k=caps:=by rfl) (hk:k<=N'.length:=by decide) (hs:∀x,foldedSetIterable iter X.env x=pure x:=by intro _;rfl)
  (hf:X.fn y=true\/X.env.scope.names.lookup y=some .local:=by first | exact .inl rfl | exact .inr rfl | assumption):
  PS X (.Assign [.Name y py] (.ListComp elt [⟨tg,iter,ifs,0⟩] scope pos) spos) (Tv (KN k cap wi g tt te) (Ae i)):=by
 intro pins s σ H D I h;obtain ⟨cl,hcl,hc1,hc2⟩:=wO (scope:=scope) (env:=X.env) λy hy e=>I.ok.has y.1 (by
  have z:=S.free y hy e;rw [← hsc] at z;exact z)
 rw [exec_Assign_Name_used _ _ _ _ hsw];refine wpAny_bind (wpAny_standAt (wpAny_bind ?_));show wpAny _ X.A (do let _ ← comprehension (.ListComp elt [⟨tg,iter,ifs,0⟩] scope pos) scope X.env _ (newList []) false (eval iter X.env) (some (assign (.Name y py) X.env))) _ _ s;refine wpAny_bind (wpAny_mono (wpAny_comprehension_free (use:=some (assign (.Name y py) X.env)) (Q:=λ_ s'=>SP X pins D .next s') rfl hs hcl S.kind S.loc
  (GD (RR:=λacc C=>compPost (model X.prog X.w) X.A X.xe (some (assign (.Name y py) X.env)) (λ_ s'=>SP X pins D .next s') acc C) hcalm S hsc hN hk hcap hi hg ht he I h hc1 hc2 ?_)) (λ_ s' hq=>wpAny_pure (wpAny_pure hq)) λ_ _ e=>e)
 intro l sE HE H' s' m IE I' hn hns q;show wpAny _ X.A (assign (.Name y py) X.env (.ref l)) _ _ _;refine wpAny_assign_Name (Bl I' hnd hi' hy (v:=.ref l) rfl (λs2 I2 hb=>?_) hf);obtain ⟨a,hsb,ha⟩:=hb;have hne:sE.heap.objs.size≠a:=λz=>by
  rcases ha with e | e
  ·exact absurd IE.lt (by rw [← e,← z];exact Nat.lt_irrefl _)
  ·obtain ⟨v,q⟩:=IE.cell y a e;exact absurd q.lt (by rw [z];exact Nat.lt_irrefl _)
 exact ⟨m,hns.sameBut hsb hne,λh' hs'=>⟨_,H',Ge IE I2 hn hs',q⟩⟩
end
inductive TyK (K:W.Frag)(H:Hp):V->Value->Prop where
 |of {v:V} {t:Value}:vL K H v t->TyK K H v t
 |tup {a:Addr} {xs:List V}:SqT K H a xs->TyK K H (.ref a) (.type "tuple")
 |lst {a:Addr} {xs:List V}:SqL K H a xs->TyK K H (.ref a) (.type "list")
section
variable {X:Cx}
def ZF (K:W.Frag):List V->Hp->VK->Prop:=λxs H Q=>∃x c t cv b,xs=[x,c]/\ZZ c=some cv/\TyK K H x t/\W.kitOne K t cv=some b/\Q (.bl b) H
theorem NZ:gG X (.builtin "isinstance") (ZF X.K):=by
 intro pins s σ H xs us Q I r h;obtain ⟨x,c,t,cv,b,rfl,rc,ty,e,q⟩:=h;obtain ⟨u,w',rfl,ru,rw'⟩:=vals2 r;have z:=S8 rc rw';subst z;cases ty with
 |of ty=>exact Nx I ru ty e λtk=>⟨.bl b,H,I.tok _,rfl,q⟩
 | @tup a xs hs=>
  cases (show u=Value.ref a from ru);obtain ⟨its,_,⟨o,h1,h2,_⟩,_⟩:=I.tuple hs;exact W.kia_one W.kitx_tuple I.kIn ⟨o,h1,h2⟩ e (λz=>nomatch z) λtk=>⟨.bl b,H,I.tok _,rfl,q⟩
 | @lst a xs hs=>
  cases (show u=Value.ref a from ru);obtain ⟨its,_,⟨o,n,h1,h2,_⟩,_⟩:=I.list hs;exact W.kia_one W.kitx_list I.kIn ⟨o,h1,h2⟩ e (λz=>nomatch z) λtk=>⟨.bl b,H,I.tok _,rfl,q⟩
end
theorem Rd.mono {H H':Hp}{a:Addr}{u:HO}(h:Rd H a u)(g:aL H H'):Rd H' a u:=h.elim (λe=>.inl (g _ _ e)) λ⟨o,e⟩=>.inr ⟨o,g _ _ e⟩
theorem Gj {K:W.Frag}{H H':Hp}{a:Addr}{xs:List V}(h:SqL K H a xs)(g:aL H H'):SqL K H' a xs:=h.elim (λe=>.inl (Rd.mono e g)) .inr
def SameBut (l:Addr)(H H':Hp):Prop:=∀b u,b≠l->H b=some u->H' b=some u
theorem Zt {l:Addr}{H H':Hp}(g:aL H H'):SameBut l H H':=λb u _ e=>g b u e
theorem Xj {l:Addr}{H:Hp}{o:HO}:SameBut l H (upd H l o):=λb u n e=>by rw [bc n];exact e
theorem SameBut.trans {l:Addr}{H H1 H2:Hp}(a:SameBut l H H1)(b:SameBut l H1 H2):SameBut l H H2:=λc u n e=>b c u n (a c u n e)
theorem Ve {l:Addr}{H H':Hp}(g:SameBut l H H')(n:H l=none):aL H H':=λb u e=>g b u (λz=>by rw [z,n] at e;cases e) e
section
variable {k:Nat}{cap:List Nat}{g:TG}{te:TE}{σ:St}{H1:Hp}{Q:VK}{l:Addr}
end
section
variable {X:Cx}{tg:Expr}
end
section
variable {X:Cx}
def rJoin (K:W.Frag):V->List V->Hp->VK->Prop:=λx vs H Q=>∃z l zs,x=.str z/\vs=[.ref l]/\SqL K H l (zs.map V.str)/\JoinOk z zs=true/\Q (.str (Txt.join z zs)) H
theorem Fy:∀{zs:List Str} {us:List Value},Vals (zs.map V.str) us->∃l:List (Str×Tok),us=strValues l/\l.map (·.1)=zs
 |[],_,.nil=>⟨[],rfl,rfl⟩
 |z::zs,_,.cons r t=>by
  obtain ⟨tk,rfl⟩:=r;obtain ⟨l,rfl,e⟩:=Fy t;exact ⟨(z,tk)::l,rfl,by rw [List.map_cons,e]⟩
theorem Uy (K:W.Frag)(hK:X.K=K:=by rfl):MtM X "str.join" (rJoin K):=by
 subst hK;intro pins s σ H x vs v us Q I rx rv h;obtain ⟨z,l,zs,rfl,rfl,hL,ok,q⟩:=h;obtain ⟨t,rfl⟩:=rx;obtain ⟨u,rfl,ru⟩:=rv.one;cases ru;obtain ⟨its,r,hp,_⟩:=I.list hL;obtain ⟨ls,rfl,e⟩:=Fy r;exact SC.join hp.isList e ok λt' k=>⟨.str _,H,I.tok _,⟨t',rfl⟩,q⟩
end
end Hd
namespace F
open PySem PySem.Spec PyProof.Rows L2 Hd
inductive D where
 |non | bl (b:Bool) | int (i:Int) | str (x:Str) | exc (c:Str)
 |tup (xs:List D) | lst (xs:List D)
 |dct (ks:List Key) (vs:List D) | dcu (ks:List (List Kt)) (vs:List D)
  |dcf (ks:List (List Kt)) (vs:List D)
  |adr (a:Addr)
  |ins (c:Str) (ns:List Str) (vs:List D)
inductive Res (α:Type) where
 |ok (a:α) | exc (c:Str) | stuck
def Res.bind {α β:Type}(r:Res α)(f:α->Res β):Res β:=match r with
 | .ok a=>f a
 | .exc c=>.exc c
 | .stuck=>.stuck
@[simp] theorem Res.aaL {α β:Type}(a:α)(f:α->Res β):(Res.ok a).bind f=f a:=rfl
@[simp] theorem Res.Zo {α β:Type}(c:Str)(f:α->Res β):(Res.exc c:Res α).bind f=.exc c:=rfl
@[simp] theorem Res.Y5 {α β:Type}(f:α->Res β):(Res.stuck:Res α).bind f=.stuck:=rfl
def ofO {α:Type}:Option α->Res α
 |some a=>.ok a
 |none=>.stuck
@[simp] theorem ZJ {α:Type}(a:α):ofO (some a)=.ok a:=rfl
@[simp] theorem Z9 {α:Type}:ofO (none:Option α)=.stuck:=rfl
structure Gx where
 K:W.Frag
 mg:Zp
abbrev gx (X:Cx):Gx:=⟨X.K,X.mg⟩
def abm (K:W.Frag)(a:Addr)(xs:List V):Prop:=
 ∃(o:Obj) (its:Array Value) (n:Nat),K.lookup a=some o/\o.cls=.type "list"/\o.dict=none/\o.data=.seq its n/\its.size<=sizeLine/\Vals xs its.toList
def LstAt (K:W.Frag)(O:Zaa)(H:Hp)(a:Addr)(xs:List V):Prop:=(¬O a/\Rd H a (.lst xs))\/abm K a xs
mutual
inductive DV (G:Gx)(O:Zaa)(H:Hp):V->D->Prop where
 |non:DV G O H .non .non
 |bl (b:Bool):DV G O H (.bl b) (.bl b)
 |int (i:Int):DV G O H (.int i) (.int i)
 |str (x:Str):DV G O H (.str x) (.str x)
 |adr (a:Addr):DV G O H (.ref a) (.adr a)
 |ins {a C dx:Addr} {c:Str} {kvs:List (Str×V)} {ns:List Str} {vs:List V} {ds:List D}:¬O a->G.mg c=some (.ref C)->H a=some (.ins C dx kvs)->kvs.map (·.1)=ns->kvs.map (·.2)=vs->DVs G O H vs ds->DV G O H (.ref a) (.ins c ns ds)
 |exc {a C:Addr} {c:Str}:G.mg c=some (.ref C)->H a=some (.ext (Zr a (.ref C)))->DV G O H (.ref a) (.exc c)
 |tup {a:Addr} {xs:List V} {ds:List D}:SqU G.K H a xs->DVs G O H xs ds->DV G O H (.ref a) (.tup ds)
 |lst {a:Addr} {xs:List V} {ds:List D}:LstAt G.K O H a xs->DVs G O H xs ds->DV G O H (.ref a) (.lst ds)
 |dct {a:Addr} {kvs:List (Key×V)} {ks:List Key} {vs:List V} {ds:List D}:¬O a->Rd H a (.dK kvs)->kvs.map (·.1)=ks->kvs.map (·.2)=vs->DVs G O H vs ds->DV G O H (.ref a) (.dct ks ds)
 |dcu {a:Addr} {kvs:List (List Kt×V)} {ks:List (List Kt)} {vs:List V} {ds:List D}:¬O a->H a=some (.dT (KTp G.K) kvs)->kvs.map (·.1)=ks->kvs.map (·.2)=vs->DVs G O H vs ds->DV G O H (.ref a) (.dcu ks ds)
 |dcf {a:Addr} {o:Obj} {kvs:List (List Kt×V)} {ks:List (List Kt)} {vs:List V} {ds:List D}:H a=some (.frz o (.dT (KTp G.K) kvs))->kvs.map (·.1)=ks->kvs.map (·.2)=vs->DVs G O H vs ds->DV G O H (.ref a) (.dcf ks ds)
inductive DVs (G:Gx)(O:Zaa)(H:Hp):List V->List D->Prop where
 |nil:DVs G O H [] []
 |cons {v:V} {vs:List V} {d:D} {ds:List D}:DV G O H v d->DVs G O H vs ds->DVs G O H (v::vs) (d::ds)
end
def OV (G:Gx)(O:Zaa)(H:Hp)(a:Addr):D->Prop
 | .lst ds=>∃xs,H a=some (.lst xs)/\DVs G O H xs ds
 | .dct ks ds=>∃kvs vs,H a=some (.dK kvs)/\kvs.map (·.1)=ks/\kvs.map (·.2)=vs/\DVs G O H vs ds
 | .dcu ks ds=>∃kvs vs,H a=some (.dT (KTp G.K) kvs)/\kvs.map (·.1)=ks/\kvs.map (·.2)=vs/\DVs G O H vs ds
 | .ins c ns ds=>∃C dx kvs vs,G.mg c=some (.ref C)/\H a=some (.ins C dx kvs)/\kvs.map (·.1)=ns/\kvs.map (·.2)=vs/\DVs G O H vs ds
 |_=>False
def DW (G:Gx)(O:Zaa)(H:Hp)(v:V)(d:D):Prop:=DV G O H v d\/∃a,v=.ref a/\O a/\OV G O H a d
inductive DWs (G:Gx)(O:Zaa)(H:Hp):List V->List D->Prop where
 |nil:DWs G O H [] []
 |cons {v:V} {vs:List V} {d:D} {ds:List D}:DW G O H v d->DWs G O H vs ds->DWs G O H (v::vs) (d::ds)
def fH (o:Option HO):Prop:=(∃xs,o=some (.lst xs))\/(∃k,o=some (.dK k))\/(∃k:(Addr->List V->Prop)×List (List Kt×V),o=some (.dT k.1 k.2))\/∃k:Addr×Addr×List (Str×V),o=some (.ins k.1 k.2.1 k.2.2)
def Kp (O:Zaa)(H H':Hp):Prop:=∀b o,H b=some o->¬O b->H' b=some o
theorem Wg {O:Zaa}{H H':Hp}{a:Addr}{u:HO}(g:Kp O H H')(n:¬O a)(e:Rd H a u):Rd H' a u:=e.imp (λe=>g _ _ e n) λ⟨o,e⟩=>⟨o,g _ _ e n⟩
theorem ZV {H H':Hp}{a:Addr}{u:HO}(g:aL H H')(e:Rd H a u):Rd H' a u:=e.imp (g _ _) λ⟨o,e⟩=>⟨o,g _ _ e⟩
theorem Ra {H:Hp}{a:Addr}{u:HO}(e:Rd H a u)(z:H a=none):False:=by rcases e with e | ⟨_,e⟩<;>(rw [z] at e;cases e)
theorem Kp.of {O:Zaa}{H H':Hp}(g:aL H H'):Kp O H H':=λb o e _=>g b o e
theorem jR {O:Zaa}{H:Hp}(m:∀b,O b->fH (H b)){a:Addr}{o:HO}(e:H a=some o)(n:¬fH (some o)):¬O a:=λz=>n (e ▸ m a z)
theorem Ej {xs:List V}:¬fH (some (.tup xs)):=by rintro (⟨_,e⟩ | ⟨_,e⟩ | ⟨_,e⟩ | ⟨_,e⟩)<;>cases e
theorem vq {o:Obj}{u:HO}:¬fH (some (.frz o u)):=by rintro (⟨_,e⟩ | ⟨_,e⟩ | ⟨_,e⟩ | ⟨_,e⟩)<;>cases e
theorem Lb {φ:Heap->Prop}:¬fH (some (.ext φ)):=by rintro (⟨_,e⟩ | ⟨_,e⟩ | ⟨_,e⟩ | ⟨_,e⟩)<;>cases e
theorem X7 {K:W.Frag}{O:Zaa}{H H':Hp}{a:Addr}{xs:List V}(m:∀b,O b->fH (H b))(g:Kp O H H')(h:SqT K H a xs):SqT K H' a xs:=by
 rcases h with (e | ⟨o,e⟩) | h
 ·exact .inl (.inl (g a _ e (jR m e Ej)))
 ·exact .inl (.inr ⟨o,g a _ e (jR m e vq)⟩)
 ·exact .inr h
theorem Px {K:W.Frag}{O:Zaa}{H H':Hp}{a:Addr}{xs:List V}(m:∀b,O b->fH (H b))(g:Kp O H H')(h:SqU K H a xs):SqU K H' a xs:=by
 rcases h with e | h
 ·exact .inl (g a _ e (jR m e Ej))
 ·exact .inr h
theorem Ql {K:W.Frag}{H H':Hp}{a:Addr}{xs:List V}(h:SqU K H a xs)(g:aL H H'):SqU K H' a xs:=h.imp (g _ _) id
theorem qI {K:W.Frag}{O:Zaa}{H H':Hp}{a:Addr}{xs:List V}(g:Kp O H H')(h:LstAt K O H a xs):LstAt K O H' a xs:=by
 rcases h with ⟨n,e | ⟨o,e⟩⟩ | h
 ·exact .inl ⟨n,.inl (g a _ e n)⟩
 ·exact .inl ⟨n,.inr ⟨o,g a _ e n⟩⟩
 ·exact .inr h
theorem LstAt.sq {K:W.Frag}{O:Zaa}{H:Hp}{a:Addr}{xs:List V}(h:LstAt K O H a xs):SqL K H a xs:=h.elim (λz=>.inl z.2) .inr
section
variable {G:Gx}{O O':Zaa}{H H':Hp}
mutual
theorem DV.kp (m:∀b,O b->fH (H b))(g:Kp O H H'):∀{v:V} {d:D},DV G O H v d->DV G O H' v d
 |_,_,.non=>.non
 |_,_,.bl b=>.bl b
 |_,_,.int i=>.int i
 |_,_,.str x=>.str x
 |_,_,.adr a=>.adr a
 |_,_,.exc h e=>.exc h (g _ _ e (jR m e Lb))
 |_,_,.tup h hs=>.tup (Px m g h) (DVs.kp m g hs)
 |_,_,.lst h hs=>.lst (qI g h) (DVs.kp m g hs)
 |_,_,.dct n e a b hs=>.dct n (Wg g n e) a b (DVs.kp m g hs)
 |_,_,.dcu n e a b hs=>.dcu n (g _ _ e n) a b (DVs.kp m g hs)
 |_,_,.dcf e a b hs=>.dcf (g _ _ e (jR m e vq)) a b (DVs.kp m g hs)
 |_,_,.ins n c e a b hs=>.ins n c (g _ _ e n) a b (DVs.kp m g hs)
theorem DVs.kp (m:∀b,O b->fH (H b))(g:Kp O H H'):∀{vs:List V} {ds:List D},DVs G O H vs ds->DVs G O H' vs ds
 |_,_,.nil=>.nil
 |_,_,.cons h hs=>.cons (DV.kp m g h) (DVs.kp m g hs)
end
mutual
theorem DV.mono (g:aL H H'):∀{v:V} {d:D},DV G O H v d->DV G O H' v d
 |_,_,.non=>.non
 |_,_,.bl b=>.bl b
 |_,_,.int i=>.int i
 |_,_,.str x=>.str x
 |_,_,.adr a=>.adr a
 |_,_,.exc h e=>.exc h (g _ _ e)
 |_,_,.tup h hs=>.tup (Ql h g) (DVs.mono g hs)
 |_,_,.lst h hs=>.lst (qI (.of g) h) (DVs.mono g hs)
 |_,_,.dct n e a b hs=>.dct n (ZV g e) a b (DVs.mono g hs)
 |_,_,.dcu n e a b hs=>.dcu n (g _ _ e) a b (DVs.mono g hs)
 |_,_,.dcf e a b hs=>.dcf (g _ _ e) a b (DVs.mono g hs)
 |_,_,.ins n c e a b hs=>.ins n c (g _ _ e) a b (DVs.mono g hs)
theorem DVs.mono (g:aL H H'):∀{vs:List V} {ds:List D},DVs G O H vs ds->DVs G O H' vs ds
 |_,_,.nil=>.nil
 |_,_,.cons h hs=>.cons (DV.mono g h) (DVs.mono g hs)
end
mutual
theorem DV.cI (s:∀b,O' b->O b\/H b=none):∀{v:V} {d:D},DV G O H v d->DV G O' H v d
 |_,_,.non=>.non
 |_,_,.bl b=>.bl b
 |_,_,.int i=>.int i
 |_,_,.str x=>.str x
 |_,_,.adr a=>.adr a
 |_,_,.exc h e=>.exc h e
 |_,_,.tup h hs=>.tup h (DVs.cI s hs)
 |_,_,.lst h hs=>.lst (h.elim (λz=>.inl ⟨λo=>(s _ o).elim z.1 λn=>by rcases z.2 with e | ⟨_,e⟩<;>(rw [n] at e;cases e),z.2⟩) .inr) (DVs.cI s hs)
 |_,_,.dct n e a b hs=>.dct (λo=>(s _ o).elim n λz=>Ra e z) e a b (DVs.cI s hs)
 |_,_,.dcu n e a b hs=>.dcu (λo=>(s _ o).elim n λz=>by rw [z] at e;cases e) e a b (DVs.cI s hs)
 |_,_,.dcf e a b hs=>.dcf e a b (DVs.cI s hs)
 |_,_,.ins n c e a b hs=>.ins (λo=>(s _ o).elim n λz=>by rw [z] at e;cases e) c e a b (DVs.cI s hs)
theorem DVs.cI (s:∀b,O' b->O b\/H b=none):∀{vs:List V} {ds:List D},DVs G O H vs ds->DVs G O' H vs ds
 |_,_,.nil=>.nil
 |_,_,.cons h hs=>.cons (DV.cI s h) (DVs.cI s hs)
end
def Ev (O:Zaa)(H:Hp)(O':Zaa)(H':Hp):Prop:=(∀b,O' b->O b\/H b=none)/\Kp O H H'
mutual
theorem DV.go (m:∀b,O b->fH (H b))(g:Ev O H O' H'):∀{v:V} {d:D},DV G O H v d->DV G O' H' v d
 |_,_,.non=>.non
 |_,_,.bl b=>.bl b
 |_,_,.int i=>.int i
 |_,_,.str x=>.str x
 |_,_,.adr a=>.adr a
 |_,_,.exc h e=>.exc h (g.2 _ _ e (jR m e Lb))
 |_,_,.tup h hs=>.tup (Px m g.2 h) (DVs.go m g hs)
 |_,_,.lst h hs=>.lst (h.elim (λz=>.inl ⟨λo=>(g.1 _ o).elim z.1 λn=>by rcases z.2 with e | ⟨_,e⟩<;>(rw [n] at e;cases e),(qI g.2 (.inl z):LstAt G.K O H' _ _).elim (λy=>y.2) λy=>z.2.elim (λe=>.inl (g.2 _ _ e z.1)) λ⟨o,e⟩=>.inr ⟨o,g.2 _ _ e z.1⟩⟩) .inr) (DVs.go m g hs)
 |_,_,.dct n e a b hs=>.dct (λo=>(g.1 _ o).elim n λz=>Ra e z) (Wg g.2 n e) a b (DVs.go m g hs)
 |_,_,.dcu n e a b hs=>.dcu (λo=>(g.1 _ o).elim n λz=>by rw [z] at e;cases e) (g.2 _ _ e n) a b (DVs.go m g hs)
 |_,_,.dcf e a b hs=>.dcf (g.2 _ _ e (jR m e vq)) a b (DVs.go m g hs)
 |_,_,.ins n c e a b hs=>.ins (λo=>(g.1 _ o).elim n λz=>by rw [z] at e;cases e) c (g.2 _ _ e n) a b (DVs.go m g hs)
theorem DVs.go (m:∀b,O b->fH (H b))(g:Ev O H O' H'):∀{vs:List V} {ds:List D},DVs G O H vs ds->DVs G O' H' vs ds
 |_,_,.nil=>.nil
 |_,_,.cons h hs=>.cons (DV.go m g h) (DVs.go m g hs)
end
theorem OV.cI {a:Addr}{d:D}(s:∀b,O' b->O b\/H b=none)(h:OV G O H a d):OV G O' H a d:=by
 cases d with
 |lst ds=>obtain ⟨xs,e,hs⟩:=h;exact ⟨xs,e,hs.cI s⟩
 |dct ks ds=>obtain ⟨k,v,e,a1,a2,hs⟩:=h;exact ⟨k,v,e,a1,a2,hs.cI s⟩
 |dcu ks ds=>obtain ⟨k,v,e,a1,a2,hs⟩:=h;exact ⟨k,v,e,a1,a2,hs.cI s⟩
 |ins c ns ds=>obtain ⟨C,dx,k,v,ec,e,a1,a2,hs⟩:=h;exact ⟨C,dx,k,v,ec,e,a1,a2,hs.cI s⟩
 |_=>exact h.elim
theorem OV.mono {a:Addr}{d:D}(g:aL H H')(h:OV G O H a d):OV G O H' a d:=by
 cases d with
 |lst ds=>obtain ⟨xs,e,hs⟩:=h;exact ⟨xs,g _ _ e,hs.mono g⟩
 |dct ks ds=>obtain ⟨k,v,e,a1,a2,hs⟩:=h;exact ⟨k,v,g _ _ e,a1,a2,hs.mono g⟩
 |dcu ks ds=>obtain ⟨k,v,e,a1,a2,hs⟩:=h;exact ⟨k,v,g _ _ e,a1,a2,hs.mono g⟩
 |ins c ns ds=>obtain ⟨C,dx,k,v,ec,e,a1,a2,hs⟩:=h;exact ⟨C,dx,k,v,ec,g _ _ e,a1,a2,hs.mono g⟩
 |_=>exact h.elim
theorem OV.kp {a:Addr}{d:D}(m:∀b,O b->fH (H b))(g:Kp O H H')(e':H' a=H a)(h:OV G O H a d):OV G O H' a d:=by
 cases d with
 |lst ds=>obtain ⟨xs,e,hs⟩:=h;exact ⟨xs,e'.trans e,hs.kp m g⟩
 |dct ks ds=>obtain ⟨k,v,e,a1,a2,hs⟩:=h;exact ⟨k,v,e'.trans e,a1,a2,hs.kp m g⟩
 |dcu ks ds=>obtain ⟨k,v,e,a1,a2,hs⟩:=h;exact ⟨k,v,e'.trans e,a1,a2,hs.kp m g⟩
 |ins c ns ds=>obtain ⟨C,dx,k,v,ec,e,a1,a2,hs⟩:=h;exact ⟨C,dx,k,v,ec,e'.trans e,a1,a2,hs.kp m g⟩
 |_=>exact h.elim
theorem OV.mut {a:Addr}{d:D}(h:OV G O H a d):fH (H a):=by
 cases d with
 |lst ds=>obtain ⟨xs,e,hs⟩:=h;exact .inl ⟨xs,e⟩
 |dct ks ds=>obtain ⟨k,v,e,_⟩:=h;exact .inr (.inl ⟨k,e⟩)
 |dcu ks ds=>obtain ⟨k,v,e,_⟩:=h;exact .inr (.inr (.inl ⟨(_,k),e⟩))
 |ins c ns ds=>obtain ⟨C,dx,k,v,_,e,_⟩:=h;exact .inr (.inr (.inr ⟨(C,dx,k),e⟩))
 |_=>exact h.elim
theorem OV.dv {a:Addr}{d:D}(n:¬O a)(h:OV G O H a d):DV G O H (.ref a) d:=by
 cases d with
 |lst ds=>obtain ⟨xs,e,hs⟩:=h;exact .lst (.inl ⟨n,.inl e⟩) hs
 |dct ks ds=>obtain ⟨k,v,e,a1,a2,hs⟩:=h;exact .dct n (.inl e) a1 a2 hs
 |dcu ks ds=>obtain ⟨k,v,e,a1,a2,hs⟩:=h;exact .dcu n e a1 a2 hs
 |ins c ns ds=>obtain ⟨C,dx,k,v,ec,e,a1,a2,hs⟩:=h;exact .ins n ec e a1 a2 hs
 |_=>exact h.elim
theorem DW.mono {v:V}{d:D}(g:aL H H')(h:DW G O H v d):DW G O H' v d:=h.elim (λz=>.inl (z.mono g)) λ⟨a,e,o,z⟩=>.inr ⟨a,e,o,z.mono g⟩
theorem DWs.mono (g:aL H H'):∀{vs:List V} {ds:List D},DWs G O H vs ds->DWs G O H' vs ds
 |_,_,.nil=>.nil
 |_,_,.cons h hs=>.cons (h.mono g) (DWs.mono g hs)
theorem DW.any {v:V}{d:D}(h:DW G O H v d):DV G (λ_=>False) H v d:=by
 rcases h with h | ⟨a,e,_,h⟩
 ·exact h.cI λ_ z=>z.elim
 ·subst e;exact (h.cI (O':=λ_=>False) λ_ z=>z.elim).dv id
theorem DWs.any:∀{vs:List V} {ds:List D},DWs G O H vs ds->DVs G (λ_=>False) H vs ds
 |_,_,.nil=>.nil
 |_,_,.cons h hs=>.cons h.any (DWs.any hs)
end
section
variable {G:Gx}{O:Zaa}{H:Hp}{v:V}
theorem xY (h:DW G O H v .non):v=.non:=by
 rcases h with h | ⟨_,_,_,h⟩
 ·cases h;rfl
 ·exact h.elim
theorem HD {b:Bool}(h:DW G O H v (.bl b)):v=.bl b:=by
 rcases h with h | ⟨_,_,_,h⟩
 ·cases h;rfl
 ·exact h.elim
theorem b7 {i:Int}(h:DW G O H v (.int i)):v=.int i:=by
 rcases h with h | ⟨_,_,_,h⟩
 ·cases h;rfl
 ·exact h.elim
theorem du {x:Str}(h:DW G O H v (.str x)):v=.str x:=by
 rcases h with h | ⟨_,_,_,h⟩
 ·cases h;rfl
 ·exact h.elim
theorem pW {ds:List D}(h:DW G O H v (.tup ds)):∃a xs,v=.ref a/\SqT G.K H a xs/\DVs G O H xs ds:=by
 rcases h with h | ⟨_,_,_,h⟩
 ·cases h with
  |tup h hs=>exact ⟨_,_,rfl,h.sq,hs⟩
 ·exact h.elim
theorem xG {ds:List D}(h:DW G O H v (.tup ds)):∃a xs,v=.ref a/\SqU G.K H a xs/\DVs G O H xs ds:=by
 rcases h with h | ⟨_,_,_,h⟩
 ·cases h with
  |tup h hs=>exact ⟨_,_,rfl,h,hs⟩
 ·exact h.elim
theorem gM {ds:List D}(h:DW G O H v (.lst ds)):∃a xs,v=.ref a/\SqL G.K H a xs/\DVs G O H xs ds:=by
 rcases h with h | ⟨a,e,_,h⟩
 ·cases h with
  |lst h hs=>exact ⟨_,_,rfl,h.sq,hs⟩
 ·obtain ⟨xs,e',hs⟩:=h;exact ⟨a,xs,e,.inl (.inl e'),hs⟩
theorem Oq {K:W.Frag}{a:Addr}{kvs:List (Key×V)}{k:Key}(e:Rd H a (.dK kvs)):Fd K H a (kV k) (m9 kvs k):=.inl ⟨kvs,k,e,rfl,rfl⟩
theorem wB {ks:List Key}{ds:List D}(h:DW G O H v (.dct ks ds)):∃a kvs vs,v=.ref a/\Rd H a (.dK kvs)/\kvs.map (·.1)=ks/\kvs.map (·.2)=vs/\DVs G O H vs ds:=by
 rcases h with h | ⟨a,e,_,h⟩
 ·cases h with
  |dct n e a b hs=>exact ⟨_,_,_,rfl,e,a,b,hs⟩
 ·obtain ⟨k,w,e',a1,a2,hs⟩:=h;exact ⟨a,k,w,e,.inl e',a1,a2,hs⟩
theorem Qg {ks:List (List Kt)}{ds:List D}(h:DW G O H v (.dcu ks ds)):∃a kvs vs,v=.ref a/\H a=some (.dT (KTp G.K) kvs)/\kvs.map (·.1)=ks/\kvs.map (·.2)=vs/\DVs G O H vs ds:=by
 rcases h with h | ⟨a,e,_,h⟩
 ·cases h with
  |dcu n e a b hs=>exact ⟨_,_,_,rfl,e,a,b,hs⟩
 ·obtain ⟨k,w,e',a1,a2,hs⟩:=h;exact ⟨a,k,w,e,e',a1,a2,hs⟩
theorem cg:∀{vs:List V} {ds:List D},DVs G O H vs ds->vs.length=ds.length
 |_,_,.nil=>rfl
 |_,_,.cons _ hs=>by rw [List.length_cons,List.length_cons,cg hs]
theorem j0:∀{vs us:List V} {ds es:List D},DVs G O H vs ds->DVs G O H us es->DVs G O H (vs++us) (ds++es)
 |_,_,_,_,.nil,h=>h
 |_,_,_,_,.cons a t,h=>.cons a (j0 t h)
theorem p7:∀{vs:List V} {ds:List D} {i:Nat} {x:V},DVs G O H vs ds->vs[i]? = some x->∃d,ds[i]? = some d/\DV G O H x d
 |_,_,_,_,.nil,e=>by simp at e
 |_,_,0,_,.cons a _,e=>by simp at e;subst e;exact ⟨_,rfl,a⟩
 |_,_,i+1,x,.cons _ t,e=>by
  obtain ⟨d,h1,h2⟩:=p7 (i:=i) (x:=x) t (by simpa using e);exact ⟨d,by simpa using h1,h2⟩
theorem El:∀{vs:List V} {ds:List D} {i:Nat} {d:D},DVs G O H vs ds->ds[i]? = some d->∃x,vs[i]? = some x/\DV G O H x d
 |_,_,_,_,.nil,e=>by simp at e
 |_,_,0,_,.cons a _,e=>by simp at e;subst e;exact ⟨_,rfl,a⟩
 |_,_,i+1,d,.cons _ t,e=>by
  obtain ⟨x,h1,h2⟩:=El (i:=i) (d:=d) t (by simpa using e);exact ⟨x,by simpa using h1,h2⟩
theorem yF:∀{vs:List V} {ds:List D} (n:Nat),DVs G O H vs ds->DVs G O H (vs.take n) (ds.take n)
 |_,_,0,_=>by simp only [List.take_zero];exact .nil
 |_,_,_+1,.nil=>.nil
 |_,_,n+1,.cons a t=>.cons a (yF n t)
theorem Hu:∀{vs:List V} {ds:List D} (n:Nat),DVs G O H vs ds->DVs G O H (vs.drop n) (ds.drop n)
 |_,_,0,h=>h
 |_,_,_+1,.nil=>.nil
 |_,_,n+1,.cons _ t=>Hu n t
theorem JH:∀{vs:List V} {ds:List D},DVs G O H vs ds->DVs G O H vs.reverse ds.reverse
 |_,_,.nil=>.nil
 |_,_,.cons a t=>by rw [List.reverse_cons,List.reverse_cons];exact j0 (JH t) (.cons a .nil)
def flat:D->Bool
 | .non | .bl _ | .int _ | .str _=>true
 |_=>false
theorem DV.flat {O':Zaa}{H':Hp}{d:D}(f:flat d=true)(h:DV G O H v d):DV G O' H' v d:=by
 cases h with
 |non=>exact .non
 |bl b=>exact .bl b
 |int i=>exact .int i
 |str x=>exact .str x
 |_=>cases f
end
inductive Sl where
  |un | fz (d:D) | ow (d:D) | io (d:D) | bw (d:D)
  |hd (w:Bool) (a:Addr) (d:D)
abbrev Me:=List Sl
abbrev Os:=Nat->Option Addr
def Ow (O0:Zaa)(ow:Os):Zaa:=λb=>O0 b\/∃i,ow i=some b
def Op (O:Zaa)(p:Addr):Zaa:=λb=>O b\/b=p
def owS (ow:Os)(i:Nat)(x:Option Addr):Os:=λj=>if j=i then x else ow j
theorem cZ {ow:Os}{i:Nat}{x:Option Addr}:owS ow i x i=x:=by unfold owS;rw [if_pos rfl]
theorem cO {ow:Os}{i j:Nat}{x:Option Addr}(h:j≠i):owS ow i x j=ow j:=by unfold owS;rw [if_neg h]
def Iv (G:Gx)(O M0:Zaa)(H0:Hp)(oi:Option Addr)(v:Option (Option V))(H:Hp):Sl->Prop
 | .un=>oi=none
 | .fz d=>oi=none/\∃x,v=some (some x)/\DV G O H x d
 | .ow d=>∃a,oi=some a/\H0 a=none/\v=some (some (.ref a))/\OV G O H a d
 | .io d=>∃a,oi=some a/\M0 a/\v=some (some (.ref a))/\OV G O H a d
 | .bw d=>oi=none/\∃x,v=some (some x)/\DW G O H x d
 | .hd w a d=>oi=some a/\(w=true->H0 a=none)/\(w=false->M0 a)/\OV G O H a d
structure Rel (G:Gx)(O0 M0:Zaa)(H0:Hp)(ow:Os)(σ:L2.St)(H:Hp)(m:Me):Prop where
 len:σ.length=m.length
 keep:Kp M0 H0 H
 m0:∀b,M0 b->H b≠none
 mutk:∀b,Ow O0 ow b->fH (H b)
 no0:∀i a,ow i=some a->¬O0 a
 inj:∀i j a,ow i=some a->ow j=some a->i=j
 out:∀i,m.length<=i->ow i=none
 slot:∀i s,m[i]? = some s->Iv G (Ow O0 ow) M0 H0 (ow i) (σ[i]?) H s
structure dW (G:Gx)(O0 M0:Zaa)(H0:Hp)(ow:Os)(σ:L2.St)(H:Hp)(m:Me):Prop extends Rel G O0 M0 H0 ow σ H m where
 nb:∀(j:Nat) (d:D),m[j]?≠some (Sl.bw d)
structure Go (O0:Zaa)(ow:Os)(H:Hp)(ow':Os)(H':Hp):Prop where
 keep:Kp (Ow O0 ow) H H'
 new:∀i a,ow' i=some a->Ow O0 ow a\/H a=none
 dom:∀b,H b≠none->H' b≠none
theorem Go.refl {O0:Zaa}{ow:Os}{H H':Hp}(g:aL H H'):Go O0 ow H ow H':=
 ⟨.of g,λi a e=>.inl (.inr ⟨i,e⟩),λb n z=>by
  cases q:H b with
  |none=>exact n q
  |some o=>rw [g b o q] at z;cases z⟩
theorem Go.trans {O0:Zaa}{ow ow1 ow2:Os}{H H1 H2:Hp}(a:Go O0 ow H ow1 H1)(b:Go O0 ow1 H1 ow2 H2):Go O0 ow H ow2 H2 where
 keep:=λc o e n=>b.keep c o (a.keep c o e n) λz=>by
  rcases z with z | ⟨i,z⟩
  ·exact n (.inl z)
  ·rcases a.new i c z with y | y
   ·exact n y
   ·rw [y] at e;cases e
 new:=λi c e=>by
  rcases b.new i c e with (z | ⟨j,z⟩) | z
  ·exact .inl (.inl z)
  ·exact a.new j c z
  ·refine .inr ?_;cases q:H c with
   |none=>rfl
   |some o=>exact absurd z (a.dom c (by rw [q];simp))
 dom:=λc n=>b.dom c (a.dom c n)
theorem Go.ev {O0:Zaa}{ow ow':Os}{H H':Hp}(g:Go O0 ow H ow' H'):Ev (Ow O0 ow) H (Ow O0 ow') H':=
 ⟨λb z=>z.elim (λz=>.inl (.inl z)) λ⟨i,e⟩=>g.new i b e,g.keep⟩
theorem uT (O:Zaa):Ow O (λ_=>none)=O:=by
 funext b;exact propext ⟨λz=>z.elim id λ⟨_,e⟩=>(by cases e),Or.inl⟩
section
variable {G:Gx}{O0 M0:Zaa}{H0 H H':Hp}{ow:Os}{σ:L2.St}{m:Me}
theorem Iv.mono {O:Zaa}{oi:Option Addr}{v:Option (Option V)}{s:Sl}(g:aL H H')(h:Iv G O M0 H0 oi v H s):Iv G O M0 H0 oi v H' s:=by
 cases s with
 |un=>exact h
 |fz d=>obtain ⟨a,x,e,q⟩:=h;exact ⟨a,x,e,q.mono g⟩
 |ow d=>obtain ⟨a,x,e,f,q⟩:=h;exact ⟨a,x,e,f,q.mono g⟩
 |io d=>obtain ⟨a,x,e,f,q⟩:=h;exact ⟨a,x,e,f,q.mono g⟩
 |bw d=>obtain ⟨a,x,e,q⟩:=h;exact ⟨a,x,e,q.mono g⟩
 |hd w a d=>obtain ⟨x,e,f,q⟩:=h;exact ⟨x,e,f,q.mono g⟩
theorem vX {b:Addr}(g:aL H H')(h:fH (H b)):fH (H' b):=by
 rcases h with ⟨x,e⟩ | ⟨x,e⟩ | ⟨x,e⟩ | ⟨x,e⟩
 ·exact .inl ⟨x,g _ _ e⟩
 ·exact .inr (.inl ⟨x,g _ _ e⟩)
 ·exact .inr (.inr (.inl ⟨x,g _ _ e⟩))
 ·exact .inr (.inr (.inr ⟨x,g _ _ e⟩))
theorem Rel.mono (R:Rel G O0 M0 H0 ow σ H m)(g:aL H H'):Rel G O0 M0 H0 ow σ H' m:=
 ⟨R.len,λb o e n=>g b o (R.keep b o e n),λb z q=>R.m0 b z (aL.free g q),λb z=>vX g (R.mutk b z),R.no0,R.inj,R.out,λi s e=>(R.slot i s e).mono g⟩
theorem Iv.cI {O O':Zaa}{oi:Option Addr}{v:Option (Option V)}{s:Sl}(sub:∀b,O' b->O b\/H b=none)(h:Iv G O M0 H0 oi v H s)(hb:∀d,s=.bw d->∀b,O b->O' b\/¬O' b):Iv G O' M0 H0 oi v H s:=by
 cases s with
 |un=>exact h
 |fz d=>obtain ⟨a,x,e,q⟩:=h;exact ⟨a,x,e,q.cI sub⟩
 |ow d=>obtain ⟨a,x,e,f,q⟩:=h;exact ⟨a,x,e,f,q.cI sub⟩
 |io d=>obtain ⟨a,x,e,f,q⟩:=h;exact ⟨a,x,e,f,q.cI sub⟩
 |bw d=>
  obtain ⟨a,x,e,q⟩:=h;refine ⟨a,x,e,?_⟩;rcases q with q | ⟨b,e1,o,q⟩
  ·exact .inl (q.cI sub)
  ·rcases hb d rfl b o with w | w
   ·exact .inr ⟨b,e1,w,q.cI sub⟩
   ·subst e1;exact .inl ((q.cI sub).dv w)
 |hd w a d=>obtain ⟨x,e,f,q⟩:=h;exact ⟨x,e,f,q.cI sub⟩
theorem Ow.sub {i:Nat}{b:Addr}(z:Ow O0 (owS ow i none) b):Ow O0 ow b:=by
 rcases z with z | ⟨j,e⟩
 ·exact .inl z
 ·by_cases q:j=i
  ·subst q;rw [cZ] at e;cases e
  ·rw [cO q] at e;exact .inr ⟨j,e⟩
theorem xZ {α:Type}{l:List α}{i:Nat}{x:α}(e:l[i]? = some x):i<l.length:=(List.getElem?_eq_some_iff.mp e).1
theorem Rel.set {i:Nat}{v:V}{d:D}(R:Rel G O0 M0 H0 ow σ H m)(h:DV G (Ow O0 ow) H v d):
  Rel G O0 M0 H0 (owS ow i none) (σ.set i (some v)) H (m.set i (.fz d)):=by
 have sub:∀b,Ow O0 (owS ow i none) b->Ow O0 ow b\/H b=none:=λb z=>.inl z.sub;refine ⟨by simp [R.len],R.keep,R.m0,λb z=>R.mutk b z.sub,λj a e=>?_,λj k a e1 e2=>?_,λj hj=>?_,λj s e=>?_⟩
 ·by_cases q:j=i
  ·subst q;rw [cZ] at e;cases e
  ·rw [cO q] at e;exact R.no0 j a e
 ·by_cases q:j=i
  ·subst q;rw [cZ] at e1;cases e1
  ·by_cases q':k=i
   ·subst q';rw [cZ] at e2;cases e2
   ·rw [cO q] at e1;rw [cO q'] at e2;exact R.inj j k a e1 e2
 ·by_cases q:j=i
  ·subst q;exact cZ
  ·rw [cO q];exact R.out j (by simpa using hj)
 ·by_cases q:j=i
  ·subst q;have hj:j<m.length:=by simpa using xZ e
   rw [List.getElem?_set_self hj] at e;cases e;rw [cZ,List.getElem?_set_self (by rw [R.len];exact hj)];exact ⟨rfl,v,rfl,h.cI sub⟩
  ·rw [List.getElem?_set_ne (Ne.symm q)] at e;rw [cO q,List.getElem?_set_ne (Ne.symm q)];exact (R.slot j s e).cI sub λ_ _ b _=>Classical.em _
theorem Go.set {i:Nat}:Go O0 ow H (owS ow i none) H:=
 ⟨λ_ _ e _=>e,λj a e=>.inl (by
  by_cases q:j=i
  ·subst q;rw [cZ] at e;cases e
  ·rw [cO q] at e;exact .inr ⟨j,e⟩),λ_ n=>n⟩
theorem Rel.WK (R:Rel G O0 M0 H0 ow σ H m){p:Addr}(n:H p=none):H0 p=none:=by
 cases q:H0 p with
 |none=>rfl
 |some o=>
  by_cases z:M0 p
  ·exact absurd n (R.m0 p z)
  ·rw [R.keep p o q z] at n;cases n
theorem Rel.PB (R:Rel G O0 M0 H0 ow σ H m){p:Addr}(n:H p=none):¬Ow O0 ow p:=λz=>by
 have:=R.mutk p z
 rw [n] at this;rcases this with ⟨_,e⟩ | ⟨_,e⟩ | ⟨_,e⟩ | ⟨_,e⟩<;>cases e
theorem Ow.new {i:Nat}{b p:Addr}(z:Ow O0 (owS ow i (some p)) b):Ow O0 ow b\/b=p:=by
 rcases z with z | ⟨j,e⟩
 ·exact .inl (.inl z)
 ·by_cases q:j=i
  ·subst q;rw [cZ] at e;cases e;exact .inr rfl
  ·rw [cO q] at e;exact .inl (.inr ⟨j,e⟩)
theorem Rel.own {i:Nat}{p:Addr}{d:D}(R:Rel G O0 M0 H0 ow σ H m)(g:aL H H')(n:H p=none)(n0:H0 p=none)(h:OV G (Op (Ow O0 ow) p) H' p d)(hi:i<m.length):
  Rel G O0 M0 H0 (owS ow i (some p)) (σ.set i (some (.ref p))) H' (m.set i (.ow d)):=by
 have np:=R.PB n;have sub:∀b,Ow O0 (owS ow i (some p)) b->Ow O0 ow b\/H b=none:=λb z=>z.new.elim .inl λe=>.inr (by rw [e];exact n);refine ⟨by simp [R.len],(R.mono g).keep,(R.mono g).m0,λb z=>?_,λj a e=>?_,λj k a e1 e2=>?_,λj hj=>?_,λj s e=>?_⟩
 ·rcases z.new with z | z
  ·exact (R.mono g).mutk b z
  ·rw [z];exact h.mut
 ·by_cases q:j=i
  ·subst q;rw [cZ] at e;cases e;exact λz=>np (.inl z)
  ·rw [cO q] at e;exact R.no0 j a e
 ·by_cases q:j=i
  ·subst q;rw [cZ] at e1;cases e1;by_cases q':k=j
   ·exact q'.symm
   ·rw [cO q'] at e2;exact absurd (.inr ⟨k,e2⟩) np
  ·rw [cO q] at e1;by_cases q':k=i
   ·subst q';rw [cZ] at e2;cases e2;exact absurd (.inr ⟨j,e1⟩) np
   ·rw [cO q'] at e2;exact R.inj j k a e1 e2
 ·have hj':m.length<=j:=by simpa using hj
  rw [cO (by omega)];exact R.out j hj'
 ·by_cases q:j=i
  ·subst q;rw [List.getElem?_set_self hi] at e;cases e;rw [cZ,List.getElem?_set_self (by rw [R.len];exact hi)];exact ⟨p,rfl,n0,rfl,h.cI λb z=>.inl (z.new.elim .inl .inr)⟩
  ·rw [List.getElem?_set_ne (Ne.symm q)] at e;rw [cO q,List.getElem?_set_ne (Ne.symm q)];exact ((R.slot j s e).cI sub λ_ _ b _=>Classical.em _).mono g
theorem Go.own {i:Nat}{p:Addr}(g:aL H H')(n:H p=none):Go O0 ow H (owS ow i (some p)) H':=
 ⟨.of g,λj a e=>by
  by_cases q:j=i
  ·subst q;rw [cZ] at e;cases e;exact .inr n
  ·rw [cO q] at e;exact .inl (.inr ⟨j,e⟩),(Go.refl (O0:=O0) (ow:=ow) g).dom⟩
theorem vM {i:Nat}{s:Sl}(nb:∀(j:Nat) (d:D),m[j]?≠some (Sl.bw d))(hs:∀d,s≠.bw d):∀(j:Nat) (d:D),(m.set i s)[j]?≠some (Sl.bw d):=λj d e=>by
 by_cases q:j=i
 ·subst q;have hj:j<m.length:=by simpa using xZ e
  rw [List.getElem?_set_self hj] at e;exact hs d (Option.some.inj e)
 ·rw [List.getElem?_set_ne (Ne.symm q)] at e;exact nb j d e
theorem dW.mono (R:dW G O0 M0 H0 ow σ H m)(g:aL H H'):dW G O0 M0 H0 ow σ H' m:=⟨R.toRel.mono g,R.nb⟩
theorem dW.set {i:Nat}{v:V}{d:D}(R:dW G O0 M0 H0 ow σ H m)(h:DV G (Ow O0 ow) H v d):dW G O0 M0 H0 (owS ow i none) (σ.set i (some v)) H (m.set i (.fz d)):=
 ⟨R.toRel.set h,vM R.nb λ_ z=>by cases z⟩
theorem dW.own {i:Nat}{p:Addr}{d:D}(R:dW G O0 M0 H0 ow σ H m)(g:aL H H')(n:H p=none)(n0:H0 p=none)(h:OV G (Op (Ow O0 ow) p) H' p d)(hi:i<m.length):
  dW G O0 M0 H0 (owS ow i (some p)) (σ.set i (some (.ref p))) H' (m.set i (.ow d)):=⟨R.toRel.own g n n0 h hi,vM R.nb λ_ z=>by cases z⟩
def Sl.let:Sl->Sl
 | .ow d=>.fz d
 |s=>s
def Me.let (m:Me):Me:=m.map Sl.let
theorem dW.let (R:dW G O0 M0 H0 ow σ H m):∃ow',dW G O0 M0 H0 ow' σ H m.let/\Go O0 ow H ow' H:=by
 let ow':Os:=λi=>match m[i]? with
  |some (.io _)=>ow i
  |some (.hd _ _ _)=>ow i
  |_=>none
 have le:∀i a,ow' i=some a->ow i=some a/\∀d,m[i]?≠some (.ow d):=λi a e=>by
  simp only [ow'] at e;split at e
  ·rename_i d q;exact ⟨e,λd z=>by rw [q] at z;cases z⟩
  ·rename_i w b d q;exact ⟨e,λd z=>by rw [q] at z;cases z⟩
  ·cases e
 have sub:∀b,Ow O0 ow' b->Ow O0 ow b\/H b=none:=λb z=>.inl (z.elim .inl λ⟨i,e⟩=>.inr ⟨i,(le i b e).1⟩);refine ⟨ow',⟨⟨by simp [Me.let,R.len],R.keep,R.m0,λb z=>?_,λi a e=>R.no0 i a (le i a e).1,λi j a e1 e2=>R.inj i j a (le i a e1).1 (le j a e2).1,λi hi=>?_,λi s e=>?_⟩,λj d e=>?_⟩,λb o e n=>e,λi a e=>.inl (.inr ⟨i,(le i a e).1⟩),λ_ n=>n⟩
 ·exact R.mutk b (z.elim .inl λ⟨i,e⟩=>.inr ⟨i,(le i b e).1⟩)
 ·have hi':m.length<=i:=by simpa [Me.let] using hi
  simp only [ow'];rw [List.getElem?_eq_none hi']
 ·unfold Me.let at e;rw [List.getElem?_map] at e;cases q:m[i]? with
  |none=>rw [q] at e;cases e
  |some s0=>
   rw [q] at e;cases e;have z:=R.slot i s0 q;cases s0 with
   |un=>exact (show ow' i=none by simp only [ow',q])
   |fz d=>obtain ⟨_,x,e,h⟩:=z;exact ⟨(show ow' i=none by simp only [ow',q]),x,e,h.cI sub⟩
   |ow d=>
    obtain ⟨a,e1,e2,e3,h⟩:=z;refine ⟨(show ow' i=none by simp only [ow',q]),.ref a,e3,(h.cI sub).dv λw=>?_⟩;rcases w with w | ⟨j,w⟩
    ·exact R.no0 i a e1 w
    ·obtain ⟨w1,w2⟩:=le j a w
     have:=R.inj i j a e1 w1
     subst this;exact w2 d q
   |io d=>
    obtain ⟨a,e1,e2,e3,h⟩:=z;exact ⟨a,(show ow' i=some a by simp only [ow',q];exact e1),e2,e3,h.cI sub⟩
   |bw d=>exact (R.nb i d q).elim
   |hd w a d=>
    obtain ⟨e1,e2,e3,h⟩:=z;exact ⟨(show ow' i=some a by simp only [ow',q];exact e1),e2,e3,h.cI sub⟩
 ·unfold Me.let at e;rw [List.getElem?_map] at e;cases q:m[j]? with
  |none=>rw [q] at e;cases e
  |some s0=>
   rw [q] at e;cases s0 with
   |bw d'=>exact R.nb j d' q
   |_=>cases e
end
def Pu (G:Gx)(E:XK){α:Type}(r:Res α)(H:Hp)(k:α->Prop):Prop:=match r with
 | .ok a=>k a
 | .exc c=>∀C H',G.mg c=some (.ref C)->aL H H'->E (.ref C) none H'
 | .stuck=>False
theorem Pu.bind {G:Gx}{E:XK}{α β:Type}{r:Res α}{f:α->Res β}{H:Hp}{k:β->Prop}(h:Pu G E (r.bind f) H k):Pu G E r H λa=>Pu G E (f a) H k:=by
 cases r with
 |ok a=>exact h
 |exc c=>exact h
 |stuck=>exact h
theorem Pu.imp {G:Gx}{E:XK}{α:Type}{r:Res α}{H H':Hp}{k k':α->Prop}(h:Pu G E r H k)(g:aL H H')(hk:∀a,k a->k' a):Pu G E r H' k':=by
 cases r with
 |ok a=>exact hk a h
 |exc c=>exact λC H1 e g1=>h C H1 e (g.trans g1)
 |stuck=>exact h
theorem Pu.ofO {G:Gx}{E:XK}{α:Type}{r:Option α}{H:Hp}{k:α->Prop}(h:Pu G E (ofO r) H k):∃a,r=some a/\k a:=by
 cases r with
 |some a=>exact ⟨a,rfl,h⟩
 |none=>exact h.elim
def tE (G:Gx)(E:XK)(f:Me->Res D):TE:=λσ H Q=>∃O0 M0 H0 ow m,Rel G O0 M0 H0 ow σ H m/\Pu G E (f m) H λd=>∀v H',aL H H'->DV G (Ow O0 ow) H' v d->Q v H'
def tB (G:Gx)(E:XK)(f:Me->Res D):TE:=λσ H Q=>∃O0 M0 H0 ow m,Rel G O0 M0 H0 ow σ H m/\Pu G E (f m) H λd=>∀v H',aL H H'->DW G (Ow O0 ow) H' v d->Q v H'
def tN (G:Gx)(E:XK)(f:Me->Res D):TE:=λσ H Q=>∃O0 M0 H0 ow m,Rel G O0 M0 H0 ow σ H m/\Pu G E (f m) H λd=>∀p H',aL H H'->H p=none->OV G (Op (Ow O0 ow) p) H' p d->Q (.ref p) H'
def tT (G:Gx)(E:XK)(f:Me->Res Bool):TT:=λσ H Q=>∃O0 M0 H0 ow m,Rel G O0 M0 H0 ow σ H m/\Pu G E (f m) H λb=>∀H',aL H H'->Q b H'
def tAE (G:Gx)(E:XK)(f:Me->Res (List D)):TA:=λσ H Q=>∃O0 M0 H0 ow m,Rel G O0 M0 H0 ow σ H m/\Pu G E (f m) H λds=>∀vs H',aL H H'->DVs G (Ow O0 ow) H' vs ds->Q vs H'
def tAB (G:Gx)(E:XK)(f:Me->Res (List D)):TA:=λσ H Q=>∃O0 M0 H0 ow m,Rel G O0 M0 H0 ow σ H m/\Pu G E (f m) H λds=>∀vs H',aL H H'->DWs G (Ow O0 ow) H' vs ds->Q vs H'
abbrev FE (X:Cx)(E:XK)(e:Expr)(f:Me->Res D):Prop:=PE X e (tE (gx X) E f)
abbrev FB (X:Cx)(E:XK)(e:Expr)(f:Me->Res D):Prop:=PE X e (tB (gx X) E f)
abbrev FN (X:Cx)(E:XK)(e:Expr)(f:Me->Res D):Prop:=PE X e (tN (gx X) E f)
abbrev FT (X:Cx)(E:XK)(e:Expr)(f:Me->Res Bool):Prop:=PT X e (tT (gx X) E f)
abbrev FW (X:Cx)(E:XK)(e:Expr)(f:Me->Res Bool):Prop:=PW X e (tT (gx X) E f)
abbrev FAE (X:Cx)(E:XK)(es:List Expr)(f:Me->Res (List D)):Prop:=PA X es (tAE (gx X) E f)
abbrev FAB (X:Cx)(E:XK)(es:List Expr)(f:Me->Res (List D)):Prop:=PA X es (tAB (gx X) E f)
theorem Dm {X:Cx}{e:Expr}{T T':TT}(h:PT X e T)(k:∀σ H Q,T' σ H Q->T σ H Q):PT X e T':=λpins s σ H Q I q=>h pins s σ H Q I (k σ H Q q)
theorem JS {X:Cx}{e:Expr}{T T':TT}(h:PW X e T)(k:∀σ H Q,T' σ H Q->T σ H Q):PW X e T':=λwh pins s σ H Q I q=>h wh pins s σ H Q I (k σ H Q q)
theorem xx {X:Cx}{es:List Expr}{T T':TA}(h:PA X es T)(k:∀σ H Q,T' σ H Q->T σ H Q):PA X es T':=λpos pins s σ H Q I q=>h pos pins s σ H Q I (k σ H Q q)
section
variable {X:Cx}{E:XK}{e a b c:Expr}{es:List Expr}{f fa fb fc:Me->Res D}{fs:Me->Res (List D)}{ft fu:Me->Res Bool}{pos:Pos}
theorem aq (h:FE X E e f):FB X E e f:=bJ h λ_ _ _ hE=>xq5 hE λO0 M0 H0 ow m R q=>⟨O0,M0,H0,ow,m,R,q.imp (aL.refl _) λ_ k v H' g d=>k v H' g (.inl d)⟩
theorem dw (h:FN X E e f):FE X E e f:=bJ h λ_ _ _ hE=>xq5 hE λO0 M0 H0 ow m R q=>⟨O0,M0,H0,ow,m,R,q.imp (aL.refl _) λ_ k p H' g n o=>
 k _ H' g ((o.cI λb z=>.inl (.inl z)).dv (R.PB n))⟩
def aH (i:Nat):Me->Res D:=λm=>match m[i]? with
 |some (.fz d)=>.ok d
 |_=>.stuck
def ao (i:Nat):Me->Res D:=λm=>match m[i]? with
 |some (.fz d)=>.ok d
 |some (.ow d)=>.ok d
 |some (.io d)=>.ok d
 |some (.bw d)=>.ok d
 |_=>.stuck
theorem aG (i:Nat){x:Str}(hN:X.N[i]? = some x:=by rfl)(hv:Vis X.env.scope x:=by first | exact Or.inl rfl | exact Or.inr (Or.inl rfl) | exact Or.inr (Or.inr rfl))(hd:(x == ("__debug__" : Str))=false:=by decide)
  (hcd:(x == ("__classdict__" : Str))=false:=by decide):FE X E (.Name x pos) (aH i):=bJ (oh hN hv hd hcd) λσ H Q hE=>xq5 hE λO0 M0 H0 ow m R q=>by
 unfold aH at q;cases e:m[i]? with
 |none=>rw [e] at q;exact q.elim
 |some s=>
  rw [e] at q;cases s with
  |fz d=>
   obtain ⟨_,x,h1,h2⟩:=R.slot i _ e;exact ⟨x,h1,q x H (aL.refl _) h2⟩
  |_=>exact q.elim
theorem au (i:Nat){x:Str}(hN:X.N[i]? = some x:=by rfl)(hv:Vis X.env.scope x:=by first | exact Or.inl rfl | exact Or.inr (Or.inl rfl) | exact Or.inr (Or.inr rfl))(hd:(x == ("__debug__" : Str))=false:=by decide)
  (hcd:(x == ("__classdict__" : Str))=false:=by decide):FB X E (.Name x pos) (ao i):=bJ (oh hN hv hd hcd) λσ H Q hE=>xq5 hE λO0 M0 H0 ow m R q=>by
 unfold ao at q;cases e:m[i]? with
 |none=>rw [e] at q;exact q.elim
 |some s=>
  rw [e] at q;cases s with
  |fz d=>
   obtain ⟨_,x,h1,h2⟩:=R.slot i _ e;exact ⟨x,h1,q x H (aL.refl _) (.inl h2)⟩
  |bw d=>
   obtain ⟨_,x,h1,h2⟩:=R.slot i _ e;exact ⟨x,h1,q x H (aL.refl _) h2⟩
  |ow d=>
   obtain ⟨a,h1,h2,h3,h4⟩:=R.slot i _ e;exact ⟨_,h3,q _ H (aL.refl _) (.inr ⟨a,rfl,.inr ⟨i,h1⟩,h4⟩)⟩
  |io d=>
   obtain ⟨a,h1,h2,h3,h4⟩:=R.slot i _ e;exact ⟨_,h3,q _ H (aL.refl _) (.inr ⟨a,rfl,.inr ⟨i,h1⟩,h4⟩)⟩
  |un=>exact q.elim
  |hd _ _ _=>exact q.elim
def fC (d:D):Me->Res D:=λ_=>.ok d
theorem TF {d:D}{v:V}(h:PE X e (tC v))(hd:∀O H,DV (gx X) O H v d):FE X E e (fC d):=bJ h λσ H Q hE=>xq5 hE λO0 M0 H0 ow m R q=>q v H (aL.refl _) (hd _ _)
theorem aA {i j pos}:FE X E (.Constant (.int i) j pos) (fC (.int i)):=TF Yk λ_ _=>.int i
theorem lL {b j pos}:FE X E (.Constant (.bool b) j pos) (fC (.bl b)):=TF Zv λ_ _=>.bl b
theorem bx {x j pos}:FE X E (.Constant (.str x) j pos) (fC (.str x)):=TF Yu λ_ _=>.str x
theorem rO {x:Str}{v:V}{u:Value}{d:D}(hg:Gl X x)(hm:X.mg x=some u)(r:RelV v u)(hd:∀O H,DV (gx X) O H v d)(hdb:(x == ("__debug__" : Str))=false:=by decide):FE X E (.Name x pos) (fC d):=TF (Tn hg hm r hdb) hd
def rG (G:Gx)(g:D->D->Option D):R2:=λx y H Q=>∃O d e r,(∀b,O b->fH (H b))/\DW G O H x d/\DW G O H y e/\g d e=some r/\∀v H',aL H H'->DV G O H' v r->Q v H'
def rGB (G:Gx)(g:D->D->Option Bool):R2:=λx y H Q=>∃O d e r,(∀b,O b->fH (H b))/\DW G O H x d/\DW G O H y e/\g d e=some r/\Q (.bl r) H
def rG1 (G:Gx)(g:D->Option D):V->Hp->VK->Prop:=λx H Q=>∃O d r,(∀b,O b->fH (H b))/\DW G O H x d/\g d=some r/\∀v H',aL H H'->DV G O H' v r->Q v H'
def rGC (G:Gx)(g:List D->Option D):List V->Hp->VK->Prop:=λxs H Q=>∃O ds r,(∀b,O b->fH (H b))/\DWs G O H xs ds/\g ds=some r/\∀v H',aL H H'->DV G O H' v r->Q v H'
def V6 (G:Gx)(g:List D->Option D):List V->Hp->VK->Prop:=λxs H Q=>∃O ds r,(∀b,O b->fH (H b))/\DWs G O H xs ds/\g ds=some r/\∀p H',aL H H'->H p=none->OV G (Op O p) H' p r->Q (.ref p) H'
def rGM (G:Gx)(g:D->List D->Option D):V->List V->Hp->VK->Prop:=λx xs H Q=>∃O d ds r,(∀b,O b->fH (H b))/\DW G O H x d/\DWs G O H xs ds/\g d ds=some r/\∀v H',aL H H'->DV G O H' v r->Q v H'
def aD (g:D->D->Option D)(fa fb:Me->Res D):Me->Res D:=λm=>(fa m).bind λx=>(fb m).bind λy=>ofO (g x y)
def qG (g:D->D->Option Bool)(fa fb:Me->Res D):Me->Res D:=λm=>(fa m).bind λx=>(fb m).bind λy=>ofO ((g x y).map D.bl)
def aU (g:D->D->Option Bool)(fa fb:Me->Res D):Me->Res Bool:=λm=>(fa m).bind λx=>(fb m).bind λy=>ofO (g x y)
def fUn (g:D->Option D)(fa:Me->Res D):Me->Res D:=λm=>(fa m).bind λx=>ofO (g x)
theorem two {G:Gx}{σ:L2.St}{H:Hp}{Q:VK}{r:R2}{O0 M0:Zaa}{H0:Hp}{ow:Os}{m:Me}{β:Type}{g:D->D->Res β}{K:β->Hp->Prop}(R:Rel G O0 M0 H0 ow σ H m)(h:Pu G E ((fa m).bind λx=>(fb m).bind λy=>g x y) H λz=>K z H)
  (hm:∀z H',K z H->aL H H'->K z H')
  (k:∀x y d e H',aL H H'->DW G (Ow O0 ow) H' x d->DW G (Ow O0 ow) H' y e->Pu G E (g d e) H' (λz=>K z H')->Rel G O0 M0 H0 ow σ H' m->r x y H' Q):tOp r (tB G E fa) (tB G E fb) σ H Q:=by
 refine ⟨O0,M0,H0,ow,m,R,h.bind.imp (aL.refl _) λd q x H1 g1 hx=>⟨O0,M0,H0,ow,m,R.mono g1,q.bind.imp g1 λe q2 y H2 g2 hy=>?_⟩⟩;exact k x y d e H2 (g1.trans g2) (hx.mono g2) hy (q2.imp (g1.trans g2) λz kz=>hm z _ kz (g1.trans g2)) (R.mono (g1.trans g2))
theorem aN {g:D->D->Option D}{op:Operator}(ho:OpR X (binaryOp op) (rG (gx X) g))(ha:FB X E a fa)(hb:FB X E b fb):FE X E (.BinOp a op b pos) (aD g fa fb):=
 bJ (Zy ho ha hb) λσ H Q hE=>xq5 hE λO0 M0 H0 ow m R q=>two R (K:=λz H=>∀v H',aL H H'->DV (gx X) (Ow O0 ow) H' v z->Q v H') q (λ_ _ k g v H' g' d=>k v H' (g.trans g') d) λx y d e H' g hx hy q' R'=>by
  obtain ⟨r,hr,k⟩:=q'.ofO;exact ⟨_,d,e,r,R'.mutk,hx,hy,hr,k⟩
theorem aP {g:D->D->Option D}(ho:IxR X (rG (gx X) g))(ha:FB X E a fa)(hb:FB X E b fb)(hs:JW b):FE X E (.Subscript a b pos) (aD g fa fb):=
 bJ (aaG ho ha hb hs) λσ H Q hE=>xq5 hE λO0 M0 H0 ow m R q=>two R (K:=λz H=>∀v H',aL H H'->DV (gx X) (Ow O0 ow) H' v z->Q v H') q (λ_ _ k g v H' g' d=>k v H' (g.trans g') d) λx y d e H' g hx hy q' R'=>by
  obtain ⟨r,hr,k⟩:=q'.ofO;exact ⟨_,d,e,r,R'.mutk,hx,hy,hr,k⟩
theorem omap {α β:Type}{o:Option α}{f:α->β}{r:β}(h:o.map f=some r):∃a,o=some a/\f a=r:=by
 cases o with
 |none=>cases h
 |some a=>exact ⟨a,rfl,Option.some.inj h⟩
theorem pN {g:D->D->Option Bool}{op:CmpOp}(ho:OpR X (compareOp op) (rGB (gx X) g))(ha:FB X E a fa)(hb:FB X E b fb)(hm:behindInMarks op b=false):FE X E (.Compare a [op] [b] pos) (qG g fa fb):=
 bJ (UW ho ha hb hm) λσ H Q hE=>xq5 hE λO0 M0 H0 ow m R q=>two R (K:=λz H=>∀v H',aL H H'->DV (gx X) (Ow O0 ow) H' v z->Q v H') q (λ_ _ k g v H' g' d=>k v H' (g.trans g') d) λx y d e H' g hx hy q' R'=>by
  obtain ⟨r,hr,k⟩:=q'.ofO;obtain ⟨c,hc,rfl⟩:=omap hr;exact ⟨_,d,e,c,R'.mutk,hx,hy,hc,k _ _ (aL.refl _) (.bl c)⟩
theorem bQ {g:D->D->Option Bool}{op:CmpOp}(ho:OpR X (compareOp op) (rGB (gx X) g))(ha:FB X E a fa)(hb:FB X E b fb)(hm:behindInMarks op b=false):FT X E (.Compare a [op] [b] pos) (aU g fa fb):=
 Dm (U6 ho ha hb hm) λσ H Q hE=>xq5 hE λO0 M0 H0 ow m R q=>two R (K:=λz H=>∀H',aL H H'->Q z H') q (λ_ _ k g H' g'=>k H' (g.trans g')) λx y d e H' g hx hy q' R'=>by
  obtain ⟨c,hc,k⟩:=q'.ofO;exact ⟨_,d,e,c,R'.mutk,hx,hy,hc,c,rfl,k _ (aL.refl _)⟩
theorem Fv {g:D->Option D}{op:UnaryOp}(ho:UnR X (unaryOp op) (rG1 (gx X) g))(ha:FB X E a fa):FE X E (.UnaryOp op a pos) (fUn g fa):=
 bJ (aaH ho ha) λσ H Q hE=>xq5 hE λO0 M0 H0 ow m R q=>⟨O0,M0,H0,ow,m,R,q.bind.imp (aL.refl _) λd q x H1 g1 hx=>by
  obtain ⟨r,hr,k⟩:=q.ofO;exact ⟨_,d,r,(R.mono g1).mutk,hx,hr,λv H' g d=>k v H' (g1.trans g) d⟩⟩
def zM (g g':D->D->Option Bool)(fa fb fc:Me->Res D):Me->Res D:=λm=>(fa m).bind λx=>(fb m).bind λy=>(ofO (g x y)).bind λc=>if c then (fc m).bind λz=>ofO ((g' y z).map D.bl) else .ok (.bl false)
theorem S6 {r:R2}{g g':D->D->Option Bool}{β:Type}{w:Bool->β}{O0 M0:Zaa}{H0:Hp}{ow:Os}{m:Me}{σ:L2.St}{H:Hp}{Q:VK}{K:β->Hp->Prop}(R:Rel (gx X) O0 M0 H0 ow σ H m)
  (h:Pu (gx X) E ((fa m).bind λx=>(fb m).bind λy=>(ofO (g x y)).bind λc=>if c then (fc m).bind λz=>ofO ((g' y z).map w) else .ok (w false)) H λz=>K z H) (hm:∀z H',K z H->aL H H'->K z H') (kq:∀z H',K (w z) H'->Q (.bl z) H'):
  RZ (rGB (gx X) g) (rGB (gx X) g') (tB (gx X) E fa) (tB (gx X) E fb) (tB (gx X) E fc) σ H Q:=by
 refine ⟨O0,M0,H0,ow,m,R,h.bind.imp (aL.refl _) λd q x H1 g1 hx=>⟨O0,M0,H0,ow,m,R.mono g1,q.bind.imp g1 λe q2 y H2 g2 hy=>?_⟩⟩;obtain ⟨c,hc,q3⟩:=q2.bind.ofO;have G2:=g1.trans g2;refine ⟨_,d,e,c,(R.mono G2).mutk,hx.mono g2,hy,hc,c,rfl,?_⟩;cases c with
 |true=>
  rw [if_pos rfl] at q3 ⊢;refine ⟨O0,M0,H0,ow,m,R.mono G2,q3.bind.imp G2 λz q4 u H3 g3 hu=>?_⟩;obtain ⟨r',hr,k⟩:=q4.ofO;obtain ⟨c',hc',rfl⟩:=omap hr;exact ⟨_,e,z,c',(R.mono (G2.trans g3)).mutk,hy.mono g3,hu,hc',kq c' H3 (hm _ _ k (G2.trans g3))⟩
 |false=>
  rw [if_neg Bool.false_ne_true] at q3 ⊢;exact kq _ _ (hm _ _ q3 G2)
theorem Gd {g g':D->D->Option Bool}{op op':CmpOp}(ho:OpR X (compareOp op) (rGB (gx X) g))(ho':OpR X (compareOp op') (rGB (gx X) g'))(ha:FB X E a fa)(hb:FB X E b fb)(hc:FB X E c fc)(hm:lastMarks [op,op'] [b,c]=false:=by with_unfolding_all rfl):
  FE X E (.Compare a [op,op'] [b,c] pos) (zM g g' fa fb fc):=bJ (SQ ho ho' ha hb hc hm) λσ H Q hE=>xq5 hE λO0 M0 H0 ow m R q=>
 S6 (w:=D.bl) (r:=rGB (gx X) g) R (K:=λz H=>∀v H',aL H H'->DV (gx X) (Ow O0 ow) H' v z->Q v H') q (λ_ _ k g v H' g' d=>k v H' (g.trans g') d) λz H' k=>k _ _ (aL.refl _) (.bl z)
def fTv (fa:Me->Res D):Me->Res Bool:=λm=>(fa m).bind λx=>match x with
 | .bl b=>.ok b
 |_=>.stuck
theorem dN (h:FE X E e f)(he:∀whole,isTrue e X.env whole=(do let v ← whole;standAt e.pos;holding [v] (truthy v)):=by intro _;rfl):FT X E e (fTv f):=
 Dm (Xe h he) λσ H Q hE=>xq5 hE λO0 M0 H0 ow m R q=>⟨O0,M0,H0,ow,m,R,q.bind.imp (aL.refl _) λd q v H' g hv=>by
  cases d with
  |bl b=>cases hv;exact ⟨b,rfl,q H' g⟩
  |_=>exact q.elim⟩
def cJ (ft:Me->Res Bool):Me->Res Bool:=λm=>(ft m).bind λc=>.ok (!c)
def sS (ft fu:Me->Res Bool):Me->Res Bool:=λm=>(ft m).bind λc=>if c then fu m else .ok false
def gP (ft fu:Me->Res Bool):Me->Res Bool:=λm=>(ft m).bind λc=>if c then .ok true else fu m
theorem eX (h:FT X E a ft):FT X E (.UnaryOp .Not a pos) (cJ ft):=Dm (Xx h) λσ H Q hE=>xq5 hE λO0 M0 H0 ow m R q=>⟨O0,M0,H0,ow,m,R,q.bind.imp (aL.refl _) λb q H' g=>q H' g⟩
theorem Lf (h:FT X E a ft):FW X E (.BoolOp .And [a] pos) ft:=Tz h
theorem jM (h:FT X E a ft):FW X E (.BoolOp .Or [a] pos) ft:=XQ h
theorem R7 (ha:FT X E a ft)(hb:FW X E (.BoolOp .And (b::es) pos) fu):FW X E (.BoolOp .And (a::b::es) pos) (sS ft fu):=
 JS (YZ ha hb) λσ H Q hE=>xq5 hE λO0 M0 H0 ow m R q=>⟨O0,M0,H0,ow,m,R,q.bind.imp (aL.refl _) λb q H' g=>by
  cases b with
  |true=>rw [if_pos rfl] at q ⊢;exact ⟨O0,M0,H0,ow,m,R.mono g,q.imp g λ_ k H1 g1=>k H1 (g.trans g1)⟩
  |false=>rw [if_neg Bool.false_ne_true] at q ⊢;exact q H' g⟩
theorem lA (ha:FT X E a ft)(hb:FW X E (.BoolOp .Or (b::es) pos) fu):FW X E (.BoolOp .Or (a::b::es) pos) (gP ft fu):=
 JS (aal ha hb) λσ H Q hE=>xq5 hE λO0 M0 H0 ow m R q=>⟨O0,M0,H0,ow,m,R,q.bind.imp (aL.refl _) λb q H' g=>by
  cases b with
  |false=>rw [if_neg Bool.false_ne_true] at q ⊢;exact ⟨O0,M0,H0,ow,m,R.mono g,q.imp g λ_ k H1 g1=>k H1 (g.trans g1)⟩
  |true=>rw [if_pos rfl] at q ⊢;exact q H' g⟩
theorem uv (h:FW X E e ft):FT X E e ft:=L2.PW.pt h
def Uh (fa:Me->Res D):Me->Res D:=λm=>(fTv fa m).bind λc=>.ok (.bl !c)
def vH (fa fb:Me->Res D):Me->Res D:=λm=>(fTv fa m).bind λc=>if c then fb m else .ok (.bl false)
theorem QF {G:Gx}{O:Zaa}{m:Me}{H:Hp}{k:Bool->Prop}(h:Pu G E (fTv fa m) H k):Pu G E (fa m) H λd=>∃b,d=.bl b/\k b:=by
 refine h.bind.imp (aL.refl _) λd q=>?_;cases d with
 |bl b=>exact ⟨b,rfl,q⟩
 |_=>exact q.elim
theorem ud {op}(h:FE X E a fa):FE X E (.BoolOp op [a] pos) fa:=Ye h
theorem uc (ha:FE X E a fa)(hb:FE X E (.BoolOp .And (b::es) pos) fb):FE X E (.BoolOp .And (a::b::es) pos) (vH fa fb):=
 bJ (YF ha hb) λσ H Q hE=>xq5 hE λO0 M0 H0 ow m R q=>⟨O0,M0,H0,ow,m,R,(QF (O:=O0) q.bind).imp (aL.refl _) λd ⟨b,e,q⟩ v H' g hv=>by
  subst e;cases hv;refine ⟨b,rfl,?_⟩;cases b with
  |true=>rw [if_pos rfl] at q ⊢;exact ⟨O0,M0,H0,ow,m,R.mono g,q.imp g λ_ k v H1 g1=>k v H1 (g.trans g1)⟩
  |false=>rw [if_neg Bool.false_ne_true] at q ⊢;exact q _ H' g (.bl false)⟩
theorem R8 (ha:FE X E a fa):FE X E (.UnaryOp .Not a pos) (Uh fa):=
 bJ (XR ha) λσ H Q hE=>xq5 hE λO0 M0 H0 ow m R q=>⟨O0,M0,H0,ow,m,R,(QF (O:=O0) q.bind).imp (aL.refl _) λd ⟨b,e,q⟩ v H' g hv=>by
  subst e;cases hv;exact ⟨b,rfl,q _ H' g (.bl _)⟩⟩
def fIf (ft:Me->Res Bool)(fa fb:Me->Res D):Me->Res D:=λm=>(ft m).bind λc=>if c then fa m else fb m
theorem Fp (hc:FT X E c ft)(ha:FE X E a fa)(hb:FE X E b fb):FE X E (.IfExp c a b pos) (fIf ft fa fb):=
 bJ (QZ hc ha hb) λσ H Q hE=>xq5 hE λO0 M0 H0 ow m R q=>⟨O0,M0,H0,ow,m,R,q.bind.imp (aL.refl _) λb q H' g=>by
  cases b with
  |false=>rw [if_neg Bool.false_ne_true] at q ⊢;exact ⟨O0,M0,H0,ow,m,R.mono g,q.imp g λ_ k v H1 g1=>k v H1 (g.trans g1)⟩
  |true=>rw [if_pos rfl] at q ⊢;exact ⟨O0,M0,H0,ow,m,R.mono g,q.imp g λ_ k v H1 g1=>k v H1 (g.trans g1)⟩⟩
def az:Me->Res (List D):=λ_=>.ok []
def aj (fa:Me->Res D)(fs:Me->Res (List D)):Me->Res (List D):=λm=>(fa m).bind λx=>(fs m).bind λxs=>.ok (x::xs)
theorem aB:FAE X E [] az:=xx wC λσ H Q hE=>xq5 hE λO0 M0 H0 ow m R q=>q [] H (aL.refl _) .nil
theorem aO:FAB X E [] az:=xx wC λσ H Q hE=>xq5 hE λO0 M0 H0 ow m R q=>q [] H (aL.refl _) .nil
theorem ak (ha:FE X E e fa)(hr:FAE X E es fs)(hs:starEach (e::es) X.env=(false,eval e X.env)::starEach es X.env:=by rfl):FAE X E (e::es) (aj fa fs):=
 xx (pQ ha hr hs) λσ H Q hE=>xq5 hE λO0 M0 H0 ow m R q=>⟨O0,M0,H0,ow,m,R,q.bind.imp (aL.refl _) λd q v H1 g1 hv=>⟨O0,M0,H0,ow,m,R.mono g1,q.bind.imp g1 λds q vs H2 g2 hvs=>q _ H2 (g1.trans g2) (.cons (hv.mono g2) hvs)⟩⟩
theorem aK (ha:FB X E e fa)(hr:FAB X E es fs)(hs:starEach (e::es) X.env=(false,eval e X.env)::starEach es X.env:=by rfl):FAB X E (e::es) (aj fa fs):=
 xx (pQ ha hr hs) λσ H Q hE=>xq5 hE λO0 M0 H0 ow m R q=>⟨O0,M0,H0,ow,m,R,q.bind.imp (aL.refl _) λd q v H1 g1 hv=>⟨O0,M0,H0,ow,m,R.mono g1,q.bind.imp g1 λds q vs H2 g2 hvs=>q _ H2 (g1.trans g2) (.cons (hv.mono g2) hvs)⟩⟩
def aQ (fs:Me->Res (List D)):Me->Res D:=λm=>(fs m).bind λds=>if ds.length<=sizeLine then .ok (.tup ds) else .stuck
def fO (fs:Me->Res (List D)):Me->Res D:=λm=>(fs m).bind λds=>if ds.length<=sizeLine then .ok (.lst ds) else .stuck
theorem Av {G:Gx}{α:Type}{c:Prop}[Decidable c]{r:α}{H:Hp}{k:α->Prop}(h:Pu G E (if c then .ok r else .stuck) H k):c/\k r:=by
 by_cases z:c
 ·rw [if_pos z] at h;exact ⟨z,h⟩
 ·rw [if_neg z] at h;exact h.elim
theorem bG {x1}(h:FAE X E es fs):FE X E (.Tuple es x1 pos) (aQ fs):=bJ (VM h) λσ H Q hE=>xq5 hE λO0 M0 H0 ow m R q=>⟨O0,M0,H0,ow,m,R,q.bind.imp (aL.refl _) λds q vs H1 g1 hv=>by
 obtain ⟨hz,k⟩:=Av q;exact ⟨by rw [cg hv];exact hz,λp H' g e=>k _ H' (g1.trans g) (.tup (SqU.of e) (hv.mono g))⟩⟩
theorem gj (h:FAE X E es fs):FN X E (.List es pos) (fO fs):=bJ (Zb (WL h)) λσ H Q hE=>xq5 hE λO0 M0 H0 ow m R q=>⟨λvs H1=>aL H H1/\∃ds,DVs (gx X) (Ow O0 ow) H1 vs ds/\ds.length<=sizeLine/\∀p H',aL H H'->H p=none->OV (gx X) (Op (Ow O0 ow) p) H' p (.lst ds)->Q (.ref p) H',⟨O0,M0,H0,ow,m,R,q.bind.imp (aL.refl _) λds q vs H1 g1 hv=>⟨g1,ds,hv,Av q⟩⟩,λvs H1 ⟨g1,ds,hv,hz,k⟩=>
 ⟨by rw [cg hv];exact hz,λp hp=>k p _ (g1.trans (bD hp _)) (g1.free hp) ⟨vs,aV,(hv.cI λb z=>z.elim .inl λe=>.inr (by rw [e];exact hp)).mono (bD hp _)⟩⟩⟩
def aX (g:List D->Option D)(fs:Me->Res (List D)):Me->Res D:=λm=>(fs m).bind λds=>ofO (g ds)
theorem Mi {g:List D->Option D}{σ:L2.St}{H:Hp}{Q:VK}(h:tE (gx X) E (aX g fs) σ H Q):tCB (rGC (gx X) g) (tAB (gx X) E fs) σ H Q:=by
 obtain ⟨O0,M0,H0,ow,m,R,q⟩:=h;refine ⟨O0,M0,H0,ow,m,R,q.bind.imp (aL.refl _) λds q vs H1 g1 hv=>?_⟩;obtain ⟨r,hr,k⟩:=q.ofO;exact ⟨_,ds,r,(R.mono g1).mutk,hv,hr,λv H' g d=>k v H' (g1.trans g) d⟩
theorem QK {g:List D->Option D}{σ:L2.St}{H:Hp}{Q:VK}(h:tN (gx X) E (aX g fs) σ H Q):tCB (V6 (gx X) g) (tAB (gx X) E fs) σ H Q:=by
 obtain ⟨O0,M0,H0,ow,m,R,q⟩:=h;refine ⟨O0,M0,H0,ow,m,R,q.bind.imp (aL.refl _) λds q vs H1 g1 hv=>?_⟩;obtain ⟨r,hr,k⟩:=q.ofO;exact ⟨_,ds,r,(R.mono g1).mutk,hv,hr,λp H' g n d=>k p H' (g1.trans g) (g1.free n) d⟩
section
variable {x:Str}{p:Pos}{id T:String}{g:List D->Option D}
theorem b8 (hc:gG X (.builtin id) (rGC (gx X) g))(hg:Gl X x)(hm:X.mg x=none)(hv:bootBuiltins x=some (.builtin id))(ha:FAB X E (e::es) fs)(hn:x≠"__name__":=by decide)(hdb:(x == ("__debug__" : Str))=false:=by decide)
  (he:starEach (e::es) X.env=(false,eval e X.env)::starEach es X.env:=by rfl) (hpl:(backTo pos (starEach es X.env)).any (·.1)=false:=by rfl):FE X E (.Call (.Name x p) (e::es) [] pos) (aX g fs):=
 bJ (FP hc hg hm hv ha hn hdb he hpl) λ_ _ _ h=>Mi h
theorem cQ (hc:gG X (.type T) (rGC (gx X) g))(hg:Gl X x)(hm:X.mg x=none)(hv:bootBuiltins x=some (.type T))(ha:FAB X E (e::es) fs)(hn:x≠"__name__":=by decide)(hdb:(x == ("__debug__" : Str))=false:=by decide)
  (he:starEach (e::es) X.env=(false,eval e X.env)::starEach es X.env:=by rfl) (hpl:(backTo pos (starEach es X.env)).any (·.1)=false:=by rfl):FE X E (.Call (.Name x p) (e::es) [] pos) (aX g fs):=
 bJ (vK hc hg hm hv ha hn hdb he hpl) λ_ _ _ h=>Mi h
theorem By (hc:gG X (.type T) (V6 (gx X) g))(hg:Gl X x)(hm:X.mg x=none)(hv:bootBuiltins x=some (.type T))(ha:FAB X E (e::es) fs)(hn:x≠"__name__":=by decide)(hdb:(x == ("__debug__" : Str))=false:=by decide)
  (he:starEach (e::es) X.env=(false,eval e X.env)::starEach es X.env:=by rfl) (hpl:(backTo pos (starEach es X.env)).any (·.1)=false:=by rfl):FN X E (.Call (.Name x p) (e::es) [] pos) (aX g fs):=
 bJ (vK hc hg hm hv ha hn hdb he hpl) λ_ _ _ h=>QK h
end
def tyD:String->D->Bool
 | "str",.str _=>true
 | "list",.lst _=>true
 | "dict",.dct _ _=>true
 | "dict",.dcu _ _=>true
 |_,_=>false
theorem aaB {G:Gx}{O:Zaa}{H:Hp}{v:V}{d:D}{T:String}(h:DW G O H v d)(t:tyD T d=true):tyV G.K T v H:=by
 unfold tyD at t;split at t
 ·cases du h;rfl
 ·obtain ⟨a,xs,rfl,hx,_⟩:=gM h;exact .inl ⟨rfl,xs,hx⟩
 ·obtain ⟨a,kvs,vs,rfl,hx,_⟩:=wB h;exact .inr (.inr (.inl ⟨rfl,.inl ⟨kvs,hx⟩⟩))
 ·obtain ⟨a,kvs,vs,rfl,hx,_⟩:=Qg h;exact .inr (.inr (.inl ⟨rfl,.inr ⟨_,kvs,.inl hx⟩⟩))
 ·cases t
def iI (T:String)(g:D->List D->Option D)(fo:Me->Res D)(fs:Me->Res (List D)):Me->Res D:=λm=>(fo m).bind λd=>if tyD T d=true then (fs m).bind λds=>ofO (g d ds) else .stuck
theorem xU {G:Gx}{α:Type}{c:Prop}[Decidable c]{r:Res α}{H:Hp}{k:α->Prop}(h:Pu G E (if c then r else .stuck) H k):c/\Pu G E r H k:=by
 by_cases z:c
 ·rw [if_pos z] at h;exact ⟨z,h⟩
 ·rw [if_neg z] at h;exact h.elim
section
variable {o:Expr}{name:Str}{apos cpos:Pos}{T id:String}{g:D->List D->Option D}
theorem wQ (pa:PlainAttrs T)(slot:Slot T name id)(hty:typeOf (.builtin id)=pure (.type "method_descriptor"))(hm:MtR X id (rGM (gx X) g))(ho:FB X E o fa)(ha:FAB X E (e::es) fs)
  (hbase:attributeBase o name X.env (eval o X.env)=eval o X.env:=by rfl)
  (hfew:((backTo cpos (starEach (e::es) X.env)).all (λx=>!x.1) && (backToKw cpos (keywordEach [] X.env)).all (λx=>x.1.isSome)
   && decide ((e::es).length+([]:List Keyword).length+(if ([]:List Keyword).isEmpty then 0 else 1)<30))=true:=by rfl)
  (hline:(apos.endLine == cpos.line)=true:=by rfl) (hs:starEach (e::es) X.env=(false,eval e X.env)::starEach es X.env:=by rfl) (hplain:(backTo cpos (starEach es X.env)).any (·.1)=false:=by rfl):
  FE X E (.Call (.Attribute o name apos) (e::es) [] cpos) (iI T g fa fs):=
 bJ (Rx pa slot hty hm ho ha hbase hfew hline hs hplain) λσ H Q hE=>xq5 hE λO0 M0 H0 ow m R q=>⟨O0,M0,H0,ow,m,R,q.bind.imp (aL.refl _) λd q v H1 g1 hv=>by
  obtain ⟨t,q⟩:=xU q;refine ⟨aaB hv t,O0,M0,H0,ow,m,R.mono g1,q.bind.imp g1 λds q vs H2 g2 hvs=>?_⟩;obtain ⟨r,hr,k⟩:=q.ofO;exact ⟨_,d,ds,r,(R.mono (g1.trans g2)).mutk,hv.mono g2,hvs,hr,λv H' g d=>k v H' ((g1.trans g2).trans g) d⟩⟩
end
end
inductive Fl where
 |nx | bk | ct | rt (fr:Bool) (d:D)
abbrev Zba:=D->Me->Option Me
abbrev Zaf:=Me->Res Bool
abbrev Zae:=Me->Res D
abbrev Zad:=Me->Res (List D)
abbrev Zac:=List D->Res (Bool×D)
abbrev Zab:=Me->Res (Fl×Me)
mutual
def Wq:D->Bool
 | .non | .bl _ | .int _ | .str _=>true
 | .tup ds=>HX ds
 |_=>false
def HX:List D->Bool
 |[]=>true
 |d::ds=>Wq d && HX ds
end
section
variable {G:Gx}{O O':Zaa}{H:Hp}
end
inductive Nr (G:Gx)(H0 H':Hp):List Addr->List V->List D->Prop where
 |nil:Nr G H0 H' [] [] []
 |flat {v:V} {d:D} {vs:List V} {ds:List D} {qs:List Addr}:DV G (λ_=>False) H' v d->Wq d=true->Nr G H0 H' qs vs ds->Nr G H0 H' qs (v::vs) (d::ds)
 |new {q:Addr} {xs:List V} {es:List D} {vs:List V} {ds:List D} {qs:List Addr}:H0 q=none->H' q=some (.lst xs)->DVs G (λ_=>False) H' xs es->HX es=true->q∉qs->Nr G H0 H' qs vs ds->Nr G H0 H' (q::qs) (.ref q::vs) (.lst es::ds)
def Fr (G:Gx)(O:Zaa)(H0:Hp)(v:V)(H':Hp)(d:D):Prop:=(∃p,v=.ref p/\H0 p=none/\OV G (Op O p) H' p d)\/∃p xs ds qs,d=.tup ds/\v=.ref p/\SqU G.K H' p xs/\Nr G H0 H' qs xs ds
def isTup:D->Bool
 | .tup _=>true
 |_=>false
theorem Fr.lst {G:Gx}{O:Zaa}{H0 H':Hp}{v:V}{d:D}(h:Fr G O H0 v H' d)(ht:isTup d=false):∃p,v=.ref p/\H0 p=none/\OV G (Op O p) H' p d:=by
 rcases h with h | ⟨p,xs,ds,qs,e,_⟩
 ·exact h
 ·rw [e] at ht;cases ht
def Ss (G:Gx)(E:XK)(O0 M0:Zaa)(H0:Hp)(ow:Os)(H:Hp)(W:Ends)(r:Res (Fl×Me)):Prop:=match r with
 | .ok (.nx,m')=>∀ow' σ' H',dW G O0 M0 H0 ow' σ' H' m'->Go O0 ow H ow' H'->W.nx σ' H'
 | .ok (.bk,m')=>∀ow' σ' H',dW G O0 M0 H0 ow' σ' H' m'->Go O0 ow H ow' H'->W.bk σ' H'
 | .ok (.ct,m')=>∀ow' σ' H',dW G O0 M0 H0 ow' σ' H' m'->Go O0 ow H ow' H'->W.ct σ' H'
 | .ok (.rt fr d,m')=>∀v ow' σ' H',dW G O0 M0 H0 ow' σ' H' m'->Go O0 ow H ow' H'->DV G (Ow O0 ow') H' v d->(fr=true->Fr G (Ow O0 ow') H0 v H' d)->W.rt v H'
 | .exc c=>∀C H',G.mg c=some (.ref C)->Kp M0 H0 H'->E (.ref C) none H'
 | .stuck=>False
def tS (G:Gx)(E:XK)(g:Zab):TS:=λW σ H=>∃O0 M0 H0 ow m,dW G O0 M0 H0 ow σ H m/\Ss G E O0 M0 H0 ow H W (g m)
abbrev FS (X:Cx)(E:XK)(st:Stmt)(g:Zab):Prop:=PS X st (tS (gx X) E g)
abbrev FSs (X:Cx)(E:XK)(st:List Stmt)(g:Zab):Prop:=PSs X st (tS (gx X) E g)
theorem eQ {X:Cx}{st:Stmt}{T T':TS}(h:PS X st T)(k:∀W σ H,T' W σ H->T W σ H):PS X st T':=λpins s σ H W I q=>h pins s σ H W I (k W σ H q)
theorem zc {X:Cx}{st:List Stmt}{T T':TS}(h:PSs X st T)(k:∀W σ H,T' W σ H->T W σ H):PSs X st T':=λpins s σ H W I q=>h pins s σ H W I (k W σ H q)
section
variable {G:Gx}{E:XK}{O0 M0:Zaa}{H0 H H':Hp}{ow ow':Os}{σ:L2.St}{m:Me}{W:Ends}{r:Res (Fl×Me)}
theorem Ss.pu {α:Type}{x:Res α}{k:α->Res (Fl×Me)}(R:Rel G O0 M0 H0 ow σ H m)(h:Ss G E O0 M0 H0 ow H W (x.bind k)):Pu G E x H λa=>Ss G E O0 M0 H0 ow H W (k a):=by
 cases x with
 |ok a=>exact h
 |exc c=>exact λC H' e g=>h C H' e λb o e n=>g b o (R.keep b o e n)
 |stuck=>exact h
theorem Ss.go (h:Ss G E O0 M0 H0 ow H W r)(g:Go O0 ow H ow' H'):Ss G E O0 M0 H0 ow' H' W r:=by
 cases r with
 |ok a=>
  obtain ⟨f,m'⟩:=a;cases f with
  |nx=>exact λow1 σ1 H1 R g1=>h ow1 σ1 H1 R (g.trans g1)
  |bk=>exact λow1 σ1 H1 R g1=>h ow1 σ1 H1 R (g.trans g1)
  |ct=>exact λow1 σ1 H1 R g1=>h ow1 σ1 H1 R (g.trans g1)
  |rt fr d=>exact λv ow1 σ1 H1 R g1=>h v ow1 σ1 H1 R (g.trans g1)
 |exc c=>exact h
 |stuck=>exact h
theorem Ss.ofO {α:Type}{x:Option α}{k:α->Res (Fl×Me)}(h:Ss G E O0 M0 H0 ow H W ((ofO x).bind k)):∃a,x=some a/\Ss G E O0 M0 H0 ow H W (k a):=by
 cases x with
 |some a=>exact ⟨a,rfl,h⟩
 |none=>exact h.elim
end
def gNx:Zab:=λm=>.ok (.nx,m)
def aM (g k:Zab):Zab:=λm=>match g m with
 | .ok (.nx,m')=>k m'
 |r=>r
def bf (i:Nat)(f:Zae):Zab:=λm=>(f m).bind λd=>.ok (.nx,m.set i (.fz d))
def iZ (i:Nat)(f:Zae):Zab:=λm=>(f m).bind λd=>if i<m.length then .ok (.nx,m.set i (.ow d)) else .stuck
def gEx (f:Zae):Zab:=λm=>(f m).bind λ_=>.ok (.nx,m)
def bz (f:Zae):Zab:=λm=>(f m.let).bind λd=>.ok (.rt false d,m.let)
def iD (f:Zae):Zab:=λm=>(f m.let).bind λd=>.ok (.rt true d,m.let)
def sG (i:Nat):Zab:=λm=>match m[i]? with
 |some (.ow d)=>.ok (.rt true d,m.let)
 |some (.fz d)=>.ok (.rt false d,m.let)
 |_=>.stuck
def gIf (t:Zaf)(g k:Zab):Zab:=λm=>(t m).bind λc=>if c then g m else k m
def Vm (i:Nat)(k:Zab):Zab:=λm=>match m[i]? with
 |some (.ow d)=>k (m.set i (.fz d))
 |_=>k m
section
variable {X:Cx}{E:XK}{e c:Expr}{es:List Expr}{st:Stmt}{rest sa sb:List Stmt}{f:Zae}{ft:Zaf}{g k ga gb:Zab}{pos pos':Pos}{i:Nat}{x:Str}
theorem bL:FSs X E [] gNx:=zc Th λW σ H hE=>xq5 hE λO0 M0 H0 ow m R q=>q ow σ H R (Go.refl (aL.refl _))
theorem XF {G:Gx}{W:Ends}{σ:L2.St}{H:Hp}(h:tS G E (aM g k) W σ H):Z4 (tS G E g) (tS G E k) W σ H:=by
 obtain ⟨O0,M0,H0,ow,m,R,q⟩:=h;refine ⟨O0,M0,H0,ow,m,R,?_⟩;unfold aM at q;cases z:g m with
 |ok a=>
  obtain ⟨f,m'⟩:=a;rw [z] at q;cases f with
  |nx=>exact λow' σ' H' R' g'=>⟨O0,M0,H0,ow',m',R',Ss.go q g'⟩
  |bk=>exact q
  |ct=>exact q
  |rt fr d=>exact q
 |exc c=>rw [z] at q;exact q
 |stuck=>rw [z] at q;exact q
theorem aC (h1:FS X E st g)(h2:FSs X E rest k):FSs X E (st::rest) (aM g k):=zc (O7 h1 h2) λW σ H h=>XF h
theorem aF (h1:FS X E st g):FSs X E [st] g:=Tw h1
theorem Ur (i:Nat)(h:FSs X E rest k):FSs X E rest (Vm i k):=zc h λW σ H hE=>xq5 hE λO0 M0 H0 ow m R q=>by
 unfold Vm at q;cases z:m[i]? with
 |none=>rw [z] at q;exact ⟨O0,M0,H0,ow,m,R,q⟩
 |some s=>
  rw [z] at q;cases s with
  |ow d=>
   obtain ⟨a,h1,h2,h3,h4⟩:=R.slot i _ z;have na:¬Ow O0 (owS ow i none) a:=λw=>by
    rcases w with w | ⟨j,w⟩
    ·exact R.no0 i a h1 w
    ·by_cases e:j=i
     ·subst e;rw [cZ] at w;cases w
     ·rw [cO e] at w;exact e (R.inj j i a w h1)
   have sub:∀b,Ow O0 (owS ow i none) b->Ow O0 ow b\/H b=none:=λb z=>.inl z.sub;have hi:=xZ z;have R2:dW (gx X) O0 M0 H0 (owS ow i none) σ H (m.set i (.fz d)):=by
    refine ⟨⟨by simp [R.len],R.keep,R.m0,λb z=>R.mutk b z.sub,λj b e=>?_,λj k b e1 e2=>?_,λj hj=>?_,λj s e=>?_⟩,vM R.nb λ_ z=>by cases z⟩
    ·by_cases q:j=i
     ·subst q;rw [cZ] at e;cases e
     ·rw [cO q] at e;exact R.no0 j b e
    ·by_cases q:j=i
     ·subst q;rw [cZ] at e1;cases e1
     ·by_cases q':k=i
      ·subst q';rw [cZ] at e2;cases e2
      ·rw [cO q] at e1;rw [cO q'] at e2;exact R.inj j k b e1 e2
    ·by_cases q:j=i
     ·subst q;exact cZ
     ·rw [cO q];exact R.out j (by simpa using hj)
    ·by_cases q:j=i
     ·subst q;rw [List.getElem?_set_self hi] at e;cases e;rw [cZ];exact ⟨rfl,.ref a,h3,(h4.cI sub).dv na⟩
     ·rw [List.getElem?_set_ne (Ne.symm q)] at e;rw [cO q];exact (R.slot j s e).cI sub λ_ _ b _=>Classical.em _
   exact ⟨O0,M0,H0,_,_,R2,Ss.go q Go.set⟩
  |_=>exact ⟨O0,M0,H0,ow,m,R,q⟩
theorem Td {G:Gx}{W:Ends}{σ:L2.St}{H:Hp}(h:tS G E (bf i f) W σ H):Tv (tE G E f) (Ae i) W σ H:=by
 obtain ⟨O0,M0,H0,ow,m,R,q⟩:=h;refine ⟨O0,M0,H0,ow,m,R.toRel,(Ss.pu R.toRel q).imp (aL.refl _) λd q v H' g' hv=>?_⟩;exact q _ _ _ ((R.mono g').set hv) ((Go.refl g').trans Go.set)
theorem Yr {G:Gx}{W:Ends}{σ:L2.St}{H:Hp}(h:tS G E (iZ i f) W σ H):Tv (tN G E f) (Ae i) W σ H:=by
 obtain ⟨O0,M0,H0,ow,m,R,q⟩:=h;refine ⟨O0,M0,H0,ow,m,R.toRel,(Ss.pu R.toRel q).imp (aL.refl _) λd q p H' g' n hv=>?_⟩;by_cases hi:i<m.length
 ·rw [if_pos hi] at q;exact q _ _ _ (R.own g' n (R.toRel.WK n) hv hi) (Go.own g' n)
 ·rw [if_neg hi] at q;exact q.elim
theorem bC (hN:X.N.Nodup)(hi:X.N[i]? = some x)(hx:Loc X.env.scope x)(he:FE X E e f)(hs:swapsWith e (some (.Name x pos')) pos.line X.env=pure false:=by rfl)
  (hf:X.fn x=true\/X.env.scope.names.lookup x=some .local:=by first | exact .inl rfl | exact .inr rfl | assumption):FS X E (.Assign [.Name x pos'] e pos) (bf i f):=eQ (Jx hN hi hx he hs hf) λ_ _ _ h=>Td h
theorem iV (hN:X.N.Nodup)(hi:X.N[i]? = some x)(hx:Loc X.env.scope x)(he:FN X E e f)(hs:swapsWith e (some (.Name x pos')) pos.line X.env=pure false:=by rfl)
  (hf:X.fn x=true\/X.env.scope.names.lookup x=some .local:=by first | exact .inl rfl | exact .inr rfl | assumption):FS X E (.Assign [.Name x pos'] e pos) (iZ i f):=eQ (Jx hN hi hx he hs hf) λ_ _ _ h=>Yr h
theorem LQ (he:FE X E e f)(hs:swapsWith e none pos.line X.env=pure false:=by rfl):FS X E (.Expr e pos) (gEx f):=eQ (xu he hs) λW σ H hE=>xq5 hE λO0 M0 H0 ow m R q=>
 ⟨O0,M0,H0,ow,m,R.toRel,(Ss.pu R.toRel q).imp (aL.refl _) λd q v H' g' hv=>q _ _ _ (R.mono g') (Go.refl g')⟩
theorem bA (he:FE X E e f):FS X E (.Return (some e) pos) (bz f):=eQ (Il he) λW σ H hE=>xq5 hE λO0 M0 H0 ow m R q=>by
 obtain ⟨ow',R',g1⟩:=R.let;exact ⟨O0,M0,H0,ow',m.let,R'.toRel,(Ss.pu R'.toRel (Ss.go q g1)).imp (aL.refl _) λd q v H' g' hv=>q v ow' σ H' (R'.mono g') (Go.refl g') hv (λz=>by cases z)⟩
theorem lW (he:FN X E e f):FS X E (.Return (some e) pos) (iD f):=eQ (Il he) λW σ H hE=>xq5 hE λO0 M0 H0 ow m R q=>by
 obtain ⟨ow',R',g1⟩:=R.let;exact ⟨O0,M0,H0,ow',m.let,R'.toRel,(Ss.pu R'.toRel (Ss.go q g1)).imp (aL.refl _) λd q p H' g' n hv=>
  q _ ow' σ H' (R'.mono g') (Go.refl g') ((hv.cI λb z=>.inl (.inl z)).dv (R'.toRel.PB n)) λ_=>.inl ⟨p,rfl,R'.toRel.WK n,hv⟩⟩
theorem xr (i:Nat)(hN:X.N[i]? = some x:=by rfl)(hv:Vis X.env.scope x:=by first | exact Or.inl rfl | exact Or.inr (Or.inl rfl) | exact Or.inr (Or.inr rfl))(hd:(x == ("__debug__" : Str))=false:=by decide)
  (hcd:(x == ("__classdict__" : Str))=false:=by decide):FS X E (.Return (some (.Name x pos')) pos) (sG i):=eQ (Il (oh hN hv hd hcd)) λW σ H hE=>xq5 hE λO0 M0 H0 ow m R q=>by
 obtain ⟨ow',R',g1⟩:=R.let;unfold sG at q;cases z:m[i]? with
 |none=>rw [z] at q;exact q.elim
 |some s=>
  rw [z] at q;have zl:m.let[i]? = some s.let:=by unfold Me.let;rw [List.getElem?_map,z];rfl
  cases s with
  |fz d=>
   obtain ⟨_,v,e,hv⟩:=R'.slot i _ zl;exact ⟨v,e,q v ow' σ H R' g1 hv λz=>by cases z⟩
  |ow d=>
   obtain ⟨_,v,e,hv⟩:=R'.slot i _ zl;obtain ⟨a,h1,h2,h3,h4⟩:=R.slot i _ z;rw [h3] at e;cases e;refine ⟨_,h3,q _ ow' σ H R' g1 hv λ_=>.inl ⟨a,rfl,h2,h4.cI λb w=>.inl ?_⟩⟩;rcases w with w | w
   ·rcases w with w | ⟨j,w⟩
    ·exact .inl w
    ·rcases g1.new j b w with w' | w'
     ·exact w'
     ·have:=R'.mutk b (.inr ⟨j,w⟩)
      rw [w'] at this;rcases this with ⟨_,e⟩ | ⟨_,e⟩ | ⟨_,e⟩ | ⟨_,e⟩<;>cases e
   ·rw [w];exact .inr ⟨i,h1⟩
  |_=>exact q.elim
theorem dh (hc:FT X E c ft)(ha:FSs X E sa ga)(hb:FSs X E sb gb):FS X E (.If c sa sb pos) (gIf ft ga gb):=eQ (aao hc ha hb) λW σ H hE=>xq5 hE λO0 M0 H0 ow m R q=>
 ⟨O0,M0,H0,ow,m,R.toRel,(Ss.pu R.toRel q).imp (aL.refl _) λb q H' g'=>by
  cases b with
  |true=>rw [if_pos rfl] at q ⊢;exact ⟨O0,M0,H0,ow,m,R.mono g',Ss.go q (Go.refl g')⟩
  |false=>rw [if_neg Bool.false_ne_true] at q ⊢;exact ⟨O0,M0,H0,ow,m,R.mono g',Ss.go q (Go.refl g')⟩⟩
def wh (t:Zaf)(b:Zab):Nat->Me->Option (Res (Fl×Me))
 |0,_=>none
 |n+1,m=>match t m with
  | .ok true=>match b m with
   | .ok (.nx,m')=>wh t b n m'
   | .ok (.ct,m')=>wh t b n m'
   | .ok (.bk,m')=>some (.ok (.nx,m'))
   | .ok (.rt fr d,m')=>some (.ok (.rt fr d,m'))
   | .exc c=>some (.exc c)
   | .stuck=>some .stuck
  | .ok false=>some (.ok (.nx,m))
  | .exc c=>some (.exc c)
  | .stuck=>some .stuck
theorem KR {t:Zaf}{b:Zab}:∀{n:Nat} {m:Me} {r:Res (Fl×Me)},wh t b n m=some r->wh t b (n+1) m=some r
 |0,_,_,h=>by cases h
 |n+1,m,r,h=>by
  have ih:=@KR t b n;unfold wh at h ⊢;split
  ·rename_i e;rw [e] at h;split
   ·rename_i m' e2;rw [e2] at h;exact ih h
   ·rename_i m' e2;rw [e2] at h;exact ih h
   ·rename_i m' e2;rw [e2] at h;exact h
   ·rename_i fr d m' e2;rw [e2] at h;exact h
   ·rename_i c e2;rw [e2] at h;exact h
   ·rename_i e2;rw [e2] at h;exact h
  ·rename_i e;rw [e] at h;exact h
  ·rename_i e;rw [e] at h;exact h
  ·rename_i e;rw [e] at h;exact h
theorem Jh {t:Zaf}{b:Zab}{n:Nat}{m:Me}{r:Res (Fl×Me)}(h:wh t b n m=some r):∀k,wh t b (n+k) m=some r
 |0=>h
 |k+1=>KR (Jh h k)
open Classical in
def oG (t:Zaf)(b:Zab):Zab:=λm=>
 if h:∃n r,wh t b n m=some r then Classical.choose (Classical.choose_spec h) else .stuck
theorem Mu {t:Zaf}{b:Zab}{m:Me}(h:oG t b m≠.stuck):∃n,wh t b n m=some (oG t b m):=by
 unfold oG at h ⊢;split at h
 ·rename_i q;rw [dif_pos q];exact ⟨_,Classical.choose_spec (Classical.choose_spec q)⟩
 ·exact absurd rfl h
theorem wg {t:Zaf}{b:Zab}{m:Me}{r:Res (Fl×Me)}(n:Nat)(h:wh t b n m=some r):oG t b m=r:=by
 unfold oG;have q:∃n r,wh t b n m=some r:=⟨n,r,h⟩;rw [dif_pos q];have z:=Classical.choose_spec (Classical.choose_spec q);have a:=Jh z n;have b':=Jh h (Classical.choose q);rw [Nat.add_comm] at b';rw [a] at b';exact Option.some.inj b'
theorem yg {body:List Stmt}(hp:PassesOwn (model X.prog X.w) X.A X.env X.xe)(hc:FT X E c ft)(hb:FSs X E body g):FS X E (.While c body [] pos) (oG ft g):=eQ (RQ hp hc hb) λW σ H hE=>xq5 hE λO0 M0 H0 ow m R q=>by
 obtain ⟨n,hn⟩:=Mu (t:=ft) (b:=g) (m:=m) (λz=>by rw [z] at q;exact q);generalize oG ft g m=r at *;refine ⟨λn σ' H'=>∃ow' m',dW (gx X) O0 M0 H0 ow' σ' H' m'/\Go O0 ow H ow' H'/\wh ft g n m'=some r,⟨n,ow,m,R,Go.refl (aL.refl _),hn⟩,?_⟩;rintro n σ1 H1 ⟨ow1,m1,R1,g1,h1⟩;cases n with
 |zero=>cases h1
 |succ n=>
  refine ⟨O0,M0,H0,ow1,m1,R1.toRel,?_⟩;unfold wh at h1;cases e:ft m1 with
  |exc c=>
   rw [e] at h1;cases h1;exact λC H' e g'=>q C H' e λb o e n=>g' b o (R1.keep b o e n)
  |stuck=>rw [e] at h1;cases h1;exact q.elim
  |ok t=>
   rw [e] at h1;intro H2 g2;have R2:=R1.mono g2;have G2:=g1.trans (Go.refl g2);cases t with
   |false=>
    cases h1;rw [if_neg Bool.false_ne_true];exact q _ _ _ R2 G2
   |true=>
    rw [if_pos rfl];have h1:(match g m1 with
     | .ok (.nx,m')=>wh ft g n m'
     | .ok (.ct,m')=>wh ft g n m'
     | .ok (.bk,m')=>some (.ok (.nx,m'))
     | .ok (.rt fr d,m')=>some (.ok (.rt fr d,m'))
     | .exc c=>some (.exc c)
     | .stuck=>some .stuck)=some r:=h1
    refine ⟨λσ' H'=>∃ow' m',dW (gx X) O0 M0 H0 ow' σ' H' m'/\Go O0 ow H ow' H'/\wh ft g n m'=some r,λσ' H' z=>⟨n,Nat.lt_succ_self _,z⟩,O0,M0,H0,ow1,m1,R2,?_⟩;cases e2:g m1 with
    |exc c=>rw [e2] at h1;cases h1;exact q
    |stuck=>rw [e2] at h1;cases h1;exact q
    |ok a=>
     obtain ⟨f2,m2⟩:=a;rw [e2] at h1;cases f2 with
     |nx=>exact λow' σ' H' R' g'=>⟨ow',m2,R',G2.trans g',h1⟩
     |ct=>exact λow' σ' H' R' g'=>⟨ow',m2,R',G2.trans g',h1⟩
     |bk=>cases h1;exact λow' σ' H' R' g'=>q ow' σ' H' R' (G2.trans g')
     |rt fr d=>cases h1;exact λv ow' σ' H' R' g'=>q v ow' σ' H' R' (G2.trans g')
end
def NbP (m m':Me):Prop:=(∀(j:Nat) (d:D),m[j]?≠some (Sl.bw d))->∀(j:Nat) (d:D),m'[j]?≠some (Sl.bw d)
def tG (G:Gx)(k:Nat)(h:Zba):TG:=λv σ H Q=>∃O0 M0 H0 ow m d m',Rel G O0 M0 H0 ow σ H m/\DV G (Ow O0 ow) H v d/\h d m=some m'/\
 ∀ow' σ',Rel G O0 M0 H0 ow' σ' H m'->Go O0 ow H ow' H->NbP m m'->σ'.drop k=σ.drop k->Q σ' H
def tGs (G:Gx)(k:Nat)(h:List D->Me->Option Me):TGs:=λvs σ H Q=>∃O0 M0 H0 ow m ds m',Rel G O0 M0 H0 ow σ H m/\DVs G (Ow O0 ow) H vs ds/\h ds m=some m'/\
 ∀ow' σ',Rel G O0 M0 H0 ow' σ' H m'->Go O0 ow H ow' H->NbP m m'->σ'.drop k=σ.drop k->Q σ' H
abbrev FG (X:Cx)(k:Nat)(tg:Expr)(h:Zba):Prop:=PG X tg (tG (gx X) k h)
abbrev FGs (X:Cx)(k:Nat)(tgs:List Expr)(h:List D->Me->Option Me):Prop:=PGs X tgs (tGs (gx X) k h)
theorem Ke {X:Cx}{e:Expr}{T T':TG}(h:PG X e T)(k:∀v σ H Q,T' v σ H Q->T v σ H Q):PG X e T':=λpins s σ H v u Q I r q=>h pins s σ H v u Q I r (k v σ H Q q)
theorem Gi {X:Cx}{es:List Expr}{T T':TGs}(h:PGs X es T)(k:∀v σ H Q,T' v σ H Q->T v σ H Q):PGs X es T':=λpins s σ H v u Q I r q=>h pins s σ H v u Q I r (k v σ H Q q)
def hName (i:Nat):Zba:=λd m=>some (m.set i (.fz d))
def jq:List D->Me->Option Me
 |[],m=>some m
 |_,_=>none
def bN (h:Zba)(hs:List D->Me->Option Me):List D->Me->Option Me
 |d::ds,m=>(h d m).bind λm'=>hs ds m'
 |_,_=>none
def jt (n:Nat)(hs:List D->Me->Option Me):Zba
 | .tup ds,m=>if ds.length=n then hs ds m else none
 |_,_=>none
section
variable {X:Cx}{pos:Pos}{k:Nat}{e:Expr}{es:List Expr}{h:Zba}{hs:List D->Me->Option Me}
theorem aZ {i:Nat}{x:Str}(hN:X.N.Nodup)(hi:X.N[i]? = some x)(hx:Loc X.env.scope x)(hk:i<k:=by decide)(hf:X.fn x=true\/X.env.scope.names.lookup x=some .local:=by first | exact .inl rfl | exact .inr rfl | assumption):FG X k (.Name x pos) (hName i):=
 Ke (Vl hN hi hx hf) λv σ H Q hE=>xq7 hE λO0 M0 H0 ow m d m' R hv e q=>by
  cases e;refine q _ _ (R.set hv) Go.set (λnb=>vM nb λ_ z=>by cases z) ?_;rw [List.drop_set,if_pos (by omega)]
theorem iY:FGs X k [] jq:=Gi UG λvs σ H Q hE=>xq7 hE λO0 M0 H0 ow m ds m' R hv e q=>by
 cases hv with
 |nil=>cases e;exact ⟨rfl,q _ _ R (Go.refl (aL.refl _)) id rfl⟩
 |cons a t=>cases e
theorem bZ (h1:FG X k e h)(h2:FGs X k es hs)(hst:(assignEach (e::es) X.env).map (·.2)=assign e X.env::(assignEach es X.env).map (·.2):=by rfl):FGs X k (e::es) (bN h hs):=
 Gi (QH h1 h2 hst) λvs σ H Q hE=>xq7 hE λO0 M0 H0 ow m ds m' R hv e q=>by
  cases hv with
  |nil=>cases e
  | @cons v vs' d ds' a t=>
   have e':(h d m).bind (λm'=>hs ds' m')=some m':=e;cases e1:h d m with
   |none=>rw [e1] at e';cases e'
   |some m1=>
    rw [e1] at e';exact ⟨v,vs',rfl,O0,M0,H0,ow,m,d,m1,R,a,e1,λow' σ' R' g' nb hd=>⟨O0,M0,H0,ow',m1,ds',m',R',t.go R.mutk g'.ev,e',λow2 σ2 R2 g2 nb2 hd2=>q ow2 σ2 R2 (g'.trans g2) (λz=>nb2 (nb z)) (hd2.trans hd)⟩⟩
theorem mL {j n:Nat}(hc:X.calm=true)(h:FGs X k es hs)(hn:(assignEach es X.env).length=n:=by rfl)(hst:(assignEach es X.env).findIdx? (·.1)=none:=by rfl):FG X k (.Tuple es j pos) (jt n hs):=
 Ke (YQ hc h hn hst) λv σ H Q hE=>xq7 hE λO0 M0 H0 ow m d m' R hv e q=>by
  cases d with
  |tup ds=>
   obtain ⟨a,xs,rfl,hx,hd⟩:=pW (.inl hv);have e':(if ds.length=n then hs ds m else none)=some m':=e;by_cases z:ds.length=n
   ·rw [if_pos z] at e';exact ⟨a,xs,rfl,hx,by rw [cg hd];exact z,O0,M0,H0,ow,m,ds,m',R,hd,e',q⟩
   ·rw [if_neg z] at e';cases e'
  |_=>cases e
end
def tZ (G:Gx)(J:It)(ds:List D)(P:(Zaa)->Hp->Prop):Prop:=∀O H,P O H->
 (∀i,i<ds.length->J.go i H)/\(∀i x H',i<ds.length->J.yld i H x H'->aL H H'/\∃d,ds[i]? = some d/\DV G O H' x d)/\J.stop ds.length H
def tI (G:Gx)(E:XK)(f:Zad):TI:=λσ H R=>∃O0 M0 H0 ow m,Rel G O0 M0 H0 ow σ H m/\Pu G E (f m) H λds=>∀J H',aL H H'->tZ G J ds (λO H2=>Ev (Ow O0 ow) H' O H2)->R J H'
def tIw (G:Gx)(E:XK)(f:Zad):TI:=λσ H R=>∃O0 M0 H0 ow m,Rel G O0 M0 H0 ow σ H m/\Pu G E (f m) H λds=>∀J H',aL H H'->tZ G J ds (λO H2=>(∀b,O b->Ow O0 ow b\/H' b=none)/\aL H' H2)->R J H'
abbrev FI (X:Cx)(E:XK)(tg e:Expr)(f:Zad):Prop:=PI X tg e (tI (gx X) E f)
abbrev FIw (X:Cx)(E:XK)(tg e:Expr)(f:Zad):Prop:=PI X tg e (tIw (gx X) E f)
theorem mz {X:Cx}{tg e:Expr}{T T':TI}(h:PI X tg e T)(k:∀σ H R,T' σ H R->T σ H R):PI X tg e T':=λpins s σ H R I q=>h pins s σ H R I (k σ H R q)
def jA (f:Zae):Zad:=λm=>(f m).bind λd=>match d with
 | .lst ds=>.ok ds
 |_=>.stuck
def kW (f:Zae):Zad:=λm=>(f m).bind λd=>match d with
 | .tup ds=>.ok ds
 |_=>.stuck
def gU (f:Zad):Zad:=λm=>(f m).bind λd=>match d with
 |[.int j]=>if -(2 ^ 62)<=j/\j<2 ^ 62 then .ok ((List.range j.toNat).map λ(i:Nat)=>D.int i) else .stuck
 |_=>.stuck
theorem Tu {G:Gx}{O:Zaa}{H:Hp}{a:Addr}{xs:List V}{ds:List D}(m:∀b,O b->fH (H b))(hl:LstAt G.K O H a xs)(hd:DVs G O H xs ds):tZ G (Itl G.K a) ds (λO' H2=>Ev O H O' H2):=by
 intro O' H2 ev;have hq:SqL G.K H2 a xs:=(qI ev.2 hl).sq;have hd2:=hd.go m ev;have hlen:=cg hd;refine ⟨λi hi=>⟨xs,xs[i]'(by omega),hq,by simp⟩,λi x H' hi y=>?_,xs,hq,by omega⟩;obtain ⟨e,y⟩:=y;subst e;obtain ⟨d,h1,h2⟩:=p7 hd2 (y xs hq);exact ⟨aL.refl _,d,h1,h2⟩
theorem S5 {G:Gx}{O:Zaa}{H:Hp}{a:Addr}{xs:List V}{ds:List D}(m:∀b,O b->fH (H b))(hl:SqL G.K H a xs)(hd:DVs G O H xs ds):tZ G (Itl G.K a) ds (λO' H2=>(∀b,O' b->O b\/H b=none)/\aL H H2):=by
 intro O' H2 ⟨sub,g⟩;have hq:SqL G.K H2 a xs:=Gj hl g;have hd2:=hd.go m ⟨sub,.of g⟩;have hlen:=cg hd;refine ⟨λi hi=>⟨xs,xs[i]'(by omega),hq,by simp⟩,λi x H' hi y=>?_,xs,hq,by omega⟩;obtain ⟨e,y⟩:=y;subst e;obtain ⟨d,h1,h2⟩:=p7 hd2 (y xs hq);exact ⟨aL.refl _,d,h1,h2⟩
theorem YL {G:Gx}{O:Zaa}{H:Hp}{a:Addr}{xs:List V}{ds:List D}(m:∀b,O b->fH (H b))(hl:SqT G.K H a xs)(hd:DVs G O H xs ds):tZ G (Itt G.K a) ds (λO' H2=>Ev O H O' H2):=by
 intro O' H2 ev;have hq:SqT G.K H2 a xs:=X7 m ev.2 hl;have hd2:=hd.go m ev;have hlen:=cg hd;refine ⟨λi hi=>⟨xs,xs[i]'(by omega),hq,by simp⟩,λi x H' hi y=>?_,xs,hq,by omega⟩;obtain ⟨e,y⟩:=y;subst e;obtain ⟨d,h1,h2⟩:=p7 hd2 (y xs hq);exact ⟨aL.refl _,d,h1,h2⟩
theorem tZ.weak {G:Gx}{J:It}{ds:List D}{O:Zaa}{H:Hp}(h:tZ G J ds (λO' H2=>Ev O H O' H2)):tZ G J ds (λO' H2=>(∀b,O' b->O b\/H b=none)/\aL H H2):=
 λO' H2 ⟨s,g⟩=>h O' H2 ⟨s,.of g⟩
theorem Ru {G:Gx}{lo:Int}{n:Nat}{P:(Zaa)->Hp->Prop}:tZ G (Itr lo n) ((List.range n).map λ(k:Nat)=>D.int (lo+k)) P:=by
 intro O H _;refine ⟨λi hi=>(show i<n by simpa using hi),λi x H' hi y=>?_,by show n<=_;simp⟩;obtain ⟨e,y⟩:=y;subst e y;have hi':i<n:=by simpa using hi
 exact ⟨aL.refl _,_,by simp [List.getElem?_map,List.getElem?_range hi'],.int _⟩
section
variable {X:Cx}{E:XK}{tg e a b:Expr}{f:Zae}{fs:Zad}{p pos:Pos}
theorem xm (h:FE X E e f):FI X E tg e (jA f):=mz (Lz h) λσ H R hE=>xq5 hE λO0 M0 H0 ow m Re q=>⟨O0,M0,H0,ow,m,Re,q.bind.imp (aL.refl _) λd q v H' g hv=>by
 cases d with
 |lst ds=>
  cases hv with
  |lst hl hd=>exact ⟨_,rfl,⟨_,hl.sq⟩,q _ H' g (Tu (Re.mono g).mutk hl hd)⟩
 |_=>exact q.elim⟩
theorem mR (h:FE X E e f):FI X E tg e (kW f):=mz (XS h) λσ H R hE=>xq5 hE λO0 M0 H0 ow m Re q=>⟨O0,M0,H0,ow,m,Re,q.bind.imp (aL.refl _) λd q v H' g hv=>by
 cases d with
 |tup ds=>
  cases hv with
  |tup hl hd=>exact ⟨_,rfl,⟨_,hl.sq⟩,q _ H' g (YL (Re.mono g).mutk hl.sq hd)⟩
 |_=>exact q.elim⟩
theorem m8 (h:FB X E e f):FIw X E tg e (jA f):=mz (Lz h) λσ H R hE=>xq5 hE λO0 M0 H0 ow m Re q=>⟨O0,M0,H0,ow,m,Re,q.bind.imp (aL.refl _) λd q v H' g hv=>by
 cases d with
 |lst ds=>
  obtain ⟨a,xs,rfl,hl,hd⟩:=gM hv;exact ⟨a,rfl,⟨_,hl⟩,q _ H' g (S5 (Re.mono g).mutk hl hd)⟩
 |_=>exact q.elim⟩
theorem jK {fl:Zad}(h:FI X E tg e fl):FIw X E tg e fl:=mz h λσ H R hE=>xq5 hE λO0 M0 H0 ow m Re q=>⟨O0,M0,H0,ow,m,Re,q.imp (aL.refl _) λds q J H' g hi=>q J H' g hi.weak⟩
theorem gr (hg:Gl X "range")(hm:X.mg "range" = none)(ha:FAB X E [a] fs)(hs:starEach [a] X.env=[(false,eval a X.env)]:=by rfl):FI X E tg (.Call (.Name "range" p) [a] [] pos) (gU fs):=
 mz (Nz hg hm ha hs) λσ H R hE=>xq5 hE λO0 M0 H0 ow m Re q=>⟨O0,M0,H0,ow,m,Re,q.bind.imp (aL.refl _) λds q vs H' g hv=>by
  cases hv with
  |nil=>exact q.elim
  | @cons v vs d ds h1 h2=>
   cases h2 with
   |cons _ _=>cases d<;>exact q.elim
   |nil=>
    cases d with
    |int j=>
     cases b7 h1;obtain ⟨⟨z1,z2⟩,k⟩:=Av q;refine ⟨j,rfl,z1,z2,k _ H' g ?_⟩
     have:=Ru (G:=gx X) (lo:=0) (n:=j.toNat) (P:=λO H2=>Ev (Ow O0 ow) H' O H2)
     simpa using this
    |_=>exact q.elim⟩
end
def bM (h:Zba)(g:Zab):List D->Zab
 |[],m=>.ok (.nx,m)
 |d::ds,m=>match h d m with
  |none=>.stuck
  |some m1=>match g m1 with
   | .ok (.nx,m2)=>bM h g ds m2
   | .ok (.ct,m2)=>bM h g ds m2
   | .ok (.bk,m2)=>.ok (.nx,m2)
   | .ok (.rt fr v,m2)=>.ok (.rt fr v,m2)
   | .exc c=>.exc c
   | .stuck=>.stuck
def g8 (fi:Zad)(h:Zba)(g:Zab):Zab:=λm=>(fi m).bind λds=>bM h g ds m
theorem iu {X:Cx}{E:XK}{tg iter:Expr}{body:List Stmt}{fi:Zad}{k:Nat}{h:Zba}{g:Zab}{pos:Pos}(hp:PassesOwn (model X.prog X.w) X.A X.env X.xe)(hc:X.calm=true)(hi:FI X E tg iter fi)(hg:FG X k tg h)(hb:FSs X E body g)
  (hs:∀x,foldedSetIterable iter X.env x=pure x:=by intro _;rfl):FS X E (.For tg iter body [] pos) (g8 fi h g):=eQ (Iu hp hc hi hg hb hs) λW σ H hE=>xq5 hE λO0 M0 H0 ow m R q=>
 ⟨O0,M0,H0,ow,m,R.toRel,(Ss.pu R.toRel q).imp (aL.refl _) λds q J H1 g1 it=>by
  have R1:=R.mono g1;have q1:=Ss.go q (Go.refl g1);generalize hr:bM h g ds m=r at *;refine ⟨λi n σ' H'=>∃ow' m',dW (gx X) O0 M0 H0 ow' σ' H' m'/\Go O0 ow H1 ow' H'/\n=ds.length-i/\i<=ds.length/\bM h g (ds.drop i) m'=r,⟨_,ow,m,R1,Go.refl (aL.refl _),rfl,Nat.zero_le _,hr⟩,?_⟩;rintro i n σ2 H2 ⟨ow2,m2,R2,g2,rfl,hi,e2⟩;obtain ⟨i1,i2,i3⟩:=it _ H2 g2.ev;by_cases hlt:i<ds.length
  ·refine .inr ⟨i1 i hlt,λσ' H'=>∃ow' m',dW (gx X) O0 M0 H0 ow' σ' H' m'/\Go O0 ow H1 ow' H'/\bM h g (ds.drop (i+1)) m'=r,λσ' H' ⟨ow',m',R',g',e'⟩=>⟨ds.length-(i+1),by omega,ow',m',R',g',rfl,hlt,e'⟩,λx H3 y=>?_⟩;obtain ⟨s3,d,hd,dv⟩:=i2 i x H3 hlt y;have ed:ds.drop i=d::ds.drop (i+1):=by
    rw [List.drop_eq_getElem_cons hlt];rw [List.getElem?_eq_getElem hlt] at hd;cases hd;rfl
   rw [ed] at e2;unfold bM at e2;cases eh:h d m2 with
   |none=>rw [eh] at e2;subst e2;exact q1.elim
   |some m3=>
    rw [eh] at e2;refine ⟨O0,M0,H0,ow2,m2,d,m3,(R2.mono s3).toRel,dv,eh,λow' σ' R' g' nb _=>?_⟩;have G3:=(g2.trans (Go.refl s3)).trans g';refine ⟨O0,M0,H0,ow',m3,⟨R',nb R2.nb⟩,?_⟩;cases eg:g m3 with
    |exc c=>simp only [eg] at e2;subst e2;exact q1
    |stuck=>simp only [eg] at e2;subst e2;exact q1
    |ok a=>
     obtain ⟨f4,m4⟩:=a;simp only [eg] at e2;cases f4 with
     |nx=>exact λow4 σ4 H4 R4 g4=>⟨ow4,m4,R4,G3.trans g4,e2⟩
     |ct=>exact λow4 σ4 H4 R4 g4=>⟨ow4,m4,R4,G3.trans g4,e2⟩
     |bk=>subst e2;exact λow4 σ4 H4 R4 g4=>q1 ow4 σ4 H4 R4 (G3.trans g4)
     |rt fr v=>subst e2;exact λv ow4 σ4 H4 R4 g4=>q1 v ow4 σ4 H4 R4 (G3.trans g4)
  ·have e:i=ds.length:=by omega
   subst e;rw [List.drop_length] at e2;unfold bM at e2;subst e2;exact .inl ⟨i3,q1 ow2 σ2 H2 R2 g2⟩⟩
def Sl.bor:Sl->Sl
 | .ow d=>.bw d
 | .io d=>.bw d
 | .hd _ _ _=>.un
 |s=>s
def cMe (k:Nat)(cap:List Nat)(m:Me):Me:=List.replicate k .un++cap.map λj=>(m.getD j .un).bor
def bV (h:Zba)(ft:Zaf)(fe:Zae)(m0:Me):List D->Res (List D)
 |[]=>.ok []
 |d::ds=>match h d m0 with
  |none=>.stuck
  |some m1=>match ft m1 with
   | .ok true=>match fe m1 with
    | .ok y=>match bV h ft fe m0 ds with
     | .ok ys=>.ok (y::ys)
     |_=>.stuck
    |_=>.stuck
   | .ok false=>bV h ft fe m0 ds
   |_=>.stuck
def bY (k:Nat)(cap:List Nat)(fi:Zad)(h:Zba)(ft:Zaf)(fe:Zae):Zae:=λm=>(fi m).bind λds=>
 if ds.length<=sizeLine then match bV h ft fe (cMe k cap m) ds with
  | .ok ys=>.ok (.lst ys)
  |_=>.stuck
 else .stuck
abbrev T9 (X:Cx)(E:XK)(ifs:List Expr)(f:Zaf):Prop:=M4 X ifs (tT (gx X) E f)
def cM:Zaf:=λ_=>.ok true
theorem cL {X:Cx}{E:XK}:T9 X E [] cM:=λpins s σ H Q I hE=>xq5 hE λO0 M0 H0 ow m R q=>V2 pins s σ H Q I (q H (aL.refl _))
theorem Hk {X:Cx}{E:XK}{c:Expr}{f:Zaf}(h:FT X E c f):T9 X E [c] f:=VD h
section
variable {X:Cx}{E:XK}{k:Nat}{cap:List Nat}{fi:Zad}{h:Zba}{ft:Zaf}{fe:Zae}
theorem Qf {G:Gx}{O0 M0:Zaa}{H0 H H2:Hp}{ow:Os}{σ:L2.St}{m:Me}{l:Addr}{zs:List V}(R:Rel G O0 M0 H0 ow σ H m)(g:aL H H2)(hl:H l=none)(hz:H2 l=some (.lst zs)):
  Rel G (Op (Ow O0 ow) l) (λ_=>False) (λ_=>none) (λ_=>none) (cSt k cap σ) H2 (cMe k cap m):=by
 have sub:∀b,Ow (Op (Ow O0 ow) l) (λ_=>none) b->Ow O0 ow b\/H b=none:=λb z=>by
  rw [uT] at z;exact z.elim .inl λe=>.inr (by rw [e];exact hl)
 have sup:∀b,Ow O0 ow b->Ow (Op (Ow O0 ow) l) (λ_=>none) b:=λb z=>.inl (.inl z);refine ⟨by simp [cSt,cMe],λb o e _=>(by cases e),λb z=>z.elim,λb z=>?_,λi a e=>(by cases e),λi j a e=>(by cases e),λ_ _=>rfl,λi s e=>?_⟩
 ·rw [uT] at z;rcases z with z | z
  ·exact vX g (R.mutk b z)
  ·rw [z,hz];exact .inl ⟨zs,rfl⟩
 ·unfold cMe at e;by_cases hi:i<k
  ·rw [List.getElem?_append_left (by simpa using hi),List.getElem?_replicate,if_pos hi] at e;cases e;rfl
  ·rw [List.getElem?_append_right (by simp;omega),List.length_replicate,List.getElem?_map] at e;have eσ:(cSt k cap σ)[i]? = (cap[i-k]?).map λj=>(σ[j]?).join:=by
    unfold cSt;rw [List.getElem?_append_right (by simp;omega),List.length_replicate,List.getElem?_map]
   cases ec:cap[i-k]? with
   |none=>rw [ec] at e;cases e
   |some j=>
    rw [ec] at e eσ;rw [eσ];cases ej:m[j]? with
    |none=>
     have:m.getD j .un=.un:=by simp [List.getD,ej]
     rw [Option.map_some,this] at e;cases e;rfl
    |some s0=>
     have:m.getD j .un=s0:=by simp [List.getD,ej]
     rw [Option.map_some,this] at e;cases e;have z:=R.slot j s0 ej;cases s0 with
     |un=>rfl
     |fz d=>
      obtain ⟨_,x,e1,hv⟩:=z;exact ⟨rfl,x,by rw [Option.map_some,e1];rfl,(hv.cI sub).mono g⟩
     |ow d=>
      obtain ⟨a,h1,h2,h3,h4⟩:=z;exact ⟨rfl,.ref a,by rw [Option.map_some,h3];rfl,.inr ⟨a,rfl,sup a (.inr ⟨j,h1⟩),(h4.cI sub).mono g⟩⟩
     |io d=>
      obtain ⟨a,h1,h2,h3,h4⟩:=z;exact ⟨rfl,.ref a,by rw [Option.map_some,h3];rfl,.inr ⟨a,rfl,sup a (.inr ⟨j,h1⟩),(h4.cI sub).mono g⟩⟩
     |bw d=>
      obtain ⟨_,x,e1,hv⟩:=z;refine ⟨rfl,x,by rw [Option.map_some,e1];rfl,?_⟩;rcases hv with hv | ⟨a,e2,o,hv⟩
      ·exact .inl ((hv.cI sub).mono g)
      ·exact .inr ⟨a,e2,sup a o,(hv.cI sub).mono g⟩
     |hd w a d=>rfl
theorem K6 {σ:L2.St}{H:Hp}{Q:VK}(hq:tN (gx X) E (bY k cap fi h ft fe) σ H Q):KN k cap (tIw (gx X) E fi) (tG (gx X) k h) (tT (gx X) E0 ft) (tE (gx X) E0 fe) σ H Q:=by
 obtain ⟨O0,M0,H0,ow,m,R,q⟩:=hq;refine ⟨O0,M0,H0,ow,m,R,q.bind.imp (aL.refl _) λds q J H1 g1 it l hl=>?_⟩;obtain ⟨hz,q⟩:=xU q;cases hc:bV h ft fe (cMe k cap m) ds with
 |exc c=>rw [hc] at q;exact q.elim
 |stuck=>rw [hc] at q;exact q.elim
 |ok ys=>
  rw [hc] at q;have hlH:H l=none:=g1.free hl;have mk1:∀b,Op (Ow O0 ow) l b->Ow O0 ow b\/H1 b=none:=λb z=>z.elim .inl λe=>.inr (by rw [e];exact hl);refine ⟨λi n zs H'=>n=ds.length-i/\i<=ds.length/\zs.length<=i/\aL H1 H'/\H' l=some (.lst zs)/\∃es rest,DVs (gx X) (Op (Ow O0 ow) l) H' zs es/\bV h ft fe (cMe k cap m) (ds.drop i)=.ok rest/\es++rest=ys,
   ⟨ds.length,by simp,Nat.zero_le _,Nat.le_refl _,bD hl _,aV,[],ys,.nil,hc,rfl⟩,?_⟩
  rintro i n zs H' ⟨rfl,hi,hzi,g2,hH,es,rest,hes,hcr,hys⟩;obtain ⟨i1,i2,i3⟩:=it (Op (Ow O0 ow) l) H' ⟨mk1,g2⟩;by_cases hlt:i<ds.length
  ·refine .inr ⟨i1 i hlt,λx H2 y=>?_⟩;obtain ⟨g3,d,hd,dv⟩:=i2 i x H2 hlt y;have ed:ds.drop i=d::ds.drop (i+1):=by
    rw [List.drop_eq_getElem_cons hlt];rw [List.getElem?_eq_getElem hlt] at hd;cases hd;rfl
   rw [ed] at hcr;unfold bV at hcr;cases eh:h d (cMe k cap m) with
   |none=>rw [eh] at hcr;cases hcr
   |some m1=>
    rw [eh] at hcr;have G2:aL H H2:=(g1.trans g2).trans g3;have R2:=Qf (k:=k) (cap:=cap) (l:=l) (zs:=zs) R G2 hlH (g3 _ _ hH);refine ⟨_,_,_,_,_,d,m1,R2,by rw [uT];exact dv,eh,λow' σ' R' g' nb hdr=>⟨hdr,_,_,_,ow',m1,R',?_⟩⟩;simp only [] at hcr;cases et:ft m1 with
    |exc c=>rw [et] at hcr;cases hcr
    |stuck=>rw [et] at hcr;cases hcr
    |ok t=>
     rw [et] at hcr;intro H3 g4;cases t with
     |false=>
      rw [if_neg Bool.false_ne_true];exact ⟨ds.length-(i+1),by omega,rfl,hlt,by omega,(g2.trans g3).trans g4,g4 _ _ (g3 _ _ hH),es,rest,hes.mono (g3.trans g4),hcr,hys⟩
     |true=>
      rw [if_pos rfl];refine ⟨_,_,_,ow',m1,R'.mono g4,?_⟩;simp only [] at hcr;cases ee:fe m1 with
      |exc c=>rw [ee] at hcr;cases hcr
      |stuck=>rw [ee] at hcr;cases hcr
      |ok y'=>
       rw [ee] at hcr;intro v H5 g5 hv;simp only [] at hcr;cases er:bV h ft fe (cMe k cap m) (ds.drop (i+1)) with
       |exc c=>rw [er] at hcr;cases hcr
       |stuck=>rw [er] at hcr;cases hcr
       |ok rest'=>
        rw [er] at hcr;cases hcr;have G5:aL H' H5:=(g3.trans g4).trans g5;have mk5:∀b,Op (Ow O0 ow) l b->fH (H5 b):=λb z=>by
         rcases z with z | z
         ·exact vX (((g1.trans g2).trans G5)) (R.mutk b z)
         ·rw [z,G5 _ _ hH];exact .inl ⟨zs,rfl⟩
        have kp5:Kp (Op (Ow O0 ow) l) H5 (upd H5 l (.lst (zs++[v]))):=λb o e n=>by
         rw [bc (show b≠l from λz=>n (.inr z))];exact e
        refine ⟨G5 _ _ hH,by omega,ds.length-(i+1),by omega,rfl,hlt,by rw [List.length_append,List.length_singleton];omega,?_,aV,es++[y'],rest',?_,er,by rw [List.append_assoc];exact hys⟩
        ·exact Ve ((Zt (g2.trans G5)).trans Xj) hl
        ·exact j0 ((hes.mono G5).kp mk5 kp5) (.cons ((hv.cI λb z=>.inl (.inl z)).kp mk5 kp5) .nil)
  ·have e:i=ds.length:=by omega
   subst e;rw [List.drop_length] at hcr;cases hcr;rw [List.append_nil] at hys;subst hys;exact .inl ⟨i3,q l H' (g1.trans g2) hlH ⟨zs,hH,hes⟩⟩
section
variable {tg iter elt:Expr}{ifs:List Expr}{scope:Scope}{pos:Pos}
theorem d9 (sc:Scope)(N' caps:List Str)(k:Nat)(cap:List Nat)(hcalm:X.calm=true)(S:CSc sc scope caps)(hcap:Paired (λj x=>X.N[j]? = some x) cap caps)
  (hi:FIw X E tg iter fi) (hg:∀cl C sE HE fp pins,FG (cV X N' scope cl C sE HE fp pins) k tg h) (ht:∀cl C sE HE fp pins,T9 (cV X N' scope cl C sE HE fp pins) E0 ifs ft) (he:∀cl C sE HE fp pins,FE (cV X N' scope cl C sE HE fp pins) E0 elt fe)
  (hsc:X.env.scope=sc:=by rfl) (hN:N'.drop k=caps:=by rfl) (hk:k<=N'.length:=by decide) (hs:∀x,foldedSetIterable iter X.env x=pure x:=by intro _;rfl):
  FN X E (.ListComp elt [⟨tg,iter,ifs,0⟩] scope pos) (bY k cap fi h ft fe):=bJ (Vq sc N' caps k cap hcalm S hcap hi hg ht he hsc hN hk hs) λ_ _ _ q=>K6 q
variable {i:Nat}{y:Str}{py spos:Pos}
theorem qx (sc:Scope)(N' caps:List Str)(k:Nat)(cap:List Nat)(hnd:X.N.Nodup)(hi':X.N[i]? = some y)(hy:Loc X.env.scope y)(hcalm:X.calm=true)(S:CSc sc scope caps)(hcap:Paired (λj x=>X.N[j]? = some x) cap caps)
  (hi:FIw X E tg iter fi) (hg:∀cl C sE HE fp pins,FG (cV X N' scope cl C sE HE fp pins) k tg h) (ht:∀cl C sE HE fp pins,T9 (cV X N' scope cl C sE HE fp pins) E0 ifs ft) (he:∀cl C sE HE fp pins,FE (cV X N' scope cl C sE HE fp pins) E0 elt fe)
  (hsw:swapsWith (.ListComp elt [⟨tg,iter,ifs,0⟩] scope pos) (some (.Name y py)) spos.line X.env=pure true:=by rfl)
  (hsc:X.env.scope=sc:=by rfl) (hN:N'.drop k=caps:=by rfl) (hk:k<=N'.length:=by decide) (hs:∀x,foldedSetIterable iter X.env x=pure x:=by intro _;rfl)
  (hf:X.fn y=true\/X.env.scope.names.lookup y=some .local:=by first | exact .inl rfl | exact .inr rfl | assumption):
  FS X E (.Assign [.Name y py] (.ListComp elt [⟨tg,iter,ifs,0⟩] scope pos) spos) (bf i (bY k cap fi h ft fe)):=
 eQ (Ip sc N' caps k cap hnd hi' hy hcalm S hcap hi hg ht he hsw hsc hN hk hs hf) λW σ H q=>by
  refine K6 (h:=h) (ft:=ft) (fe:=fe) (Q:=λx H1=>Ae i x σ H1 W.nx) ?_;obtain ⟨O0,M0,H0,ow,m,R,q⟩:=Td q;exact ⟨O0,M0,H0,ow,m,R,q.imp (aL.refl _) λ_ k p H' g n o=>k _ H' g ((o.cI λb z=>.inl (.inl z)).dv (R.PB n))⟩
end
end
def spF (G:Gx)(Φ:Zac):Sp:=λvs H Q E=>∃O ds,(∀b,O b->fH (H b))/\DVs G O H vs ds/\Pu G E (Φ ds) H λr=>∀v H',aL H H'->DV G O H' v r.2->(r.1=true->Fr G O H v H' r.2)->Q v H'
def aW (N n:Nat)(g:Zab):Zac:=λds=>if ds.length=n then match g (ds.map Sl.fz++List.replicate (N-n) Sl.un) with
  | .ok (.rt fr d,_)=>.ok (fr,d)
  | .ok (.nx,_)=>.ok (false,.non)
  | .exc c=>.exc c
  |_=>.stuck
 else .stuck
abbrev FF (P:Program)(w:World)(K:W.Frag)(mg:Zp)(base:Heap)(k:Nat)(x:Str)(ps:List Str)(Φ:Zac):Prop:=Hd.Fn P w K mg base k x ps (spF ⟨K,mg⟩ Φ)
theorem MP {G:Gx}{O:Zaa}{H:Hp}{N:List Str}{vs:List V}{ds:List D}{n:Nat}(hm:∀b,O b->fH (H b))(hd:DVs G O H vs ds)(hn:ds.length=n):
  dW G O (λ_=>False) H (λ_=>none) (L2.start N vs) H (ds.map Sl.fz++List.replicate (N.length-n) Sl.un):=by
 have hl:=cg hd;refine ⟨⟨by simp [L2.start,hl,hn],λb o e _=>e,λb z=>z.elim,λb z=>by rw [uT] at z;exact hm b z,λi a e=>(by cases e),λi j a e=>(by cases e),λ_ _=>rfl,λi s e=>?_⟩,λj d e=>?_⟩
 ·by_cases hi:i<ds.length
  ·rw [List.getElem?_append_left (by simpa using hi),List.getElem?_map] at e;cases ed:ds[i]? with
   |none=>rw [ed] at e;cases e
   |some d=>
    rw [ed] at e;cases e;obtain ⟨x,hx,dx⟩:=El hd ed;refine ⟨rfl,x,?_,by rw [uT];exact dx⟩;unfold L2.start;rw [List.getElem?_append_left (by simpa [hl] using hi),List.getElem?_map,hx];rfl
  ·rw [List.getElem?_append_right (by simp;omega),List.getElem?_replicate] at e;split at e
   ·cases e;rfl
   ·cases e
 ·by_cases hi:j<ds.length
  ·rw [List.getElem?_append_left (by simpa using hi),List.getElem?_map] at e;cases ed:ds[j]? with
   |none=>rw [ed] at e;cases e
   |some d=>rw [ed] at e;cases e
  ·rw [List.getElem?_append_right (by simp;omega),List.getElem?_replicate] at e;split at e<;>cases e
section
variable {P:Program}{w:World}{K:W.Frag}{mg:Zp}{base:Heap}
theorem bj {x qual:Str}{st:Stmt}{f:Addr}{fd:FuncData}{N ps:List Str}{k:Nat}{g:Zab}(Fu:Fun K x qual st f fd)(S:aY N ps (aJ st))
  (hbody:∀(cdv:Value) (A:Around) (outer:List Env) (s:Shared) (H:Hp) (E:XK),fM k (A.deeper (envOfC qual (aJ st) s.heap.objs.size f cdv))->
   FSs (Ab (CX1 P w) P w K mg base N qual (aJ st) f cdv A outer s H E) E (mq st) g):cB P w K mg base (CX1 P w) (k+1) f fd ps (spF ⟨K,mg⟩ (aW N.length ps.length g)):=by
 refine Ue Fu S (λvs H Q E h=>?_) (λcdv A outer s H vs Q E hr h=>?_)
 ·obtain ⟨O,ds,_,hd,q⟩:=h;rw [cg hd];unfold aW at q;exact (xU q).1
 ·obtain ⟨O,ds,hm,hd,q⟩:=h;unfold aW at q;obtain ⟨hn,q⟩:=xU q;refine ⟨_,hbody cdv A outer s H E hr,O,λ_=>False,H,λ_=>none,_,MP hm hd hn,?_⟩;have sm:∀{ow' σ' H' m'},dW (⟨K,mg⟩:Gx) O (λ_=>False) H ow' σ' H' m'->aL H H':=λR b o e=>R.keep b o e id;cases z:g (ds.map Sl.fz++List.replicate (N.length-ps.length) Sl.un) with
  |exc c=>rw [z] at q;exact λC H' e kp=>q C H' e λb o e=>kp b o e id
  |stuck=>rw [z] at q;exact q.elim
  |ok a=>
   obtain ⟨fl,m'⟩:=a;rw [z] at q;cases fl with
   |bk=>exact q.elim
   |ct=>exact q.elim
   |nx=>exact λow' σ' H' R' _=>q _ H' (sm R') .non λz=>by cases z
   |rt fr d=>
    intro v ow' σ' H' R' _ hv hf;refine q v H' (sm R') (hv.cI λb z=>.inl (.inl z)) λz=>?_;rcases hf z with ⟨p,e1,e2,e3⟩ | t
    ·exact .inl ⟨p,e1,e2,e3.cI λb z=>.inl (z.elim (λy=>.inl (.inl y)) .inr)⟩
    ·exact .inr t
theorem Wx {k:Nat}{f:Addr}{fd:FuncData}{ps:List Str}:cB P w K mg base (CX1 P w) k f fd ps (spF ⟨K,mg⟩ λ_=>.stuck):=
 ⟨λ_ _ _ _ ⟨_,_,_,_,q⟩=>q.elim,λ_ _ _ _ _ _ _ _ _ _ _ _ _ ⟨_,_,_,_,q⟩=>q.elim⟩
end
def fFn (Φ:Zac)(fs:Zad):Zae:=λm=>(fs m).bind λds=>(Φ ds).bind λr=>.ok r.2
def ye (Φ:Zac)(fs:Zad):Zae:=λm=>(fs m).bind λds=>(Φ ds).bind λr=>if flat r.2=true then .ok r.2 else .stuck
def HW (Φ:Zac)(fs:Zad):Zae:=λm=>(fs m).bind λds=>(Φ ds).bind λr=>if (r.1 && !isTup r.2)=true then .ok r.2 else .stuck
section
variable {X:Cx}{E:XK}{j k:Nat}{x:Str}{ps:List Str}{Φ:Zac}{p pos:Pos}{e:Expr}{es:List Expr}{fs:Zad}
theorem bK (Fh:FF X.prog X.w X.K X.mg X.base k x ps Φ)(hr:fM j X.A)(hx:Passes (CX1 X.prog X.w) X E)(ha:FAE X E (e::es) fs)(hk:k<=j:=by decide)(hg:Gl X x:=by rfl)
  (hdb:(x == ("__debug__" : Str))=false:=by decide) (he:starEach (e::es) X.env=(false,eval e X.env)::starEach es X.env:=by rfl) (hpl:(backTo pos (starEach es X.env)).any (·.1)=false:=by rfl):
  FE X E (.Call (.Name x p) (e::es) [] pos) (fFn Φ fs):=by
 obtain ⟨f,fd,G,b,kp,m⟩:=Fh.ex;refine bJ (Cy G (hr.mono hk) hg m kp b .nil hx ha hdb he hpl) λσ H Q hE=>xq5 hE λO0 M0 H0 ow m R q=>⟨O0,M0,H0,ow,m,R,q.bind.imp (aL.refl _) λds q vs H1 g1 hv=>?_⟩;show spF _ _ (vs++[]) _ _ _;rw [List.append_nil];exact ⟨_,ds,(R.mono g1).mutk,hv,q.bind.imp g1 λr q v H' g2 hv' _=>q v H' (g1.trans g2) hv'⟩
theorem Y7 (Fh:FF X.prog X.w X.K X.mg X.base k x ps Φ)(hr:fM j X.A)(hx:Passes (CX1 X.prog X.w) X E)(hk:k<=j:=by decide)(hg:Gl X x:=by rfl)
  (hdb:(x == ("__debug__" : Str))=false:=by decide):FE X E (.Call (.Name x p) [] [] pos) (fFn Φ az):=by
 obtain ⟨f,fd,G,b,kp,m⟩:=Fh.ex;refine bJ (Rg G (hr.mono hk) hg m kp b .nil hx hdb) λσ H Q hE=>xq5 hE λO0 M0 H0 ow m R q=>?_;exact ⟨_,[],R.mutk,.nil,(show Pu (gx X) E ((Φ []).bind λr=>.ok r.2) H _ from q).bind.imp (aL.refl _) λr q v H' g2 hv' _=>q v H' g2 hv'⟩
theorem ux (Fh:FF X.prog X.w X.K X.mg X.base k x ps Φ)(hr:fM j X.A)(hx:Passes (CX1 X.prog X.w) X E)(ha:FAB X E (e::es) fs)(hk:k<=j:=by decide)(hg:Gl X x:=by rfl)
  (hdb:(x == ("__debug__" : Str))=false:=by decide) (he:starEach (e::es) X.env=(false,eval e X.env)::starEach es X.env:=by rfl) (hpl:(backTo pos (starEach es X.env)).any (·.1)=false:=by rfl):
  FE X E (.Call (.Name x p) (e::es) [] pos) (ye Φ fs):=by
 obtain ⟨f,fd,G,b,kp,m⟩:=Fh.ex;refine bJ (Cy G (hr.mono hk) hg m kp b .nil hx ha hdb he hpl) λσ H Q hE=>xq5 hE λO0 M0 H0 ow m R q=>⟨O0,M0,H0,ow,m,R,q.bind.imp (aL.refl _) λds q vs H1 g1 hv=>?_⟩;show spF _ _ (vs++[]) _ _ _;rw [List.append_nil];refine ⟨_,ds,λ_ z=>z.elim,hv.any,q.bind.imp g1 λr q v H' g2 hv' _=>?_⟩;obtain ⟨hf,q⟩:=Av q;exact q v H' (g1.trans g2) (hv'.flat hf)
theorem Qo (Fh:FF X.prog X.w X.K X.mg X.base k x ps Φ)(hr:fM j X.A)(hx:Passes (CX1 X.prog X.w) X E)(ha:FAE X E (e::es) fs)(hk:k<=j:=by decide)(hg:Gl X x:=by rfl)
  (hdb:(x == ("__debug__" : Str))=false:=by decide) (he:starEach (e::es) X.env=(false,eval e X.env)::starEach es X.env:=by rfl) (hpl:(backTo pos (starEach es X.env)).any (·.1)=false:=by rfl):
  FN X E (.Call (.Name x p) (e::es) [] pos) (HW Φ fs):=by
 obtain ⟨f,fd,G,b,kp,m⟩:=Fh.ex;refine bJ (Cy G (hr.mono hk) hg m kp b .nil hx ha hdb he hpl) λσ H Q hE=>xq5 hE λO0 M0 H0 ow m R q=>⟨O0,M0,H0,ow,m,R,q.bind.imp (aL.refl _) λds q vs H1 g1 hv=>?_⟩;show spF _ _ (vs++[]) _ _ _;rw [List.append_nil];refine ⟨_,ds,(R.mono g1).mutk,hv,q.bind.imp g1 λr q v H' g2 hv' fr=>?_⟩;obtain ⟨hf,q⟩:=Av q;obtain ⟨hf1,hf2⟩:=Bool.and_eq_true_iff.mp hf;obtain ⟨p,rfl,n,o⟩:=(fr hf1).lst (by simpa using hf2);exact q p H' (g1.trans g2) (g1.free n) o
end
def Bg (i:Int):Prop:=i.natAbs<lmM
instance (i:Int):Decidable (Bg i):=inferInstanceAs (Decidable (_<_))
def Bq (i:Int):Prop:=i.natAbs<lmD
instance (i:Int):Decidable (Bq i):=inferInstanceAs (Decidable (_<_))
theorem ZL {i:Int}(h:i.natAbs<2 ^ 60000):Bg i:=by unfold Bg;rw [QL];exact h
theorem J9 {i:Int}(h:i.natAbs<2 ^ 8900):Bq i:=by unfold Bq;rw [Jr];exact h
@[simp] theorem aak {i:Int}(h:Bq i):Bg i:=by
 unfold Bq at h;rw [Jr] at h;exact ZL (Nat.lt_of_lt_of_le h (Nat.pow_le_pow_right (by decide) (by decide)))
def dvI (i j:Int):Int:=if 0<j then i / j else i.fdiv j
def mdI (i j:Int):Int:=if 0<j then i % j else i.fmod j
def cN:D->D->Option D
 | .int i,.int j=>some (.int (i+j))
 | .str a,.str b=>if a.length+b.length<=sizeLine then some (.str (a++b)) else none
 | .lst a,.lst b=>if a.length+b.length<=sizeLine then some (.lst (a++b)) else none
 | .tup a,.tup b=>if a.length+b.length<=sizeLine then some (.tup (a++b)) else none
 |_,_=>none
def v5:D->D->Option D
 | .int i,.int j=>some (.int (i-j))
 |_,_=>none
def lO:D->D->Option D
 | .int i,.int j=>if Bg i/\Bg j then some (.int (i*j)) else none
 |_,_=>none
def vB:D->D->Option D
 | .int i,.int j=>if j≠0/\Bq j then some (.int (dvI i j)) else none
 |_,_=>none
def iy:D->D->Option D
 | .int i,.int j=>if j≠0 then some (.int (mdI i j)) else none
 |_,_=>none
def W4:D->D->Option D
 | .int i,.int j=>if 0<=j/\j<=1000000/\i.natAbs<2 ^ 64 then some (.int (i ^ j.toNat)) else none
 |_,_=>none
def tW:D->Option D
 | .int i=>some (.int (-i))
 |_=>none
section
variable {X:Cx}
theorem oif {c:Prop}[Decidable c]{α:Type}{a r:α}(h:(if c then some a else none)=some r):c/\a=r:=by
 by_cases z:c
 ·rw [if_pos z] at h;exact ⟨z,Option.some.inj h⟩
 ·rw [if_neg z] at h;cases h
theorem VJ {pins:Zl}{σ:L2.St}{H:Hp}{s:Shared}{Q:VK}{O:Zaa}{i:Str}{t:Tok}{tk:Nat}(I:Inv X pins σ H s)(q:∀v H',aL H H'->DV (gx X) O H' v (.str i)->Q v H'):EP X pins σ Q (.str i t) { s with toks:=tk }:=
 ⟨.str i,H,I.tok _,⟨t,rfl⟩,q _ _ (aL.refl _) (.str i)⟩
theorem TV {pins:Zl}{σ:L2.St}{H:Hp}{s:Shared}{Q:VK}{O:Zaa}{xs:List V}{ds:List D}{its:List Value}{h':Heap}{tk:Nat}(I:Inv X pins σ H s)(m:∀b,O b->fH (H b))(hd:DVs (gx X) O H xs ds)(r:Vals xs its)(hz:xs.length<=sizeLine)
  (kp:∀b o,s.heap.get? b=some o->h'.get? b=some o) (e:∃n,h'.get? s.heap.objs.size=some { cls:=.type "list",data:=.seq its.toArray n }) (q:∀p H',aL H H'->H p=none->OV (gx X) (Op O p) H' p (.lst ds)->Q (.ref p) H'):EP X pins σ Q (.ref s.heap.objs.size) { s with heap:=h',toks:=tk }:=by
 have hf:H s.heap.objs.size=none:=I.hok.fresh (Nat.le_refl _);obtain ⟨n,e⟩:=e;refine ⟨.ref s.heap.objs.size,upd H s.heap.objs.size (.lst xs),I.laid kp (Nat.le_refl _) ⟨hz,its,n,r,e⟩,rfl,q _ _ (bD hf _) hf ⟨xs,aV,?_⟩⟩;exact (hd.cI λb z=>z.elim .inl λe=>.inr (by rw [e];exact hf)).mono (bD hf _)
theorem Jt {G:Gx}{O:Zaa}{H:Hp}{r:D}{Q:VK}(m:∀b,O b->fH (H b))(q:∀v H',aL H H'->DV G O H' v r->Q v H'):∀p H',aL H H'->H p=none->OV G (Op O p) H' p r->Q (.ref p) H':=λp H' g n o=>
 q _ H' g ((o.cI λb z=>.inl (.inl z)).dv λz=>by
  have:=m p z
  rw [n] at this;rcases this with ⟨_,e⟩ | ⟨_,e⟩ | ⟨_,e⟩ | ⟨_,e⟩<;>cases e)
def Zj (G:Gx):R2:=λx y H Q=>∃O ds es,(∀b,O b->fH (H b))/\DW G O H x (.lst ds)/\DW G O H y (.lst es)/\ds.length+es.length<=sizeLine/\∀p H',aL H H'->H p=none->OV G (Op O p) H' p (.lst (ds++es))->Q (.ref p) H'
theorem Uk:OpR X (binaryOp .Add) (Zj (gx X)):=by
 intro pins s σ H x y v u Q I rx ry h;obtain ⟨O,ds,es,m,hx,hy,hz,q⟩:=h;obtain ⟨a,xs,rfl,ha,hd⟩:=gM hx;obtain ⟨b,ys,rfl,hb,he⟩:=gM hy;cases rx;cases ry;obtain ⟨its,r1,p1,_⟩:=I.list ha;obtain ⟨its2,r2,p2,_⟩:=I.list hb;have l1:=cg hd;have l2:=cg he;have k1:=r1.length;have k2:=r2.length;obtain ⟨⟨cls,dd,data,sl⟩,ho,hc,n,hdt⟩:=id p1.isList;obtain ⟨⟨cls2,dd2,data2,sl2⟩,ho2,hc2,n2,hd2⟩:=id p2.isList;simp only at hc hdt hc2 hd2;subst hc hdt hc2 hd2;refine concat_meets ⟨_,ho,rfl⟩ ⟨_,ho2,rfl⟩ noFill_list_add seq_list_add PySem.F.slot_list_add PySem.F.entry_list_add (PySem.F.args_list_add_2 _ _) (list_addW a b its.toArray its2.toArray n n2 dd dd2 sl sl2 (by simp;omega)) ⟨ho,ho2,?_⟩;rw [show its.toArray++its2.toArray=(its++its2).toArray by simp];exact TV (tk:=s.toks) I m (j0 hd he) (r1.append r2) (by rw [List.length_append];omega) (λb o e=>Heap.get?_push_of_some _ e) ⟨0,Heap.get?_push_size _ rfl⟩ q
theorem Rn:OpR X (binaryOp .Add) (λx y H Q=>∃O ds es,DW (gx X) O H x (.tup ds)/\DW (gx X) O H y (.tup es)/\ds.length+es.length<=sizeLine/\∀v H',aL H H'->DV (gx X) O H' v (.tup (ds++es))->Q v H'):=by
 intro pins s σ H x y v u Q I rx ry h;obtain ⟨O,ds,es,hx,hy,hz,q⟩:=h;obtain ⟨a,xs,rfl,ha,hd⟩:=xG hx;obtain ⟨b,ys,rfl,hb,he⟩:=xG hy;have l1:=cg hd;have l2:=cg he;by_cases hx0:xs=[]
 ·subst hx0;cases hd;cases rx;cases ry;obtain ⟨its,r1,p1,_⟩:=I.tuple ha.sq;obtain ⟨its2,r2,p2,_⟩:=I.tuple hb.sq;cases r1;obtain ⟨⟨cls,dd,data,sl⟩,ho,hc,n,hdt⟩:=id p1;obtain ⟨⟨cls2,dd2,data2,sl2⟩,ho2,hc2,n2,hd2⟩:=id p2;simp only at hc hdt hc2 hd2;subst hc hdt hc2 hd2;exact concat_meets ⟨_,ho,rfl⟩ ⟨_,ho2,rfl⟩ noFill_tuple_add seq_tuple_add PySem.F.slot_tuple_add PySem.F.entry_tuple_add (PySem.F.args_tuple_add_2 _ _)
   (tuple_addW0 a b ([]:List Value).toArray its2.toArray n n2 dd dd2 sl sl2 (by rfl)) ⟨ho,ho2,⟨.ref b,H,I,rfl,q _ _ (aL.refl _) (.tup hb he)⟩⟩
 ·refine V1 pins s σ H _ _ v u Q I rx ry ⟨a,b,xs,ys,rfl,rfl,ha.sq,hb.sq,hx0,by omega,λz=>?_,λz p hp=>?_⟩
  ·subst z;cases he;exact q _ _ (aL.refl _) (by rw [List.append_nil];exact .tup ha hd)
  ·exact q _ _ (bD hp _) (.tup (SqU.of aV) ((j0 hd he).mono (bD hp _)))
theorem bO:OpR X (binaryOp .Add) (rG (gx X) cN):=by
 intro pins s σ H x y v u Q I rx ry h;obtain ⟨O,d,e,r,m,hx,hy,hr,q⟩:=h
 match d,e,hr with
 | .int i,.int j,hr=>
  cases hr;exact YH pins s σ H x y v u Q I rx ry ⟨i,j,b7 hx,b7 hy,q _ _ (aL.refl _) (.int _)⟩
 | .str i,.str j,hr=>
  obtain ⟨z,rfl⟩:=oif hr;exact Jo pins s σ H x y v u Q I rx ry ⟨i,j,du hx,du hy,z,q _ _ (aL.refl _) (.str _)⟩
 | .lst ds,.lst es,hr=>
  obtain ⟨z,rfl⟩:=oif hr;exact Uk pins s σ H x y v u Q I rx ry ⟨O,ds,es,m,hx,hy,z,Jt m q⟩
 | .tup ds,.tup es,hr=>
  obtain ⟨z,rfl⟩:=oif hr;exact Rn pins s σ H x y v u Q I rx ry ⟨O,ds,es,hx,hy,z,q⟩
theorem qi:OpR X (binaryOp .Sub) (rG (gx X) v5):=by
 intro pins s σ H x y v u Q I rx ry h;obtain ⟨O,d,e,r,m,hx,hy,hr,q⟩:=h
 match d,e,hr with
 | .int i,.int j,hr=>
  cases hr;exact W0 pins s σ H x y v u Q I rx ry ⟨i,j,b7 hx,b7 hy,q _ _ (aL.refl _) (.int _)⟩
theorem dU:OpR X (binaryOp .Mult) (rG (gx X) lO):=by
 intro pins s σ H x y v u Q I rx ry h;obtain ⟨O,d,e,r,m,hx,hy,hr,q⟩:=h
 match d,e,hr with
 | .int i,.int j,hr=>
  obtain ⟨z,rfl⟩:=oif hr;exact Vv pins s σ H x y v u Q I rx ry ⟨i,j,b7 hx,b7 hy,z,q _ _ (aL.refl _) (.int _)⟩
theorem lV:OpR X (binaryOp .FloorDiv) (rG (gx X) vB):=by
 intro pins s σ H x y v u Q I rx ry h;obtain ⟨O,d,e,r,m,hx,hy,hr,q⟩:=h
 match d,e,hr with
 | .int i,.int j,hr=>
  obtain ⟨z,rfl⟩:=oif hr;refine QG pins s σ H x y v u Q I rx ry ⟨i,j,b7 hx,b7 hy,z,?_⟩;have e:i.fdiv j=dvI i j:=by
   unfold dvI;split
   ·rw [Int.fdiv_eq_ediv_of_nonneg i (by omega)]
   ·rfl
  show Q (.int (i.fdiv j)) H;rw [e];exact q _ _ (aL.refl _) (.int _)
theorem dF:OpR X (binaryOp .Mod) (rG (gx X) iy):=by
 intro pins s σ H x y v u Q I rx ry h;obtain ⟨O,d,e,r,m,hx,hy,hr,q⟩:=h
 match d,e,hr with
 | .int i,.int j,hr=>
  obtain ⟨z,rfl⟩:=oif hr;refine U9 pins s σ H x y v u Q I rx ry ⟨i,j,b7 hx,b7 hy,z,?_⟩;have e:i.fmod j=mdI i j:=by
   unfold mdI;split
   ·rw [Int.fmod_eq_emod_of_nonneg i (by omega)]
   ·rfl
  show Q (.int (i.fmod j)) H;rw [e];exact q _ _ (aL.refl _) (.int _)
theorem Tp:OpR X (binaryOp .Pow) (rG (gx X) W4):=by
 intro pins s σ H x y v u Q I rx ry h;obtain ⟨O,d,e,r,m,hx,hy,hr,q⟩:=h
 match d,e,hr with
 | .int i,.int j,hr=>
  obtain ⟨z,rfl⟩:=oif hr;exact Xy pins s σ H x y v u Q I rx ry ⟨i,j,b7 hx,b7 hy,z,q _ _ (aL.refl _) (.int _)⟩
theorem uF:UnR X (unaryOp .USub) (rG1 (gx X) tW):=by
 intro pins s σ H x v Q I rx h;obtain ⟨O,d,r,m,hx,hr,q⟩:=h
 match d,hr with
 | .int i,hr=>
  cases hr;exact Xq pins s σ H x v Q I rx ⟨i,b7 hx,q _ _ (aL.refl _) (.int _)⟩
mutual
def toPy:D->Option PyData
 | .non=>some .none
 | .bl b=>some (.bool b)
 | .int i=>some (.int i)
 | .str x=>some (.str x)
 | .tup xs=>(uU xs).map .tuple
 | .lst xs=>(uU xs).map .list
 | .exc _=>none
 | .dct _ _=>none
 | .dcu _ _=>none
 | .adr _=>none
 | .ins _ _ _=>none
 | .dcf _ _=>none
def uU:List D->Option (List PyData)
 |[]=>some []
 |d::ds=>(toPy d).bind λp=>(uU ds).map λps=>p::ps
end
mutual
theorem Lr {G:Gx}{O:Zaa}{H:Hp}:∀{v:V} {d:D} {p:PyData},DV G O H v d->toPy d=some p->Hd.DV G.K H v p
 |_,_,_,.non,e=>by cases e;exact .non
 |_,_,_,.bl b,e=>by cases e;exact .bl b
 |_,_,_,.int i,e=>by cases e;exact .int i
 |_,_,_,.str x,e=>by cases e;exact .str x
 |_,_,_,.exc _ _,e=>by cases e
 |_,_,_,.tup h hs,e=>by
  obtain ⟨ps,e1,rfl⟩:=omap (by simpa [toPy] using e);exact .tup h.sq (yR hs e1)
 |_,_,_,.lst h hs,e=>by
  obtain ⟨ps,e1,rfl⟩:=omap (by simpa [toPy] using e);exact .lst h.sq (yR hs e1)
 |_,_,_,.dct _ _ _ _ _,e=>by cases e
 |_,_,_,.dcu _ _ _ _ _,e=>by cases e
 |_,_,_,.adr _,e=>by cases e
 |_,_,_,.ins _ _ _ _ _ _,e=>by cases e
 |_,_,_,.dcf _ _ _ _,e=>by cases e
theorem yR {G:Gx}{O:Zaa}{H:Hp}:∀{vs:List V} {ds:List D} {ps:List PyData},DVs G O H vs ds->uU ds=some ps->Hd.DVs G.K H vs ps
 |_,_,_,.nil,e=>by cases e;exact .nil
 |_,_,_,.cons (d:=d) (ds:=ds) h hs,e=>by
  unfold uU at e;cases e1:toPy d with
  |none=>rw [e1] at e;cases e
  |some p=>
   rw [e1] at e;obtain ⟨ps,e2,rfl⟩:=omap e;exact .cons (Lr h e1) (yR hs e2)
end
theorem rN {G:Gx}{O:Zaa}{H:Hp}{v:V}{d:D}{p:PyData}(h:DW G O H v d)(e:toPy d=some p):Hd.DV G.K H v p:=Lr h.any e
def pK (d e:D):Option Bool:=match toPy d,toPy e with
 |some p,some q=>if SeqAt.shaped p=true/\SeqAt.shaped q=true then some (PyData.eqv p q) else none
 |_,_=>none
def gEq:D->D->Option Bool
 | .int i,.int j=>some (decide (i=j))
 | .str i,.str j=>some (decide (i=j))
 | .bl i,.bl j=>some (decide (i=j))
 | .non,.non=>some true
 |d,e=>pK d e
def gNe (d e:D):Option Bool:=(gEq d e).map (!·)
theorem vO {d e:D}{b:Bool}(h:pK d e=some b):∃p q,toPy d=some p/\toPy e=some q/\SeqAt.shaped p=true/\SeqAt.shaped q=true/\PyData.eqv p q=b:=by
 unfold pK at h;cases e1:toPy d with
 |none=>rw [e1] at h;cases h
 |some p=>
  cases e2:toPy e with
  |none=>rw [e1,e2] at h;cases h
  |some q=>
   rw [e1,e2] at h;obtain ⟨⟨z1,z2⟩,rfl⟩:=oif h;exact ⟨p,q,rfl,rfl,z1,z2,rfl⟩
theorem Aq {d e:D}{b:Bool}(h:gEq d e=some b):(∃i j,d=.int i/\e=.int j/\b=decide (i=j))\/(∃i j,d=.str i/\e=.str j/\b=decide (i=j))\/(∃i j,d=.bl i/\e=.bl j/\b=decide (i=j))\/(d=.non/\e=.non/\b=true)\/pK d e=some b:=by
 unfold gEq at h;split at h
 ·cases h;exact .inl ⟨_,_,rfl,rfl,rfl⟩
 ·cases h;exact .inr (.inl ⟨_,_,rfl,rfl,rfl⟩)
 ·cases h;exact .inr (.inr (.inl ⟨_,_,rfl,rfl,rfl⟩))
 ·cases h;exact .inr (.inr (.inr (.inl ⟨rfl,rfl,rfl⟩)))
 ·exact .inr (.inr (.inr (.inr h)))
theorem dY (hu:X.A.units+64<cLine):OpR X (compareOp .Eq) (rGB (gx X) gEq):=by
 intro pins s σ H x y v u Q I rx ry h;obtain ⟨O,d,e,r,m,hx,hy,hr,q⟩:=h;rcases Aq hr with ⟨i,j,rfl,rfl,rfl⟩ | ⟨i,j,rfl,rfl,rfl⟩ | ⟨i,j,rfl,rfl,rfl⟩ | ⟨rfl,rfl,rfl⟩ | h
 ·cases b7 hx;cases b7 hy;exact JR pins s σ H _ _ v u Q I rx ry ⟨rfl,by simpa using q⟩
 ·cases du hx;cases du hy;exact JR pins s σ H _ _ v u Q I rx ry ⟨rfl,by simpa using q⟩
 ·cases HD hx;cases HD hy;exact JR pins s σ H _ _ v u Q I rx ry ⟨rfl,by simpa using q⟩
 ·cases xY hx;cases xY hy;exact JR pins s σ H _ _ v u Q I rx ry ⟨rfl,by simpa using q⟩
 ·obtain ⟨p,p',e1,e2,z1,z2,rfl⟩:=vO h;exact YW hu pins s σ H x y v u Q I rx ry ⟨p,p',rN hx e1,rN hy e2,z1,z2,q⟩
theorem jx (hu:X.A.units+64<cLine):OpR X (compareOp .NotEq) (rGB (gx X) gNe):=by
 intro pins s σ H x y v u Q I rx ry h;obtain ⟨O,d,e,r,m,hx,hy,hr,q⟩:=h;obtain ⟨c,hc,rfl⟩:=omap hr;rcases Aq hc with ⟨i,j,rfl,rfl,rfl⟩ | ⟨i,j,rfl,rfl,rfl⟩ | ⟨i,j,rfl,rfl,rfl⟩ | ⟨rfl,rfl,rfl⟩ | h
 ·cases b7 hx;cases b7 hy;exact JQ pins s σ H _ _ v u Q I rx ry ⟨rfl,by simpa using q⟩
 ·cases du hx;cases du hy;exact JQ pins s σ H _ _ v u Q I rx ry ⟨rfl,by simpa using q⟩
 ·cases HD hx;cases HD hy;exact JQ pins s σ H _ _ v u Q I rx ry ⟨rfl,by simpa using q⟩
 ·cases xY hx;cases xY hy;exact JQ pins s σ H _ _ v u Q I rx ry ⟨rfl,by simpa using q⟩
 ·obtain ⟨p,p',e1,e2,z1,z2,rfl⟩:=vO h;exact Ym hu pins s σ H x y v u Q I rx ry ⟨p,p',rN hx e1,rN hy e2,z1,z2,q⟩
def Je:List D->Option (List Int)
 |[]=>some []
 | .int i::ds=>(Je ds).map (i::·)
 |_::_=>none
theorem DN {G:Gx}{O:Zaa}{H:Hp}:∀{vs:List V} {ds:List D} {ns:List Int},DVs G O H vs ds->Je ds=some ns->vs=ns.map V.int
 |_,_,_,.nil,e=>by cases e;rfl
 |_,_,_,.cons (d:=d) h hs,e=>by
  cases d with
  |int i=>
   obtain ⟨ns,e1,rfl⟩:=omap (by simpa [Je] using e);cases h;rw [DN hs e1];rfl
  |_=>cases e
def gLt:D->D->Option Bool
 | .int i,.int j=>some (decide (i<j))
 | .tup a,.tup b=>match Je a,Je b with
  |some ns,some ms=>some (HT.lexLt ns ms)
  |_,_=>none
 |_,_=>none
def gLe:D->D->Option Bool
 | .int i,.int j=>some (decide (i<=j))
 |_,_=>none
def gGt:D->D->Option Bool
 | .int i,.int j=>some (decide (j<i))
 |_,_=>none
def gGe:D->D->Option Bool
 | .int i,.int j=>some (decide (j<=i))
 |_,_=>none
theorem Ec (hu:X.A.units+64<cLine):OpR X (compareOp .Lt) (rGB (gx X) gLt):=by
 intro pins s σ H x y v u Q I rx ry h;obtain ⟨O,d,e,r,m,hx,hy,hr,q⟩:=h
 match d,e,hr with
 | .int i,.int j,hr=>cases hr;exact ZD pins s σ H x y v u Q I rx ry ⟨i,j,b7 hx,b7 hy,q⟩
 | .tup a,.tup b,hr=>
  unfold gLt at hr;cases e1:Je a with
  |none=>simp only [e1] at hr;cases hr
  |some ns=>
   cases e2:Je b with
   |none=>simp only [e1,e2] at hr;cases hr
   |some ms=>
    simp only [e1,e2] at hr;cases hr;obtain ⟨p,xs,rfl,hp,hd⟩:=pW hx;obtain ⟨p',ys,rfl,hp',hd'⟩:=pW hy;exact Xg (by omega) pins s σ H _ _ v u Q I rx ry ⟨p,p',ns,ms,rfl,rfl,by rw [← DN hd e1];exact hp,by rw [← DN hd' e2];exact hp',q⟩
theorem CP:OpR X (compareOp .LtE) (rGB (gx X) gLe):=by
 intro pins s σ H x y v u Q I rx ry h;obtain ⟨O,d,e,r,m,hx,hy,hr,q⟩:=h
 match d,e,hr with
 | .int i,.int j,hr=>cases hr;exact Z0 pins s σ H x y v u Q I rx ry ⟨i,j,b7 hx,b7 hy,q⟩
theorem O3:OpR X (compareOp .Gt) (rGB (gx X) gGt):=by
 intro pins s σ H x y v u Q I rx ry h;obtain ⟨O,d,e,r,m,hx,hy,hr,q⟩:=h
 match d,e,hr with
 | .int i,.int j,hr=>cases hr;exact Zk pins s σ H x y v u Q I rx ry ⟨i,j,b7 hx,b7 hy,q⟩
theorem YC:OpR X (compareOp .GtE) (rGB (gx X) gGe):=by
 intro pins s σ H x y v u Q I rx ry h;obtain ⟨O,d,e,r,m,hx,hy,hr,q⟩:=h
 match d,e,hr with
 | .int i,.int j,hr=>cases hr;exact ZG pins s σ H x y v u Q I rx ry ⟨i,j,b7 hx,b7 hy,q⟩
end
section
variable {X:Cx}{E:XK}{e a b:Expr}{es:List Expr}{f fa:Zae}{fs:Zad}{pos p:Pos}
def gIx:D->D->Option D
 | .lst ds,.int i=>atI ds i
 | .tup ds,.int i=>atI ds i
 | .str z,.int i=>if z.length<=sizeLine then (atI z.cps.toList i).map λc=>.str ⟨#[c]⟩ else none
 |_,_=>none
theorem Lk {G:Gx}{O:Zaa}{H:Hp}{xs:List V}{ds:List D}{i:Int}{d:D}(h:DVs G O H xs ds)(e:atI ds i=some d):∃x,atI xs i=some x/\DV G O H x d:=by
 unfold atI at e ⊢;rw [cg h];cases q:ixN ds.length i with
 |none=>rw [q] at e;cases e
 |some j=>rw [q] at e;exact El h e
theorem bB:IxR X (rG (gx X) gIx):=by
 intro value slice pins s σ H x y v u Q I rx ry h hs;obtain ⟨O,d,e,r,m,hx,hy,hr,q⟩:=h
 match d,e,hr with
 | .lst ds,.int i,hr=>
  cases b7 hy;obtain ⟨p,xs,rfl,hp,hd⟩:=gM hx;obtain ⟨z,hz,dz⟩:=Lk hd hr;exact Tj value slice pins s σ H _ _ v u Q I rx ry ⟨p,xs,i,z,rfl,rfl,hp,hz,q _ _ (aL.refl _) dz⟩ hs
 | .tup ds,.int i,hr=>
  cases b7 hy;obtain ⟨p,xs,rfl,hp,hd⟩:=pW hx;obtain ⟨z,hz,dz⟩:=Lk hd hr;exact Yy value slice pins s σ H _ _ v u Q I rx ry ⟨p,xs,i,z,rfl,rfl,hp,hz,q _ _ (aL.refl _) dz⟩ hs
 | .str z,.int i,hr=>
  cases b7 hy;cases du hx;have hr':(if z.length<=sizeLine then (atI z.cps.toList i).map λc=>D.str ⟨#[c]⟩ else none)=some r:=hr;by_cases hz:z.length<=sizeLine
  ·rw [if_pos hz] at hr';obtain ⟨c,hc,rfl⟩:=omap hr';exact Zc value slice pins s σ H _ _ v u Q I rx ry ⟨z,i,c,rfl,rfl,hz,hc,q _ _ (aL.refl _) (.str _)⟩ hs
  ·rw [if_neg hz] at hr';cases hr'
def tO (G:Gx)(E:XK)(f:Me->Res (Option Int)):TO:=λσ H Q=>∃O0 M0 H0 ow m,Rel G O0 M0 H0 ow σ H m/\Pu G E (f m) H λo=>∀H',aL H H'->Q o H'
abbrev FO (X:Cx)(E:XK)(e:Option Expr)(f:Me->Res (Option Int)):Prop:=PO X e (tO (gx X) E f)
theorem Kr {e:Option Expr}{T T':TO}(h:PO X e T)(k:∀σ H Q,T' σ H Q->T σ H Q):PO X e T':=λpins s σ H Q I q=>h pins s σ H Q I (k σ H Q q)
def fO0:Me->Res (Option Int):=λ_=>.ok none
def fO1 (f:Zae):Me->Res (Option Int):=λm=>(f m).bind λd=>match d with
 | .int i=>.ok (some i)
 |_=>.stuck
theorem Ek:FO X E none fO0:=Kr Vk λσ H Q hE=>xq5 hE λO0 M0 H0 ow m R q=>q H (aL.refl _)
theorem Fe (h:FB X E e f):FO X E (some e) (fO1 f):=Kr (Tr h) λσ H Q hE=>xq5 hE λO0 M0 H0 ow m R q=>⟨O0,M0,H0,ow,m,R,q.bind.imp (aL.refl _) λd q v H' g hv=>by
 cases d with
 |int i=>cases b7 hv;exact ⟨i,rfl,q H' g⟩
 |_=>exact q.elim⟩
def cut {α:Type}(xs:List α)(lo hi:Option Int):List α:=(xs.drop (HT.sIx xs.length 0 lo)).take (HT.sIx xs.length xs.length hi-HT.sIx xs.length 0 lo)
def gSl:D->Option Int->Option Int->Option D
 | .lst ds,lo,hi=>some (.lst (cut ds lo hi))
 | .tup ds,lo,hi=>if HT.sIx ds.length 0 lo=0/\HT.sIx ds.length ds.length hi=ds.length then none else some (.tup (cut ds lo hi))
 | .str z,lo,hi=>if z.length<=sizeLine then some (.str (Txt.slice z lo hi)) else none
 |_,_,_=>none
def rSl (G:Gx):V->Option Int->Option Int->Hp->VK->Prop:=λx lo hi H Q=>∃O d r,(∀b,O b->fH (H b))/\DW G O H x d/\gSl d lo hi=some r/\∀v H',aL H H'->DV G O H' v r->Q v H'
def aby:D->Option Int->Option Int->Option D
 | .lst ds,lo,hi=>some (.lst (cut ds lo hi))
 |_,_,_=>none
def aa8 (G:Gx):V->Option Int->Option Int->Hp->VK->Prop:=λx lo hi H Q=>∃O d r,(∀b,O b->fH (H b))/\DW G O H x d/\aby d lo hi=some r/\∀p H',aL H H'->H p=none->OV G (Op O p) H' p r->Q (.ref p) H'
theorem Kv {G:Gx}{O:Zaa}{H:Hp}{xs:List V}{ds:List D}{lo hi:Option Int}(h:DVs G O H xs ds):DVs G O H (Fo xs lo hi) (cut ds lo hi):=by
 unfold Fo cut;rw [cg h];exact yF _ (Hu _ h)
theorem aaw:SlR X (aa8 (gx X)):=by
 intro pins s σ H x v vl vu lo hi sl Q I rx hs pl pu h;obtain ⟨O,d,r,m,hx,hr,q⟩:=h
 match d,hr with
 | .lst ds,hr=>
  cases hr;obtain ⟨p,xs,rfl,hp,hd⟩:=gM hx;exact Us pins s σ H _ v vl vu lo hi sl Q I rx hs pl pu ⟨p,xs,rfl,hp,λp hp'=>q p _ (bD hp' _) hp' ⟨_,aV,((Kv hd).cI λb z=>z.elim .inl λe=>.inr (by rw [e];exact hp')).mono (bD hp' _)⟩⟩
theorem RT {u:Value}{o:Option Int}(h:IsPart u o):∃l:Option (Int×Tok),u=partValue l/\l.map (·.1)=o:=by
 cases h with
 |none=>exact ⟨none,rfl,rfl⟩
 |int i t=>exact ⟨some (i,t),rfl,rfl⟩
theorem aaU:SlR X (rSl (gx X)):=by
 intro pins s σ H x v vl vu lo hi sl Q I rx hs pl pu h;obtain ⟨O,d,r,m,hx,hr,q⟩:=h
 match d,hr with
 | .lst ds,hr=>exact aaw pins s σ H x v vl vu lo hi sl Q I rx hs pl pu ⟨O,.lst ds,r,m,hx,hr,Jt m q⟩
 | .tup ds,hr=>
  obtain ⟨p,xs,rfl,hp,hd⟩:=pW hx;have hr':(if HT.sIx ds.length 0 lo=0/\HT.sIx ds.length ds.length hi=ds.length then none else some (D.tup (cut ds lo hi)))=some r:=hr;by_cases z:HT.sIx ds.length 0 lo=0/\HT.sIx ds.length ds.length hi=ds.length
  ·rw [if_pos z] at hr';cases hr'
  ·rw [if_neg z] at hr';cases hr';exact Yl pins s σ H _ v vl vu lo hi sl Q I rx hs pl pu ⟨p,xs,rfl,hp,by rw [cg hd];exact z,λp hp'=>q _ _ (bD hp' _) (.tup (SqU.of aV) ((Kv hd).mono (bD hp' _)))⟩
 | .str z,hr=>
  cases du hx;obtain ⟨t,rfl⟩:=rx;obtain ⟨hz,rfl⟩:=oif hr;obtain ⟨l,rfl,rfl⟩:=RT pl;obtain ⟨u,rfl,rfl⟩:=RT pu;refine ⟨"str",_,PySem.F.slot_str_getitem.lookup,typeIs_str _ _ _,wpAny_getItem_str_slice (l:=l) (u:=u) (st:=none) hs rfl (post_val_or_str ⟨Nat.le_trans (Txt.slice_le z _ _) hz,λt' k=>VJ (tk:=k) I q⟩)⟩
def fSl (f:Zae)(lo hi:Me->Res (Option Int)):Zae:=λm=>(f m).bind λd=>(lo m).bind λl=>(hi m).bind λu=>ofO (gSl d l u)
variable {lo hi:Option Expr}{fl fh:Me->Res (Option Int)}{p2:Pos}
theorem xW (he:FB X E e f)(hl:FO X E lo fl)(hu:FO X E hi fh):FE X E (.Subscript e (.Slice lo hi none p2) pos) (fSl f fl fh):=
 bJ (Q4 aaU he hl hu) λσ H Q hE=>xq5 hE λO0 M0 H0 ow m R q=>⟨O0,M0,H0,ow,m,R,q.bind.imp (aL.refl _) λd q v H1 g1 hv=>⟨O0,M0,H0,ow,m,R.mono g1,q.bind.imp g1 λl q H2 g2=>⟨O0,M0,H0,ow,m,R.mono (g1.trans g2),q.bind.imp (g1.trans g2) λu q H3 g3=>by
  obtain ⟨r,hr,k⟩:=q.ofO;exact ⟨_,d,r,(R.mono ((g1.trans g2).trans g3)).mutk,hv.mono (g2.trans g3),hr,λv H' g d=>k v H' (((g1.trans g2).trans g3).trans g) d⟩⟩⟩⟩
def eN:List D->Option D
 |[.lst ds]=>some (.int ds.length)
 |[.tup ds]=>some (.int ds.length)
 |[.str z]=>if z.length<=sizeLine then some (.int z.length) else none
 |[.dct ks _]=>some (.int ks.length)
 |_=>none
theorem qt {G:Gx}{O:Zaa}{H:Hp}{vs:List V}{d:D}(h:DWs G O H vs [d]):∃v,vs=[v]/\DW G O H v d:=by
 cases h with
 |cons a t=>cases t;exact ⟨_,rfl,a⟩
theorem Oh:gG X (.builtin "len") (λxs H Q=>∃a kvs,xs=[V.ref a]/\Rd H a (.dK kvs)/\Q (.int kvs.length) H):=by
 intro pins s σ H xs us Q I r h;obtain ⟨a,kvs,rfl,e,q⟩:=h;obtain ⟨u,rfl,rx⟩:=vals1 r;cases rx;exact Zi I e λt s' I'=>⟨.int kvs.length,H,I',⟨t,rfl⟩,q⟩
theorem cG:gG X (.builtin "len") (rGC (gx X) eN):=by
 intro pins s σ H xs us Q I r h;obtain ⟨O,ds,d,m,hx,hr,q⟩:=h
 match ds,hr with
 |[.lst ds],hr=>
  cases hr;obtain ⟨v,rfl,hv⟩:=qt hx;obtain ⟨p,xs,rfl,hp,hd⟩:=gM hv;exact uB pins s σ H _ us Q I r ⟨p,xs,rfl,.inl hp,by rw [cg hd];exact q _ _ (aL.refl _) (.int _)⟩
 |[.tup ds],hr=>
  cases hr;obtain ⟨v,rfl,hv⟩:=qt hx;obtain ⟨p,xs,rfl,hp,hd⟩:=pW hv;exact uB pins s σ H _ us Q I r ⟨p,xs,rfl,.inr hp,by rw [cg hd];exact q _ _ (aL.refl _) (.int _)⟩
 |[.str z],hr=>
  obtain ⟨hz,rfl⟩:=oif hr;obtain ⟨v,rfl,hv⟩:=qt hx;cases du hv;exact Du pins s σ H _ us Q I r ⟨z,rfl,hz,q _ _ (aL.refl _) (.int _)⟩
 |[.dct ks vs],hr=>
  cases hr;obtain ⟨v,rfl,hv⟩:=qt hx;obtain ⟨p,kvs,ws,rfl,hp,e1,e2,hd⟩:=wB hv;exact Oh pins s σ H _ us Q I r ⟨p,kvs,rfl,hp,by rw [show kvs.length=ks.length by rw [← e1,List.length_map]];exact q _ _ (aL.refl _) (.int _)⟩
def V9:List D->Option D
 |[.int i]=>some (.int (if i<0 then -i else i))
 |_=>none
theorem Ak:gG X (.builtin "abs") (rGC (gx X) V9):=by
 intro pins s σ H xs us Q I r h;obtain ⟨O,ds,d,m,hx,hr,q⟩:=h
 match ds,hr with
 |[.int i],hr=>
  cases hr;obtain ⟨v,rfl,hv⟩:=qt hx;cases b7 hv;exact Qj pins s σ H _ us Q I r ⟨i,rfl,q _ _ (aL.refl _) (.int _)⟩
def zT:List D->Option D
 |[.int i]=>if i.natAbs.log2<1920 then some (.str (toString i:String)) else none
 |_=>none
theorem mG:gG X (.type "str") (rGC (gx X) zT):=by
 intro pins s σ H xs us Q I r h;obtain ⟨O,ds,d,m,hx,hr,q⟩:=h
 match ds,hr with
 |[.int i],hr=>
  obtain ⟨hz,rfl⟩:=oif hr;obtain ⟨v,rfl,hv⟩:=qt hx;cases b7 hv;exact CV pins s σ H _ us Q I r ⟨i,rfl,hz,q _ _ (aL.refl _) (.str _)⟩
def jB:List D->Option D
 |[.lst ds]=>some (.tup ds)
 |[.tup ds]=>some (.tup ds)
 |_=>none
theorem lC:gG X (.type "tuple") (rGC (gx X) jB):=by
 intro pins s σ H xs us Q I r h;obtain ⟨O,ds,d,m,hx,hr,q⟩:=h
 match ds,hr with
 |[.lst ds],hr=>
  cases hr;obtain ⟨v,rfl,hv⟩:=qt hx;obtain ⟨p,xs,rfl,hp,hd⟩:=gM hv;exact sI pins s σ H _ us Q I r ⟨p,xs,rfl,.inl ⟨hp,λl hl=>q _ _ (bD hl _) (.tup (SqU.of aV) (hd.mono (bD hl _)))⟩⟩
 |[.tup ds],hr=>
  cases hr;obtain ⟨v,rfl,hv⟩:=qt hx;obtain ⟨p,xs,rfl,hp,hd⟩:=xG hv;exact sI pins s σ H _ us Q I r ⟨p,xs,rfl,.inr ⟨hp.sq,q _ _ (aL.refl _) (.tup hp hd)⟩⟩
def Ou:List D->Option D
 |[.lst ds]=>some (.lst ds)
 |[.tup ds]=>some (.lst ds)
 |_=>none
theorem Io:gG X (.type "list") (V6 (gx X) Ou):=by
 intro pins s σ H xs us Q I r h;obtain ⟨O,ds,d,m,hx,hr,q⟩:=h;have go:∀{p:Addr} {ys:List V} {ds:List D},(SqL X.K H p ys\/SqT X.K H p ys)->DVs (gx X) O H ys ds->(∀p H',aL H H'->H p=none->OV (gx X) (Op O p) H' p (.lst ds)->Q (.ref p) H')->Vals [V.ref p] us->wpAny (model X.prog X.w) X.A (call (.type "list") us) (EP X pins σ Q) X.xe s:=
  λhp hd q r=>Fg pins s σ H _ us Q I r ⟨_,_,rfl,hp,λl hl=>q _ _ (bD hl _) hl ⟨_,aV,(hd.cI λb z=>z.elim .inl λe=>.inr (by rw [e];exact hl)).mono (bD hl _)⟩⟩
 match ds,hr with
 |[.lst ds],hr=>
  cases hr;obtain ⟨v,rfl,hv⟩:=qt hx;obtain ⟨p,xs,rfl,hp,hd⟩:=gM hv;exact go (.inl hp) hd q r
 |[.tup ds],hr=>
  cases hr;obtain ⟨v,rfl,hv⟩:=qt hx;obtain ⟨p,xs,rfl,hp,hd⟩:=pW hv;exact go (.inr hp) hd q r
def iG:D->String
 | .non=>"NoneType"
 | .bl _=>"bool"
 | .int _=>"int"
 | .str _=>"str"
 | .tup _=>"tuple"
 | .lst _=>"list"
 | .dct _ _=>"dict"
 | .dcu _ _=>"dict"
 | .exc _=>""
 | .dcf _ _=>""
 | .adr _=>""
 | .ins _ _ _=>""
def G6 (t T:String):Bool:=t == T || (t == "bool" && T == "int")
def kinds:List String:=["NoneType", "bool", "int", "str", "tuple", "list", "dict"]
theorem Vd {K:W.Frag}{t:String}:W.kitOne K (.type t) (.type t)=some true:=by unfold W.kitOne;rw [if_pos (by simp)]
theorem Vh {K:W.Frag}:∀t∈kinds,∀T∈kinds,W.kitOne K (.type t) (.type T)=some (G6 t T):=by
 intro t ht T hT;simp only [kinds,List.mem_cons,List.not_mem_nil,or_false] at ht hT;rcases ht with rfl | rfl | rfl | rfl | rfl | rfl | rfl<;>rcases hT with rfl | rfl | rfl | rfl | rfl | rfl | rfl<;>first | exact Vd | kernel_rfl
theorem Su {G:Gx}{O:Zaa}{H:Hp}{v:V}{d:D}(h:DW G O H v d)(n:iG d≠""):iG d∈kinds/\TyK G.K H v (.type (iG d)):=by
 have z:=h.any;cases z with
 |non=>exact ⟨by simp [iG,kinds],.of .non⟩
 |bl b=>exact ⟨by simp [iG,kinds],.of (.bl b)⟩
 |int b=>exact ⟨by simp [iG,kinds],.of (.int b)⟩
 |str b=>exact ⟨by simp [iG,kinds],.of (.str b)⟩
 |exc _ _=>exact absurd rfl n
 |dcf _ _ _ _=>exact absurd rfl n
 |adr _=>exact absurd rfl n
 |ins _ _ _ _ _ _=>exact absurd rfl n
 |tup hq _=>exact ⟨by simp [iG,kinds],.tup hq.sq⟩
 |lst hq _=>exact ⟨by simp [iG,kinds],.lst hq.sq⟩
 |dct _ e _ _ _=>exact ⟨by simp [iG,kinds],.of (.dK e)⟩
 |dcu _ e _ _ _=>exact ⟨by simp [iG,kinds],.of (.dT e)⟩
def jo (T:String)(f:Zae):Zae:=λm=>(f m).bind λd=>if iG d = "" then .stuck else .ok (.bl (G6 (iG d) T))
theorem jb {x y:Str}{py:Pos}{T:String}(ha:FB X E a fa)(hg:Gl X "isinstance")(hm:X.mg "isinstance" = none)(hv:bootBuiltins "isinstance" = some (.builtin "isinstance"))(hgy:Gl X y)(hmy:X.mg y=none)(hvy:bootBuiltins y=some (.type T))(hT:T∈kinds:=by decide)
  (hny:y≠"__name__":=by decide) (hdy:(y == ("__debug__" : Str))=false:=by decide)
  (he:starEach [a,.Name y py] X.env=(false,eval a X.env)::starEach [.Name y py] X.env:=by rfl) (he2:starEach [.Name y py] X.env=(false,eval (.Name y py) X.env)::starEach [] X.env:=by rfl) (hpl:(backTo pos (starEach [.Name y py] X.env)).any (·.1)=false:=by rfl):
  FE X E (.Call (.Name "isinstance" p) [a,.Name y py] [] pos) (jo T fa):=
 bJ (FP NZ hg hm hv (pQ ha (pQ (Ud (v:=.ty T) hgy hmy hvy rfl hny hdy) wC he2) he) (by decide) (by decide) he hpl) λσ H Q hE=>xq5 hE λO0 M0 H0 ow m R q=>⟨O0,M0,H0,ow,m,R,q.bind.imp (aL.refl _) λd q v H' g hv=>by
  by_cases n:iG d = ""
  ·rw [if_pos n] at q;exact q.elim
  ·rw [if_neg n] at q;obtain ⟨k1,k2⟩:=Su hv n;exact ⟨v,.ty T,_,_,_,rfl,rfl,k2,Vh _ k1 T hT,q _ _ g (.bl _)⟩⟩
end
section
variable {G:Gx}{O0 M0:Zaa}{H0 H H':Hp}{ow:Os}{σ:L2.St}{m:Me}
theorem dW.chg {i:Nat}{a:Addr}{d d':D}{s':Sl}(R:dW G O0 M0 H0 ow σ H m)(ho:ow i=some a)(g:Kp (· = a) H H')(h:OV G (Ow O0 ow) H' a d')
  (hs:(m[i]? = some (.ow d)/\s'=.ow d')\/(m[i]? = some (.io d)/\s'=.io d')):dW G O0 M0 H0 ow σ H' (m.set i s'):=by
 have oa:Ow O0 ow a:=.inr ⟨i,ho⟩;have kp:Kp (Ow O0 ow) H H':=λb u e n=>g b u e λz=>n (z ▸ oa);have hi:i<m.length:=by rcases hs with ⟨e,_⟩ | ⟨e,_⟩<;>exact xZ e
 have ne:∀b o,H b=some o->b≠a->H' b=H b:=λb o e n=>by rw [e];exact g b o e n
 refine ⟨⟨by simp [R.len],λb u e n=>?_,λb z=>?_,λb z=>?_,R.no0,R.inj,λj hj=>R.out j (by simpa using hj),λj s e=>?_⟩,vM R.nb λ_ z=>by rcases hs with ⟨_,w⟩ | ⟨_,w⟩<;>(rw [w] at z;cases z)⟩
 ·refine g b u (R.keep b u e n) λz=>?_;subst z;rcases hs with ⟨q,_⟩ | ⟨q,_⟩
  ·obtain ⟨a',e1,e2,_⟩:=R.slot i _ q;rw [ho] at e1;cases e1;rw [e2] at e;cases e
  ·obtain ⟨a',e1,e2,_⟩:=R.slot i _ q;rw [ho] at e1;cases e1;exact n e2
 ·by_cases q:b=a
  ·rw [q]
   have:=h.mut
   intro w;rw [w] at this;rcases this with ⟨_,e⟩ | ⟨_,e⟩ | ⟨_,e⟩ | ⟨_,e⟩<;>cases e
  ·cases w:H b with
   |none=>exact absurd w (R.m0 b z)
   |some o=>rw [g b o w q];simp
 ·by_cases q:b=a
  ·rw [q];exact h.mut
  ·have:=R.mutk b z
   rcases this with ⟨_,e⟩ | ⟨_,e⟩ | ⟨_,e⟩ | ⟨_,e⟩
   ·rw [ne b _ e q];exact .inl ⟨_,e⟩
   ·rw [ne b _ e q];exact .inr (.inl ⟨_,e⟩)
   ·rw [ne b _ e q];exact .inr (.inr (.inl ⟨_,e⟩))
   ·rw [ne b _ e q];exact .inr (.inr (.inr ⟨_,e⟩))
 ·by_cases q:j=i
  ·subst q;rw [List.getElem?_set_self hi] at e;cases e;rcases hs with ⟨q,rfl⟩ | ⟨q,rfl⟩
   ·obtain ⟨a',e1,e2,e3,_⟩:=R.slot j _ q;rw [ho] at e1;cases e1;exact ⟨a,ho,e2,e3,h⟩
   ·obtain ⟨a',e1,e2,e3,_⟩:=R.slot j _ q;rw [ho] at e1;cases e1;exact ⟨a,ho,e2,e3,h⟩
  ·rw [List.getElem?_set_ne (Ne.symm q)] at e;have z:=R.slot j s e;have other:∀{b:Addr} {d:D},ow j=some b->OV G (Ow O0 ow) H b d->OV G (Ow O0 ow) H' b d:=λ{b d} e1 h1=>by
    have nb:b≠a:=λw=>q (R.inj j i b e1 (w ▸ ho));rcases h1.mut with ⟨_,e⟩ | ⟨_,e⟩ | ⟨_,e⟩ | ⟨_,e⟩<;>exact h1.kp R.mutk kp (ne b _ e nb)
   cases s with
   |un=>exact z
   |fz d=>obtain ⟨b,x,e,q⟩:=z;exact ⟨b,x,e,q.kp R.mutk kp⟩
   |ow d=>obtain ⟨b,x,e,f,q'⟩:=z;exact ⟨b,x,e,f,other x q'⟩
   |io d=>obtain ⟨b,x,e,f,q'⟩:=z;exact ⟨b,x,e,f,other x q'⟩
   |bw d=>exact (R.nb j d e).elim
   |hd w b d=>obtain ⟨x,e,f,q'⟩:=z;exact ⟨x,e,f,other x q'⟩
theorem Go.chg {i:Nat}{a:Addr}{d:D}(ho:ow i=some a)(g:Kp (· = a) H H')(h:OV G (Ow O0 ow) H' a d):Go O0 ow H ow H':=
 ⟨λb u e n=>g b u e λz=>n (z ▸ .inr ⟨i,ho⟩),λj b e=>.inl (.inr ⟨j,e⟩),λb n=>by
  by_cases q:b=a
  ·rw [q]
   have:=h.mut
   intro w;rw [w] at this;rcases this with ⟨_,e⟩ | ⟨_,e⟩ | ⟨_,e⟩ | ⟨_,e⟩<;>cases e
  ·cases w:H b with
   |none=>exact absurd w n
   |some o=>rw [g b o w q];simp⟩
theorem pO {a:Addr}{o:HO}:Kp (· = a) H (L2.upd H a o):=λb u e n=>by rw [L2.bc n];exact e
def yw (m:Me)(i:Nat):Option (Bool×List D):=match m[i]? with
 |some (.ow (.lst ds))=>some (true,ds)
 |some (.io (.lst ds))=>some (false,ds)
 |_=>none
def putL (m:Me)(i:Nat)(k:Bool)(ds:List D):Me:=m.set i (if k then .ow (.lst ds) else .io (.lst ds))
theorem Ck (R:Rel G O0 M0 H0 ow σ H m){i:Nat}{k:Bool}{ds:List D}(e:yw m i=some (k,ds)):∃a xs,ow i=some a/\σ[i]? = some (some (.ref a))/\H a=some (.lst xs)/\DVs G (Ow O0 ow) H xs ds/\((m[i]? = some (.ow (.lst ds))/\k=true)\/(m[i]? = some (.io (.lst ds))/\k=false)):=by
 unfold yw at e;split at e
 ·rename_i q;cases e;obtain ⟨a,e1,e2,e3,xs,e4,e5⟩:=R.slot i _ q;exact ⟨a,xs,e1,e3,e4,e5,.inl ⟨q,rfl⟩⟩
 ·rename_i q;cases e;obtain ⟨a,e1,e2,e3,xs,e4,e5⟩:=R.slot i _ q;exact ⟨a,xs,e1,e3,e4,e5,.inr ⟨q,rfl⟩⟩
 ·cases e
theorem dW.put {i:Nat}{k:Bool}{a:Addr}{ds es:List D}{ys:List V}(R:dW G O0 M0 H0 ow σ H m)(ho:ow i=some a)(hm:(m[i]? = some (.ow (.lst ds))/\k=true)\/(m[i]? = some (.io (.lst ds))/\k=false))(hd:DVs G (Ow O0 ow) H ys es):
  dW G O0 M0 H0 ow σ (L2.upd H a (.lst ys)) (putL m i k es)/\Go O0 ow H ow (L2.upd H a (.lst ys)):=by
 have oa:Ow O0 ow a:=.inr ⟨i,ho⟩;have kp:Kp (Ow O0 ow) H (L2.upd H a (.lst ys)):=λb u e n=>pO b u e λz=>n (z ▸ oa);have ov:OV G (Ow O0 ow) (L2.upd H a (.lst ys)) a (.lst es):=⟨ys,L2.aV,hd.kp R.mutk kp⟩;refine ⟨R.chg (d:=.lst ds) (d':=.lst es) ho pO ov ?_,Go.chg ho pO ov⟩;rcases hm with ⟨e,rfl⟩ | ⟨e,rfl⟩
 ·exact .inl ⟨e,rfl⟩
 ·exact .inr ⟨e,rfl⟩
end
section
variable {X:Cx}{E:XK}{e:Expr}{es:List Expr}{f:Zae}{fs:Zad}{pos apos cpos np:Pos}{i j:Nat}{x y:Str}
def fY (i:Nat)(f:Zae):Zab:=λm=>(ofO (yw m i)).bind λo=>(f m).bind λd=>if o.2.length<sizeLine then .ok (.nx,putL m i o.1 (o.2++[d])) else .stuck
theorem pA (i:Nat)(he:FE X E e f)(hN:X.N[i]? = some x:=by rfl)(hv:Vis X.env.scope x:=by first | exact Or.inl rfl | exact Or.inr (Or.inl rfl) | exact Or.inr (Or.inr rfl))(hd:(x == ("__debug__" : Str))=false:=by decide)(hcd:(x == ("__classdict__" : Str))=false:=by decide)
  (hbase:attributeBase (.Name x np) "append" X.env (eval (.Name x np) X.env)=eval (.Name x np) X.env:=by rfl)
  (hfew:((backTo cpos (starEach [e] X.env)).all (λx=>!x.1) && (backToKw cpos (keywordEach [] X.env)).all (λx=>x.1.isSome) && decide ([e].length+([]:List Keyword).length+(if ([]:List Keyword).isEmpty then 0 else 1)<30))=true:=by rfl)
  (hline:(apos.endLine == cpos.line)=true:=by rfl) (hs:starEach [e] X.env=(false,eval e X.env)::starEach [] X.env:=by rfl) (hplain:(backTo cpos (starEach [] X.env)).any (·.1)=false:=by rfl)
  (hsw:swapsWith (.Call (.Attribute (.Name x np) "append" apos) [e] [] cpos) none pos.line X.env=pure false:=by rfl):
  FS X E (.Expr (.Call (.Attribute (.Name x np) "append" apos) [e] [] cpos) pos) (fY i f):=
 eQ (xu (Rx PySem.F.plainAttrs_list PySem.F.slot_list_append PySem.F.type_list_append Be (oh hN hv hd hcd) (pQ he wC hs) hbase hfew hline hs hplain) hsw) λW σ H hE=>xq5 hE λO0 M0 H0 ow m R q=>by
  obtain ⟨o,ho,q⟩:=Ss.ofO q;obtain ⟨k,ds⟩:=o;obtain ⟨a,xs,e1,e2,e3,e4,e5⟩:=Ck R.toRel ho;refine ⟨_,e2,.inl ⟨rfl,xs,SqL.of e3⟩,O0,M0,H0,ow,m,R.toRel,(Ss.pu R.toRel q).imp (aL.refl _) λd q v H1 g1 hv=>?_⟩;have R1:=R.mono g1;by_cases hz:ds.length<sizeLine
  ·rw [if_pos hz] at q;obtain ⟨R2,g2⟩:=R1.put (es:=ds++[d]) (ys:=xs++[v]) e1 e5 (j0 (e4.mono g1) (.cons hv .nil));exact ⟨a,xs,v,rfl,rfl,g1 _ _ e3,by rw [cg e4];exact hz,q _ _ _ R2 ((Go.refl g1).trans g2)⟩
  ·rw [if_neg hz] at q;exact q.elim
def uY (i:Nat)(f:Zae):Zab:=λm=>(ofO (yw m i)).bind λo=>(f m).bind λd=>match d with
 | .lst es=>if o.2.length+es.length<=sizeLine then .ok (.nx,putL m i o.1 (o.2++es)) else .stuck
 |_=>.stuck
theorem BK (i:Nat)(he:FN X E e f)(hN:X.N[i]? = some x:=by rfl)(hv:Vis X.env.scope x:=by first | exact Or.inl rfl | exact Or.inr (Or.inl rfl) | exact Or.inr (Or.inr rfl))(hd:(x == ("__debug__" : Str))=false:=by decide)(hcd:(x == ("__classdict__" : Str))=false:=by decide)
  (hbase:attributeBase (.Name x np) "extend" X.env (eval (.Name x np) X.env)=eval (.Name x np) X.env:=by rfl)
  (hfew:((backTo cpos (starEach [e] X.env)).all (λx=>!x.1) && (backToKw cpos (keywordEach [] X.env)).all (λx=>x.1.isSome) && decide ([e].length+([]:List Keyword).length+(if ([]:List Keyword).isEmpty then 0 else 1)<30))=true:=by rfl)
  (hline:(apos.endLine == cpos.line)=true:=by rfl) (hs:starEach [e] X.env=(false,eval e X.env)::starEach [] X.env:=by rfl) (hplain:(backTo cpos (starEach [] X.env)).any (·.1)=false:=by rfl)
  (hsw:swapsWith (.Call (.Attribute (.Name x np) "extend" apos) [e] [] cpos) none pos.line X.env=pure false:=by rfl):
  FS X E (.Expr (.Call (.Attribute (.Name x np) "extend" apos) [e] [] cpos) pos) (uY i f):=
 eQ (xu (Rx PySem.F.plainAttrs_list PySem.F.slot_list_extend PySem.F.type_list_extend N6 (oh hN hv hd hcd) (pQ he wC hs) hbase hfew hline hs hplain) hsw) λW σ H hE=>xq5 hE λO0 M0 H0 ow m R q=>by
  obtain ⟨o,ho,q⟩:=Ss.ofO q;obtain ⟨k,ds⟩:=o;obtain ⟨a,xs,e1,e2,e3,e4,e5⟩:=Ck R.toRel ho;refine ⟨_,e2,.inl ⟨rfl,xs,SqL.of e3⟩,O0,M0,H0,ow,m,R.toRel,(Ss.pu R.toRel q).imp (aL.refl _) λd q p H1 g1 n hv=>?_⟩;have R1:=R.mono g1;cases d with
  |lst es=>
   have q:Ss (gx X) E O0 M0 H0 ow H W (if ds.length+es.length<=sizeLine then .ok (.nx,putL m i k (ds++es)) else .stuck):=q;obtain ⟨zs,h1,h2⟩:=hv;by_cases hz:ds.length+es.length<=sizeLine
   ·rw [if_pos hz] at q;have h2':DVs (gx X) (Ow O0 ow) H1 zs es:=h2.cI λb z=>.inl (.inl z);obtain ⟨R2,g2⟩:=R1.put (es:=ds++es) (ys:=xs++zs) e1 e5 (j0 (e4.mono g1) h2');exact ⟨a,p,xs,zs,rfl,rfl,g1 _ _ e3,h1,by rw [cg e4,cg h2];exact hz,q _ _ _ R2 ((Go.refl g1).trans g2)⟩
   ·rw [if_neg hz] at q;exact q.elim
  |_=>exact q.elim
def Cz (j i:Nat):Zab:=λm=>(ofO (yw m i)).bind λo=>(ofO (o.2[o.2.length - 1]?)).bind λd=>.ok (.nx,(putL m i o.1 o.2.dropLast).set j (.fz d))
theorem Dw {G:Gx}{O:Zaa}{H:Hp}{xs:List V}{ds:List D}(h:DVs G O H xs ds):DVs G O H xs.dropLast ds.dropLast:=by
 rw [List.dropLast_eq_take,List.dropLast_eq_take,cg h];exact yF _ h
theorem M7 (j i:Nat)(hnd:X.N.Nodup)(hj:X.N[j]? = some y)(hy:Loc X.env.scope y)(hN:X.N[i]? = some x:=by rfl)(hv:Vis X.env.scope x:=by first | exact Or.inl rfl | exact Or.inr (Or.inl rfl) | exact Or.inr (Or.inr rfl))(hd:(x == ("__debug__" : Str))=false:=by decide)(hcd:(x == ("__classdict__" : Str))=false:=by decide)
  (hbase:attributeBase (.Name x np) "pop" X.env (eval (.Name x np) X.env)=eval (.Name x np) X.env:=by rfl) (hline:(apos.endLine == cpos.line)=true:=by rfl) {yp:Pos}
  (hsw:swapsWith (.Call (.Attribute (.Name x np) "pop" apos) [] [] cpos) (some (.Name y yp)) pos.line X.env=pure false:=by rfl) (hf:X.fn y=true\/X.env.scope.names.lookup y=some .local:=by first | exact .inl rfl | exact .inr rfl | assumption):
  FS X E (.Assign [.Name y yp] (.Call (.Attribute (.Name x np) "pop" apos) [] [] cpos) pos) (Cz j i):=
 eQ (Jx hnd hj hy (Im PySem.F.plainAttrs_list PySem.F.slot_list_pop PySem.F.type_list_pop Xf (oh hN hv hd hcd) hbase hline) hsw hf) λW σ H hE=>xq5 hE λO0 M0 H0 ow m R q=>by
  obtain ⟨o,ho,q⟩:=Ss.ofO q;obtain ⟨k,ds⟩:=o;obtain ⟨d,hd',q⟩:=Ss.ofO q;obtain ⟨a,xs,e1,e2,e3,e4,e5⟩:=Ck R.toRel ho;obtain ⟨v,hv,dv⟩:=El e4 hd';obtain ⟨R2,g2⟩:=R.put (es:=ds.dropLast) (ys:=xs.dropLast) e1 e5 (Dw e4);have dv2:=dv.go R.mutk g2.ev;exact ⟨_,e2,.inl ⟨rfl,xs,SqL.of e3⟩,a,xs,v,rfl,rfl,e3,by rw [cg e4];exact hv,q _ _ _ (R2.set dv2) (g2.trans Go.set)⟩
end
section
variable {G:Gx}{E:XK}{O0 M0:Zaa}{H0 H H1:Hp}{ow:Os}{σ:L2.St}{m:Me}
end
section
variable {X:Cx}{E:XK}{e:Expr}{es:List Expr}{f:Zae}{fa:Me->Res (D×Me)}{fs:Me->Res (List D×Me)}{pos:Pos}{i:Nat}{x:Str}
end
section
variable {P:Program}{w:World}{K:W.Frag}{mg:Zp}{base:Heap}
end
section
variable {G:Gx}{O0 M0:Zaa}{H0 H H':Hp}{ow:Os}{σ:L2.St}{m:Me}
end
section
variable {G:Gx}{O0 M0:Zaa}{H0 H H':Hp}{ow:Os}{σ:L2.St}{m:Me}{k:Nat}{cap:List Nat}
end
section
variable {X:Cx}{E:XK}{k:Nat}{cap:List Nat}{fi:Zad}{h:Zba}{fe:Me->Res (D×Me)}
theorem WW {O0:Zaa}{ow:Os}{l b:Addr}(z:Ow (Op O0 l) ow b):Ow O0 ow b\/b=l:=z.elim (λy=>y.elim (λw=>.inl (.inl w)) .inr) λy=>.inl (.inr y)
end
section
variable {X:Cx}{E:XK}{e:Expr}{f:Zae}{fu:Me->Res Unit}{x:Str}{np cpos pos:Pos}{C:Addr}{bmB:List Value}{B newId initId:String}
end
section
variable {X:Cx}{j k:Nat}{x y:Str}{ps:List Str}{Φ:Zac}{p pos cpos pos':Pos}{e:Expr}{es:List Expr}{fs:Zad}{i:Nat}
end
theorem Rel.more {G:Gx}{O0 M0:Zaa}{H0 H H1:Hp}{ow:Os}{σ:L2.St}{m:Me}{l:Addr}(R:Rel G O0 M0 H0 ow σ H m)(g:aL H H1)(hl:H l=none)(ho:fH (H1 l)):Rel G (Op O0 l) M0 H0 ow σ H1 m:=by
 have nl:=R.PB hl;have sub':∀b,Ow (Op O0 l) ow b->Ow O0 ow b\/H b=none:=λb z=>(WW z).elim .inl λe=>.inr (by rw [e];exact hl);have R':=R.mono g;refine ⟨R.len,R'.keep,R'.m0,λb z=>?_,λi a e z=>?_,R.inj,R.out,λi s e=>?_⟩
 ·rcases WW z with z | z
  ·exact R'.mutk b z
  ·rw [z];exact ho
 ·rcases z with z | z
  ·exact R.no0 i a e z
  ·exact nl (z ▸ .inr ⟨i,e⟩)
 ·exact ((R.slot i s e).cI sub' λ_ _ b _=>Classical.em _).mono g
section
variable {X:Cx}
def Gu:List D->Option (List Str)
 |[]=>some []
 | .str x::ds=>(Gu ds).map (x::·)
 |_::_=>none
theorem JX {G:Gx}{O:Zaa}{H:Hp}:∀{vs:List V} {ds:List D} {zs:List Str},DVs G O H vs ds->Gu ds=some zs->vs=zs.map V.str
 |_,_,_,.nil,e=>by cases e;rfl
 |_,_,_,.cons (d:=d) h hs,e=>by
  cases d with
  |str i=>
   obtain ⟨ns,e1,rfl⟩:=omap (by simpa [Gu] using e);cases h;rw [JX hs e1];rfl
  |_=>cases e
def qQ:D->List D->Option D
 | .str z,[.lst es]=>match Gu es with
  |some zs=>if JoinOk z zs=true then some (.str (Txt.join z zs)) else none
  |none=>none
 |_,_=>none
theorem uX:MtR X "str.join" (rGM (gx X) qQ):=by
 intro pins s σ H x vs v us Q I rx rv h;obtain ⟨O,d,ds,r,m,hx,hy,hr,q⟩:=h
 match d,ds,hr with
 | .str z,[.lst es],hr=>
  cases du hx;obtain ⟨y,rfl,hy2⟩:=qt hy;obtain ⟨p,xs,rfl,hp,hd⟩:=gM hy2;have hr:(match Gu es with | some zs=>if JoinOk z zs=true then some (D.str (Txt.join z zs)) else none | none=>none)=some r:=hr;cases e1:Gu es with
  |none=>rw [e1] at hr;cases hr
  |some zs=>
   rw [e1] at hr;obtain ⟨ok,rfl⟩:=oif hr
   have:=JX hd e1
   subst this;exact Uy X.K rfl pins s σ H _ _ v us Q I rx rv ⟨z,p,zs,rfl,rfl,hp,ok,q _ _ (aL.refl _) (.str _)⟩
end
def KY (K:W.Frag):Sp:=λvs H Q _=>∃(a:Addr) (ns:List Int),vs=[.ref a]/\SqL K H a (ns.map V.int)/\ns.length<=63/\∀H',Q (.bl true) H'
theorem Hf {G:Gx}{O:Zaa}{H:Hp}:∀ns:List Int,DVs G O H (ns.map V.int) (ns.map D.int)
 |[]=>.nil
 |n::ns=>.cons (.int n) (Hf ns)
theorem V5 {P:Program}{w:World}{K:W.Frag}{mg:Zp}{base:Heap}{CX:CXT}{k:Nat}{f:Addr}{fd:FuncData}{ps:List Str}{Φ:Zac}(h:∀ns:List Int,ns.length<=63->∃fr,Φ [.lst (ns.map D.int)]=.ok (fr,.bl true))
  (F:cB P w K mg base CX k f fd ps (spF ⟨K,mg⟩ Φ)):cB P w K mg base CX k f fd ps (KY K):=F.imp λvs H Q E ⟨a,ns,e,hS,hl,q⟩=>by
 subst e;obtain ⟨fr,e⟩:=h ns hl;refine ⟨λ_=>False,[.lst (ns.map D.int)],λ_ z=>z.elim,.cons (.lst (hS.elim (λz=>.inl ⟨id,z⟩) .inr) (Hf ns)) .nil,?_⟩;rw [e];intro v H' _ hv _;cases hv;exact q H'
section
variable {X:Cx}{E:XK}{e a:Expr}{f fa:Zae}{fu:Me->Res Unit}{x y:Str}{np cpos pos p py:Pos}{i:Nat}
end
section
variable {X:Cx}
def vOf:D->V
 | .bl b=>.bl b
 | .int i=>.int i
 | .str x=>.str x
 |_=>.non
theorem Ph {G:Gx}{O:Zaa}{H:Hp}{v:V}{d:D}(f:flat d=true)(h:DW G O H v d):v=vOf d:=by
 cases d with
 |non=>exact xY h
 |bl b=>exact HD h
 |int i=>exact b7 h
 |str x=>exact du h
 |_=>cases f
theorem Gy {d:D}(f:flat d=true):sY (vOf d)=true:=by cases d<;>first | rfl | cases f
theorem Lh {G:Gx}{O:Zaa}{H:Hp}:∀{vs:List V} {ds:List D},DVs G O H vs ds->ds.all flat=true->vs=ds.map vOf
 |_,_,.nil,_=>rfl
 |_,_,.cons (d:=d) (ds:=ds) h hs,f=>by
  have f':flat d=true/\ds.all flat=true:=by simpa using f
  rw [Ph f'.1 (.inl h),Lh hs f'.2];rfl
def inD (x:D)(ds:List D):Option Bool:=if flat x=true/\ds.all flat=true then some (inV (vOf x) (ds.map vOf)) else none
def gIn:D->D->Option Bool
 | .str i,.str j=>some (!(Builtin.Str.occurrences j i 0 j.length 1).isEmpty)
 |x,.lst ds=>inD x ds
 |x,.tup ds=>inD x ds
 |_,_=>none
def NQ (d e:D):Option Bool:=(gIn d e).map (!·)
theorem Oo (ds:List D):ds.all flat=true->(ds.map vOf).all sY=true:=by
 induction ds with
 |nil=>intro;rfl
 |cons d ds ih=>
  intro h;have h':flat d=true/\ds.all flat=true:=by simpa using h
  rw [List.map_cons,List.all_cons,Gy h'.1,ih h'.2];rfl
theorem Dg {O:Zaa}{H:Hp}{x y:V}{d:D}{b:Bool}{ds:List D}{neg:Bool}{Q:VK}(hx:DW (gx X) O H x d)(hy:(∃p xs,y=.ref p/\(SqL X.K H p xs\/SqT X.K H p xs)/\DVs (gx X) O H xs ds))(h:inD d ds=some b)(q:Q (.bl (if neg then !b else b)) H):rIn X.K neg x y H Q:=by
 obtain ⟨p,xs,rfl,hp,hd⟩:=hy;obtain ⟨⟨f1,f2⟩,rfl⟩:=oif h;rw [Ph f1 hx]
 have:=Lh hd f2
 subst this;exact ⟨p,_,rfl,hp,Gy f1,Oo _ f2,q⟩
theorem Ri:OpR X (compareOp .In) (rGB (gx X) gIn):=by
 intro pins s σ H x y v u Q I rx ry h;obtain ⟨O,d,e,r,m,hx,hy,hr,q⟩:=h;unfold gIn at hr;split at hr
 ·cases hr;exact Nf pins s σ H x y v u Q I rx ry ⟨_,_,du hx,du hy,q⟩
 ·obtain ⟨p,xs,rfl,hp,hd⟩:=gM hy;exact Bp pins s σ H x _ v u Q I rx ry (Dg (neg:=false) hx ⟨p,xs,rfl,.inl hp,hd⟩ hr q)
 ·obtain ⟨p,xs,rfl,hp,hd⟩:=pW hy;exact Bp pins s σ H x _ v u Q I rx ry (Dg (neg:=false) hx ⟨p,xs,rfl,.inr hp,hd⟩ hr q)
 ·cases hr
theorem Ti:OpR X (compareOp .NotIn) (rGB (gx X) NQ):=by
 intro pins s σ H x y v u Q I rx ry h;obtain ⟨O,d,e,r,m,hx,hy,hr,q⟩:=h;obtain ⟨c,hc,rfl⟩:=omap hr;unfold gIn at hc;split at hc
 ·cases hc;exact BX pins s σ H x y v u Q I rx ry ⟨_,_,du hx,du hy,q⟩
 ·obtain ⟨p,xs,rfl,hp,hd⟩:=gM hy;exact vf pins s σ H x _ v u Q I rx ry (Dg (neg:=true) hx ⟨p,xs,rfl,.inl hp,hd⟩ hc q)
 ·obtain ⟨p,xs,rfl,hp,hd⟩:=pW hy;exact vf pins s σ H x _ v u Q I rx ry (Dg (neg:=true) hx ⟨p,xs,rfl,.inr hp,hd⟩ hc q)
 ·cases hc
def pG:List D->Option (List Bool)
 |[]=>some []
 | .bl b::ds=>(pG ds).map (b::·)
 |_::_=>none
theorem GP {G:Gx}{O:Zaa}{H:Hp}:∀{vs:List V} {ds:List D} {bs:List Bool},DVs G O H vs ds->pG ds=some bs->vs=bs.map V.bl
 |_,_,_,.nil,e=>by cases e;rfl
 |_,_,_,.cons (d:=d) h hs,e=>by
  cases d with
  |bl b=>
   obtain ⟨bs,e1,rfl⟩:=omap (by simpa [pG] using e);cases h;rw [GP hs e1];rfl
  |_=>cases e
def Hn:List D->Option D
 |[.lst ds]=>(pG ds).map λbs=>.bl (bs.all id)
 |_=>none
end
section
variable {X:Cx}
theorem Gr:∀{bs:List Bool} {us:List Value},Vals (bs.map V.bl) us->LSm.BoolsAre us bs
 |[],_,.nil=>.nil
 |b::bs,_,.cons r t=>by cases r;exact .cons b (Gr t)
theorem rQ (hc:X.calm=true):gG X (.builtin "all") (rGC (gx X) Hn):=by
 intro pins s σ H xs us Q I r h;obtain ⟨O,ds,d,m,hx,hr,q⟩:=h
 match ds,hr with
 |[.lst ds],hr=>
  obtain ⟨bs,e1,rfl⟩:=omap hr;obtain ⟨v,rfl,hv⟩:=qt hx;obtain ⟨p,xs,rfl,hp,hd⟩:=gM hv
  have:=GP hd e1
  subst this;obtain ⟨u,rfl,rx⟩:=vals1 r;cases rx;obtain ⟨wa,r',pl,hz⟩:=I.list hp;have ba:=Gr r';have li:=pl.isList;have lt1:p<s.heap.objs.size:=by obtain ⟨_,e,_⟩:=li;exact Heap.lt_size e
  refine call_all_walk (wpAny_pyIter_list li ?_);refine ⟨s.heap.objs.size,[s.heap.objs.size,p],[s.heap.objs.size],wa.toArray.size,_,_,λi=>(bs[i]?).getD true,rfl,Walks.list (A:=X.A.in1) (I.ok.hd hc) _ p (Nat.ne_of_lt lt1) wa.toArray,
   ⟨⟨_,Heap.get?_push_size _ rfl,rfl,rfl⟩,li.push _⟩,λi v sn Qn En pv qv=>?_,λh' tk kp=>?_⟩
  ·obtain ⟨b,e,rfl⟩:=ba.get i v (by simpa using pv);simp only [e,Option.getD_some] at qv;exact wpAny_truthy_bool qv
  ·have e:((List.range wa.toArray.size).all λi=>(bs[i]?).getD true)=bs.all id:=by
    rw [List.size_toArray,ba.length];exact LSm.range_all bs
   rw [e];exact ⟨.bl _,H,I.kept (LSm.kept_iter kp),rfl,q _ _ (aL.refl _) (.bl _)⟩
end
def Ite (K:W.Frag)(a:Addr):It:=
 ⟨λi H=>∃xs x,SqL K H a xs/\xs[i]? = some x,λi H x H'=>∃y l,(∀xs,SqL K H a xs->xs[i]? = some y)/\x=.ref l/\H l=none/\H'=upd H l (.tup [.int i,y]),λi H=>∃xs,SqL K H a xs/\xs.length<=i⟩
theorem HR {X:Cx}{pins:Zl}{σ:L2.St}{H:Hp}{s:Shared}{e it:Addr}{h':Heap}{oe oi:Obj}(I:Inv X pins σ H s)(fe:sy X pins H e)(fi:sy X pins H it)(hne:e≠it)
  (he:∃o,s.heap.get? e=some o) (hi:∃o,s.heap.get? it=some o) (he':h'.get? e=some oe) (hi':h'.get? it=some oi) (de:oe.isFreed=false) (di:oi.isFreed=false)
  (k:∀b o,b≠e->b≠it->s.heap.get? b=some o->h'.get? b=some o):∃h1,Inv X pins σ H { s with heap:=h1 }/\h1.objs.size=s.heap.objs.size/\∀b u,h1.get? b=some u->h'.get? b=some u:=by
 obtain ⟨o1,he⟩:=he;obtain ⟨o2,hi⟩:=hi;obtain ⟨f0,f1,f2,f3,f4,f5⟩:=fe;obtain ⟨g0,g1,g2,g3,g4,g5⟩:=fi;have I1:Inv X pins σ H { s with heap:=s.heap.update e λ_=>oe }:=I.turned (t':=s.toks) (λb o hb x=>(Heap.get?_update_other _ _ (Ne.symm hb)).trans x) f0 f1 f3 f4 f5;have I2:Inv X pins σ H { s with heap:=(s.heap.update e λ_=>oe).update it λ_=>oi }:=I1.turned (t':=s.toks) (λb o hb x=>(Heap.get?_update_other _ _ (Ne.symm hb)).trans x) g0 g1 g3 g4 g5;refine ⟨_,I2,?_,λb u x=>?_⟩
 ·rw [(Heap.SameBut.update _ _ _).1,(Heap.SameBut.update _ _ _).1]
 ·by_cases z:b=it
  ·subst z;rw [Heap.get?_update_self (λ_=>oi) ((Heap.get?_update_other _ _ hne).trans hi) di] at x;cases x;exact hi'
  ·rw [Heap.get?_update_other _ _ (Ne.symm z)] at x;by_cases y:b=e
   ·subst y;rw [Heap.get?_update_self (λ_=>oe) he de] at x;cases x;exact he'
   ·rw [Heap.get?_update_other _ _ (Ne.symm y)] at x;exact k b u y z x
theorem Hl {o:Obj}{vs:Array Value}(d:o.data=.fields vs):o.isFreed=false:=by
 obtain ⟨c,dd,da,sl⟩:=o;cases (show da=.fields vs from d);rfl
theorem Ni {P:Program}{w:World}{K:W.Frag}{elts:List Expr}{x1}{pos:Pos}(a e it:Addr)(hne:e≠it):
  Turn P w K (.Tuple elts x1 pos) (Ite K a) [e,it] e (λi h=>(∃old,IsEnum h e it i old)/\h.IsListIter it a i) where
 mem:=by simp
 obj:=λi h st b hb=>by
  obtain ⟨⟨old,q1⟩,q2⟩:=st;have eb:b=e\/b=it:=by simpa using hb
  rcases eb with rfl | rfl
  ·exact ⟨_,q1,λv z=>by cases (show Data.fields _=Data.cell v from z)⟩
  ·obtain ⟨o,e',c,d⟩:=q2;exact ⟨o,e',λv z=>by rw [d] at z;cases z⟩
 keep:=λi h h' st k=>by
  obtain ⟨⟨old,q1⟩,q2⟩:=st;exact ⟨⟨old,k e (by simp) _ q1⟩,q2.at λo x=>k it (by simp) o x⟩
 item:=by
  intro X hP hw hK hc i pins s σ H E I hf st hg;subst hP hw hK;obtain ⟨xs,x,hq,hx⟩:=hg;obtain ⟨⟨old,q1⟩,q2⟩:=st;obtain ⟨its,rv,p,hz⟩:=I.list hq;obtain ⟨u,hu,ru⟩:=rv.get hx;have fe:=hf e (by simp);have fi:=hf it (by simp);refine wpAny_pyNext_enum_item q1 q2 p.isList (x:=u) (by simpa using hu) hne λh' eo il ht hsz k=>?_;obtain ⟨oi,ei,ci,di⟩:=id il;obtain ⟨oj,ej,cj,dj⟩:=id q2;obtain ⟨h1,I1,z1,k1⟩:=HR I fe fi hne ⟨_,q1⟩ ⟨_,ej⟩ eo ei rfl (Hl di) k;have I2:Inv X pins σ (upd H s.heap.objs.size (.tup [.int i,x])) { s with heap:=h',toks:=s.toks+1 }:=
   I1.laid (t':=s.toks+1) k1 (Nat.le_of_eq z1) (show cD X.prog X.w _ _ _ (.tup [.int i,x]) from ⟨(show 2<=sizeLine by decide),[.int i s.toks,u],.cons ⟨s.toks,rfl⟩ (.cons ru .nil),⟨_,ht,rfl,_,rfl⟩⟩)
  have fr:H s.heap.objs.size=none:=I.hok.fresh (Nat.le_refl _);have ne1:e≠s.heap.objs.size:=Nat.ne_of_lt (Heap.lt_size q1);have ne2:it≠s.heap.objs.size:=Nat.ne_of_lt (Heap.lt_size ej);have nn:∀b,b≠s.heap.objs.size->H b=none->upd H s.heap.objs.size (.tup [.int i,x]) b=none:=λb z y=>by rw [bc z];exact y
  refine ⟨_,rfl,wpAny_letOwnedTupleGo_enum eo λh2 e2 sb=>?_⟩;obtain ⟨f0,f1,f2,f3,f4,f5⟩:=fe;refine ⟨.ref s.heap.objs.size,_,I2.turned (t':=s.toks+1) (λb o hb y=>(sb.2 b hb).trans y) (nn e ne1 f0) f1 f3 f4 f5,rfl,⟨x,_,λys hy=>by rw [I.yx hy hq];exact hx,rfl,fr,rfl⟩,⟨⟨_,e2⟩,il.at λo y=>(sb.2 it (Ne.symm hne)).trans y⟩,λb hb=>?_⟩;have eb:b=e\/b=it:=by simpa using hb
  rcases eb with rfl | rfl
  ·exact nn _ ne1 f0
  ·exact nn _ ne2 fi.1
 done:=by
  intro X hP hw hK hc i pins s σ H E I hf st hg;subst hP hw hK;obtain ⟨xs,hq,hx⟩:=hg;obtain ⟨⟨old,q1⟩,q2⟩:=st;obtain ⟨its,rv,p,hz⟩:=I.list hq;obtain ⟨f0,f1,f2,f3,f4,f5⟩:=hf it (by simp);have hl:=rv.length;exact wpAny_pyNext_enum_end (I.ok.hd hc) q1 q2 p.isList (by simp;omega) λh' eb=>⟨rfl,I.turned (t':=s.toks) (λb o hb y=>eb b o hb y) f0 f1 f3 f4 f5⟩
 self:=λ_ _ _ _ _ st h=>by
  obtain ⟨⟨old,q1⟩,q2⟩:=st;exact wpAny_pyIter_enum q1 h
section
variable {X:Cx}{tg:Expr}
def aaq (K:W.Frag)(ta:TA):TI:=λσ H R=>ta σ H λvs H1=>∃p,vs=[.ref p]/\(∃xs,SqL K H1 p xs)/\R (Ite K p) H1
theorem Uv {elts:List Expr}{x1}{pt:Pos}{a:Expr}{ta:TA}{p pos:Pos}(hg:Gl X "enumerate")(hm:X.mg "enumerate" = none)(ha:PA X [a] ta)(hs:starEach [a] X.env=[(false,eval a X.env)]:=by rfl):PI X (.Tuple elts x1 pt) (.Call (.Name "enumerate" p) [a] [] pos) (aaq X.K ta):=by
 intro pins s σ H R I h;refine Call_ (qZ I hg hm boot_enumerate (PyProof.Rows.callWith_type1 (thn (ha pos pins s σ H _ I h) λus s1 hE=>xq2 hE λvs H1 I1 r1 q1=>?_) hs rfl));obtain ⟨l,e,⟨xs,hq⟩,q⟩:=q1;subst e;obtain ⟨u,rfl,rx⟩:=vals1 r1;cases rx;obtain ⟨its,rv,pl,hz⟩:=I1.list hq;refine call_enumerate_list pl.isList λh' e1 e2 sz k=>?_;have I2:Inv X pins σ H1 { s1 with heap:=h' }:=I1.kept (t':=s1.toks) k;refine wpAny_pyIter_enum (s:={ s1 with heap:=h' }) e1 ?_;refine ⟨_,[s1.heap.objs.size+1,s1.heap.objs.size],_,_,H1,rfl,I2,Ni l _ _ (Nat.succ_ne_self _),⟨⟨_,e1⟩,e2⟩,λb hb=>?_,q⟩;have eb:b=s1.heap.objs.size+1\/b=s1.heap.objs.size:=by simpa using hb
 have hb':s1.heap.objs.size<=b:=eb.elim (λz=>by rw [z];exact Nat.le_succ _) λz=>Nat.le_of_eq z.symm;exact I1.Ga hb' (I1.hok.fresh hb')
def yG (ds:List D):List D:=ds.mapIdx λi d=>.tup [.int i,d]
theorem Ao (ds:List D):(yG ds).length=ds.length:=by simp [yG]
theorem Tq {G:Gx}{H:Hp}{a:Addr}{ds:List D}{P:(Zaa)->Hp->Prop}(h:∀O' H2,P O' H2->∃xs,SqL G.K H2 a xs/\DVs G O' H2 xs ds):tZ G (Ite G.K a) (yG ds) P:=by
 intro O' H2 ev;obtain ⟨xs,hq,hd⟩:=h O' H2 ev;have hlen:=cg hd;refine ⟨λi hi=>⟨xs,xs[i]'(by rw [Ao] at hi;omega),hq,by simp⟩,λi x H' hi y=>?_,xs,hq,by rw [Ao];omega⟩;obtain ⟨y,l,h1,rfl,fr,rfl⟩:=y;obtain ⟨d,e1,e2⟩:=p7 hd (h1 xs hq);exact ⟨bD fr _,.tup [.int i,d],by simp [yG,List.getElem?_mapIdx,e1],.tup (SqU.of aV) (.cons (.int _) (.cons (e2.mono (bD fr _)) .nil))⟩
def Yx (f:Zad):Zad:=λm=>(f m).bind λd=>match d with
 |[.lst ds]=>.ok (yG ds)
 |_=>.stuck
theorem RD {E:XK}{fs:Zad}{elts:List Expr}{x1}{pt:Pos}{a:Expr}{p pos:Pos}(hg:Gl X "enumerate")(hm:X.mg "enumerate" = none)(ha:FAB X E [a] fs)(hs:starEach [a] X.env=[(false,eval a X.env)]:=by rfl):FIw X E (.Tuple elts x1 pt) (.Call (.Name "enumerate" p) [a] [] pos) (Yx fs):=
 mz (Uv hg hm ha hs) λσ H R hE=>xq5 hE λO0 M0 H0 ow m Re q=>⟨O0,M0,H0,ow,m,Re,q.bind.imp (aL.refl _) λds q vs H' g hv=>by
  have z:∃xs,ds=[.lst xs]:=by
   cases ds with
   |nil=>exact q.elim
   |cons d ds=>cases d with
    |lst xs=>cases ds with
     |nil=>exact ⟨xs,rfl⟩
     |cons _ _=>exact q.elim
    |_=>exact q.elim
  obtain ⟨ds,rfl⟩:=z;cases hv with
  |cons h1 h2=>
   cases h2;obtain ⟨l,xs,rfl,hl,hd⟩:=gM h1;exact ⟨_,rfl,⟨_,hl⟩,q _ H' g (Tq (H:=H') λO' H2 ⟨sub,g2⟩=>⟨_,Gj hl g2,hd.go (Re.mono g).mutk ⟨sub,.of g2⟩⟩)⟩⟩
end
theorem Ov:typeLookup (.type "list_reverseiterator") "__len__" = pure none:=by rw [typeLookup_type,builtinLookup_eq_fast];kernel_rfl
theorem Vt:typeLookup (.type "list_reverseiterator") "__length_hint__" = pure (some (.builtin "list_reverseiterator.__length_hint__")):=by rw [typeLookup_type,builtinLookup_eq_fast];kernel_rfl
section
variable {pr:Program}{wo:World}{A:Around}{s:Shared}{R:Result->Shared->Prop}
variable {St:Nat->Shared->Prop}{P:Nat->Value->Prop}{n:Nat}{I:Addr}{fp wr:List Addr}{G:Array GenState->Array GenState->Prop}
theorem T4 (W:WalksS pr wo A.in1 I fp wr G n P St)(ty:∀i s,St i s->s.TypeIs (.ref I) "list_reverseiterator")(S:Addr)(res:Value)(c:Nat)(st:St 0 s)(nf:S∉fp)(mi:I∈fp)
  (oS:s.heap.get? S=some { cls:=.type "list",data:=.seq #[] c })
  (fin:∀s' ac c',Moved (S::wr) G s s'->s'.heap.get? S=some { cls:=.type "list",dict:=none,data:=.seq ac c',slots:=#[] }->ItemsOf P ac n->R (.ok (.ret res)) s') (hn:n<=sizeLine):
  wpAny (model pr wo) A.in1 (Builtin.List.listExtendWith (.ref S) (.ref I) res)
   (λf t=>match f with | .done f=>R (.ok f) t | .again c'=>c'.quiet=true/\codeAny (model pr wo) A c' R t) (λe t=>R (.error e) t) s:=by
 have ne:S≠I:=λe=>nf (e ▸ mi);have sr:Builtin.List.listSameRef (.ref S) (.ref I)=false:=by simp [Builtin.List.listSameRef,ne]
 unfold Builtin.List.listExtendWith;refine wpAny_bind (wpAny_typeOf (ty 0 _ st) ?_);rw [if_neg (by rw [sr];decide)];refine wpAny_bind (W.self 0 _ _ _ st (wpAny_bind (wpAny_holding ?_)));unfold Builtin.List.listLengthHint;refine wpAny_bind (wpAny_specialOf (ty 0 _ st) Ov ?_);show wpAny (model pr wo) A.in1 (specialOf (Value.ref I) (Str.ofString "__length_hint__") >>= _) _ _ _;refine wpAny_bind (wpAny_specialOf (ty 0 _ st) Vt ?_);generalize hid:("list_reverseiterator.__length_hint__" : String)=id0
 wp_delta
 rw [show splitId id0=some ("list_reverseiterator", "__length_hint__") from by subst hid;decide +kernel];subst hid;refine wpAny_bind (wpAny_isInstance (b:=true) (ty 0 _ st) (by rw [isSubtype_type];kernel_rfl) (wpAny_pure ?_));rw [if_neg (by decide)];exact wpAny_pure ⟨plainId_quiet F.plain_extend_loop _,codeAny_extend_loopS W hn _ nf _ n 0 _ _ _ rfl (Nat.zero_le _) st oS (ItemsOf.nil P) fin⟩
end
section
variable {pr:Program}{wo:World}{A:Around}{E:Zs}{s:Shared}
theorem MN {items:Array Value}{ac:Array Value}(h:ItemsOf (λi v=>items[items.size - 1-i]? = some v) ac items.size):ac=items.reverse:=by
 obtain ⟨z,h⟩:=h;refine Array.ext (by simp [z]) λi h1 h2=>?_
 have:=h i ac[i] (by simp)
 rw [Array.getElem_reverse];obtain ⟨_,e⟩:=Array.getElem?_eq_some_iff.mp this;exact e.symm
theorem Ad {I l:Addr}{items:Array Value}{Q:Zs}(hh:A.handled=none)(li:s.heap.IsList l items)(ri:s.heap.IsRevIter I l ((items.size:Int) - 1))(ne:l≠I)(hn:items.size<=sizeLine)
  (fin:∀t tk c,(∀b o,b≠I->s.heap.get? b=some o->t.get? b=some o)->t.get? s.heap.objs.size=some { cls:=.type "list",dict:=none,data:=.seq items.reverse c,slots:=#[] }->Q (.ref s.heap.objs.size) { s with heap:=t,toks:=tk }):
  wpAny (model pr wo) A (call (.type "list") [.ref I]) Q E s:=by
 obtain ⟨oi,ei,ci,di⟩:=id ri;obtain ⟨ol,el,cl⟩:=id li;have ltI:I<s.heap.objs.size:=Heap.lt_size ei;have ltl:l<s.heap.objs.size:=Heap.lt_size el;have nf:s.heap.objs.size∉[I,l]:=λhm=>by
  rcases List.mem_cons.mp hm with z | z
  ·exact Nat.ne_of_gt ltI z
  ·exact Nat.ne_of_gt ltl (List.mem_singleton.mp z)
 have W:=(Walks.listRev (prog:=pr) (w:=wo) (A:=A.in1.in1) hh I l ne items).toS;refine callType_codes (Q₁:=λo t=>o=.ref s.heap.objs.size/\t={ s with heap:=s.heap.push { cls:=.type "list",data:=.seq #[] } }) F.called_list (F.typeCall_list_1 _) F.entry_list_init (code_list_new _ ⟨rfl,rfl⟩) λo t ht=>?_;obtain ⟨rfl,rfl⟩:=ht;have oS:(s.heap.push { cls:=.type "list",data:=.seq #[] }).get? s.heap.objs.size=some { cls:=.type "list",data:=.seq #[] }:=Heap.get?_push_size _ rfl;refine ⟨⟨_,oS,rfl⟩,F.args_list_init_2 _ _,?_⟩;show wpAny (model pr wo) A.in1.in1 (do let old ← Builtin.List.listItems (.ref s.heap.objs.size);Builtin.List.listUpdate (.ref s.heap.objs.size) (λ_=>#[]);letGo old.toList.reverse;Builtin.List.listExtendWith (.ref s.heap.objs.size) (.ref I) .none) _ _ _;refine wpAny_bind ?_;unfold Builtin.List.listItems;refine wpAny_bind (wpAny_seqItems oS rfl (wpAny_pure ?_));refine wpAny_bind (m:=updateSeq s.heap.objs.size (λ_=>#[])) (wpAny_updateSeq oS rfl ?_);have oS2:=Heap.get?_update_self (Obj.mapSeq (λ_=>(#[]:Array Value))) oS rfl;refine wpAny_bind (wpAny_letGo ?_);have kp:∀b o,b≠s.heap.objs.size->s.heap.get? b=some o->((s.heap.push { cls:=.type "list",data:=.seq #[] }).update s.heap.objs.size (Obj.mapSeq (λ_=>(#[]:Array Value)))).get? b=some o:=
  λb o hb e=>(Heap.get?_update_other _ _ (Ne.symm hb)).trans (Heap.get?_push_of_some _ e)
 have st0:(0:Nat)<=items.size/\s.heap.IsRevIter I l ((items.size:Int) - 1-((0:Nat):Int))/\s.heap.IsList l items:=⟨Nat.zero_le _,by simpa using ri,li⟩;refine T4 W (λi t x=>x.2.1.typeIs) _ .none _ ⟨st0.1,st0.2.1.at λo e=>kp I o (Nat.ne_of_lt ltI) e,st0.2.2.at λo e=>kp l o (Nat.ne_of_lt ltl) e⟩ nf (by simp) oS2 (λt ac c mv oS3 it=>?_) hn;refine ⟨rfl,?_⟩;rw [Moved.eq_with mv];rw [MN it] at oS3;exact fin _ _ c (λb o hb e=>mv.heap b o (λhm=>by
  rcases List.mem_cons.mp hm with z | hm
  ·exact Nat.lt_irrefl _ (z ▸ Heap.lt_size e)
  ·exact hb (List.mem_singleton.mp hm)) (kp b o (Nat.ne_of_lt (Heap.lt_size e)) e)) oS3
end
section
variable {X:Cx}
theorem xH:bootBuiltins "list" = some (.type "list"):=by decide +kernel
theorem SX:bootBuiltins "reversed" = some (.type "reversed"):=by decide +kernel
def Zq (K:W.Frag):List V->Hp->VK->Prop:=λxs H Q=>∃p ys,xs=[.ref p]/\SqL K H p ys/\∀l,H l=none->Q (.ref l) (upd H l (.lst ys.reverse))
theorem T8 {e:Expr}{p p' pos pos':Pos}{ta:TA}(hc:X.calm=true)(hg:Gl X "list")(hm:X.mg "list" = none)(hg':Gl X "reversed")(hm':X.mg "reversed" = none)(ha:PA X [e] ta)
  (hs:starEach [e] X.env=[(false,eval e X.env)]:=by rfl) (hs':starEach [.Call (.Name "reversed" p') [e] [] pos'] X.env=[(false,eval (.Call (.Name "reversed" p') [e] [] pos') X.env)]:=by rfl):
  PE X (.Call (.Name "list" p) [.Call (.Name "reversed" p') [e] [] pos'] [] pos) (tCB (Zq X.K) ta):=by
 intro pins s σ H Q I h;refine wpAny_Call_Name_kw (qZ I hg hm xH (PyProof.Rows.callWith_type1 ?_ hs' rfl));rw [hs'];refine Calls.spliced_cons (wpAny_Call_Name_kw (qZ I hg' hm' SX (PyProof.Rows.callWith_type1 (thn (ha pos' pins s σ H _ I h) λus s1 hE=>xq2 hE λvs H1 I1 r1 q1=>?_) hs rfl)));obtain ⟨l,ys,rfl,hq,q⟩:=q1;obtain ⟨u,rfl,rx⟩:=vals1 r1;cases rx;obtain ⟨its,rv,pl,hz⟩:=I1.list hq;have hlen:=rv.length;refine call_reversed_list pl.isList (Calls.spliced_nil ?_);have el:l<s1.heap.objs.size:=by obtain ⟨_,e,_⟩:=pl.isList;exact Heap.lt_size e
 refine Ad (s:={ s1 with heap:=s1.heap.push (revObj l ((its.toArray.size:Int) - 1)) }) (I1.ok.hd hc) (pl.isList.push _) ⟨_,Heap.get?_push_size _ rfl,rfl,rfl⟩ (Nat.ne_of_lt el) (by simp only [List.size_toArray]<;>omega) λt tk c kp oS=>?_;have sz:s1.heap.objs.size<=(s1.heap.push (revObj l ((its.toArray.size:Int) - 1))).objs.size:=by rw [Heap.size_push];exact Nat.le_succ _
 refine ⟨.ref _,_,I1.laid (t':=tk) (λb o e=>kp b o (Nat.ne_of_lt (Heap.lt_size e)) (Heap.get?_push_of_some _ e)) sz (show cD X.prog X.w _ t _ (.lst ys.reverse) from ⟨by simp;omega,its.reverse,c,rv.reverse,by simpa using oS⟩),rfl,q _ (I1.hok.fresh sz)⟩
def Ry:List D->Option D
 |[.lst ds]=>some (.lst ds.reverse)
 |_=>none
theorem Vo {E:XK}{e:Expr}{p p' pos pos':Pos}{fs:Zad}(hc:X.calm=true)(hg:Gl X "list")(hm:X.mg "list" = none)(hg':Gl X "reversed")(hm':X.mg "reversed" = none)(ha:FAB X E [e] fs)
  (hs:starEach [e] X.env=[(false,eval e X.env)]:=by rfl) (hs':starEach [.Call (.Name "reversed" p') [e] [] pos'] X.env=[(false,eval (.Call (.Name "reversed" p') [e] [] pos') X.env)]:=by rfl):
  FN X E (.Call (.Name "list" p) [.Call (.Name "reversed" p') [e] [] pos'] [] pos) (aX Ry fs):=
 bJ (T8 hc hg hm hg' hm' ha hs hs') λσ H Q h=>by
  obtain ⟨O0,M0,H0,ow,m,R,q⟩:=h;refine ⟨O0,M0,H0,ow,m,R,q.bind.imp (aL.refl _) λds q vs H1 g1 hv=>?_⟩;obtain ⟨r,hr,k⟩:=q.ofO
  match ds,hr with
  |[.lst ds],hr=>
   cases hr;obtain ⟨v,rfl,hw⟩:=qt hv;obtain ⟨l,xs,rfl,hp,hd⟩:=gM hw;exact ⟨l,xs,rfl,hp,λb hb=>k b _ (g1.trans (bD hb _)) (g1.free hb) ⟨_,aV,((JH hd).cI λc z=>z.elim .inl λe=>.inr (by rw [e];exact hb)).mono (bD hb _)⟩⟩
end
def signs (z:Str):List D:=z.cps.toList.map λc=>.str ⟨#[c]⟩
def Its (z:Str):It:=⟨λi _=>i<z.cps.size,λi H v H'=>H'=H/\∃c,z.cps[i]? = some c/\v=.str ⟨#[c]⟩,λi _=>i=z.cps.size⟩
theorem Gb {P:Program}{w:World}{K:W.Frag}{tg:Expr}{ty:String}(it:Addr)(z:Str)(t:Tok)
  (wk:∀A:Around,A.handled=none->Walks P w A it [it] [it] z.cps.size (SignAt z) (λi h=>h.IsStrIter it ty z t i))
  (sf:∀(A:Around) (i:Nat) (s:Shared) (Q:Zs) (E:Zs),s.heap.IsStrIter it ty z t i->Q (.ref it) s->wpAny (model P w) A (pyIter (.ref it)) Q E s)
  (hn:["enumerate", "zip", "dict_itemiterator", "dict_reverseitemiterator", "odict_iterator", "itertools.zip_longest", "itertools.pairwise"].contains ty=false):Turn P w K tg (Its z) [it] it (λi h=>h.IsStrIter it ty z t i) where
 mem:=by simp
 obj:=λi h st b hb=>by
  cases List.mem_singleton.mp hb;obtain ⟨o,e,c,d⟩:=st;exact ⟨o,e,λv y=>by rw [d] at y;cases y⟩
 keep:=λi h h' st k=>by
  obtain ⟨o,e,r⟩:=st;exact ⟨o,k it (by simp) o e,r⟩
 item:=by
  intro X hP hw hK hc i pins s σ H E I hf st hg;subst hP hw hK;obtain ⟨f0,f1,f2,f3,f4,f5⟩:=hf it (by simp);refine (wk X.A (I.ok.hd hc)).item i s _ _ hg st λv h' tk hv st' kk=>?_;obtain ⟨c,u,e1,rfl⟩:=hv;have I1:Inv X pins σ H { s with heap:=h',toks:=tk }:=I.turned (λb o hb e=>kk b o (by simpa using hb) e) f0 f1 f3 f4 f5;obtain ⟨o,e,cl,d⟩:=id st';exact ⟨_,rfl,Ay (s:={ s with heap:=h',toks:=tk }) (n:=ty) e cl d hn ⟨.str ⟨#[c]⟩,H,I1,⟨u,rfl⟩,⟨rfl,c,e1,rfl⟩,st',λb hb=>(hf b hb).1⟩⟩
 done:=by
  intro X hP hw hK hc i pins s σ H E I hf st hg;subst hP hw hK;cases (show i=z.cps.size from hg);obtain ⟨f0,f1,f2,f3,f4,f5⟩:=hf it (by simp);exact (wk X.A (I.ok.hd hc)).done s _ _ st λh' tk kk=>⟨rfl,I.turned (λb o hb e=>kk b o (by simpa using hb) e) f0 f1 f3 f4 f5⟩
 self:=λA i s Q E st h=>sf A i s Q E st h
section
variable {X:Cx}{tg:Expr}
def aa4 (tl:TE):TI:=λσ H R=>tl σ H λx H1=>∃z,x=.str z/\R (Its z) H1
theorem Yi {l:Expr}{tl:TE}(hl:PE X l tl):PI X tg l (aa4 tl):=by
 intro pins s σ H R I h;refine thn (hl pins s σ H _ I h) λv s1 hE=>xq2 hE λx H1 I1 r1 q1=>?_;obtain ⟨z,rfl,q⟩:=q1;obtain ⟨t,rfl⟩:=r1;refine wpAny_pyIter_strU ?_;have fp:∀b∈[s1.heap.objs.size],sy X pins H1 b:=λb hb=>by
  cases List.mem_singleton.mp hb;exact I1.Ga (Nat.le_refl _) (I1.hok.fresh (Nat.le_refl _))
 have st:(s1.heap.push { cls:=.type (strIterType z),data:=.fields #[.str z t,.int 0 0] }).IsStrIter s1.heap.objs.size (strIterType z) z t 0:=⟨_,Heap.get?_push_size _ rfl,rfl,rfl⟩;refine ⟨s1.heap.objs.size,[s1.heap.objs.size],(λi h=>h.IsStrIter s1.heap.objs.size (strIterType z) z t i),Its z,H1,rfl,I1.kept (t':=s1.toks) λb o e=>Heap.get?_push_of_some _ e,?_,st,fp,q⟩;unfold strIterType;split
 ·exact Gb _ z t (λA hA=>Walks.strAscii hA _ z t) (λ_ _ _ _ _ a b=>wpAny_pyIter_striter_ascii a b) (by decide)
 ·exact Gb _ z t (λA hA=>Walks.strWide hA _ z t) (λ_ _ _ _ _ a b=>wpAny_pyIter_striter_wide a b) (by decide)
theorem Ys {G:Gx}{z:Str}{P:(Zaa)->Hp->Prop}:tZ G (Its z) (signs z) P:=by
 intro O H _;refine ⟨λi hi=>(show i<z.cps.size by simpa [signs] using hi),λi x H' hi y=>?_,show _=_ by simp [signs]⟩;obtain ⟨rfl,c,e,rfl⟩:=y;have e':z.cps.toList[i]? = some c:=by simpa using e
 exact ⟨aL.refl _,.str ⟨#[c]⟩,by simp [signs,e],.str _⟩
def Qz (f:Zae):Zad:=λm=>(f m).bind λd=>match d with
 | .str z=>.ok (signs z)
 |_=>.stuck
theorem Qw {E:XK}{e:Expr}{f:Zae}(h:FE X E e f):FI X E tg e (Qz f):=mz (Yi h) λσ H R hE=>xq5 hE λO0 M0 H0 ow m Re q=>⟨O0,M0,H0,ow,m,Re,q.bind.imp (aL.refl _) λd q v H' g hv=>by
 cases d with
 |str z=>
  cases hv with
  |str=>exact ⟨_,rfl,q _ H' g Ys⟩
 |_=>exact q.elim⟩
end
section
variable {X:Cx}
end
section
variable {X:Cx}{E:XK}{e ke:Expr}{f fk:Zae}{pos spos np:Pos}{x:Str}
end
def uw:D->Option Key
 | .int i=>some (.inl i)
 | .str z=>some (.inr z)
 |_=>none
def zy:List Key->List D->Key->Option D
 |k'::ks,d::ds,k=>if k'=k then some d else zy ks ds k
 |_,_,_=>none
def Kc:List Key->List D->Key->D->List D
 |k'::ks,d'::ds,k,d=>(if k'=k then d else d')::Kc ks ds k d
 |_,_,_,_=>[]
def putD (ks:List Key)(ds:List D)(k:Key)(d:D):List Key×List D:=if ks.any (λx=>decide (x=k))=true then (ks,Kc ks ds k d) else (ks++[k],ds++[d])
theorem yZ {G:Gx}{O:Zaa}{H:Hp}{v:V}{d:D}{k:Key}(h:DW G O H v d)(e:uw d=some k):v=kV k:=by
 cases d with
 |int i=>cases e;cases b7 h;rfl
 |str z=>cases e;cases du h;rfl
 |_=>cases e
theorem xQ {G:Gx}{O:Zaa}{H:Hp}{k:Key}:∀{kvs:List (Key×V)} {ds:List D},DVs G O H (kvs.map (·.2)) ds->
  (∃v d,m9 kvs k=some v/\zy (kvs.map (·.1)) ds k=some d/\DV G O H v d)\/(m9 kvs k=none/\zy (kvs.map (·.1)) ds k=none)
 |[],_,.nil=>.inr ⟨rfl,rfl⟩
 |(k',v)::kvs,_,.cons (d:=d) h hs=>by
  by_cases q:k'=k
  ·exact .inl ⟨v,d,rB q,by simp [zy,q],h⟩
  ·rw [rC (p:=(k',v)) q];simp only [List.map_cons,zy,if_neg q];exact xQ hs
section
variable {X:Cx}{E:XK}
def qy:D->D->Option D
 | .dct ks ds,k=>(uw k).bind (zy ks ds)
 |_,_=>none
def UJ:D->D->Option Bool
 |k,.dct ks ds=>(uw k).map λk=>(zy ks ds k).isSome
 |_,_=>none
theorem lg {j:Nat}{A:Around}(r:fM j A):A.units+16<cLine:=by have:=r.un;omega
theorem Xd {j:Nat}(hr:fM j X.A):OpR X (compareOp .In) (rGB (gx X) UJ):=by
 intro pins s σ H x y v u Q I rx ry h;obtain ⟨O,d,e,r,m,hx,hy,e1,q⟩:=h
 match d,e,e1 with
 |d,.dct ks ds,e1=>
  obtain ⟨k,e2,rfl⟩:=omap e1;obtain ⟨p,kvs,ws,rfl,hp,rfl,rfl,hd⟩:=wB hy;cases yZ hx e2;cases ry;have fin:(m9 kvs k).isSome=(zy (kvs.map (·.1)) ds k).isSome:=by
   rcases xQ (k:=k) hd with ⟨_,_,a,b,_⟩ | ⟨a,b⟩<;>simp [a,b]
  refine abH (lg hr) I (Oq (k:=k) hp) rx λs' I'=>⟨.bl _,H,I',rfl,?_⟩;rw [fin];exact q
variable {a b:Expr}{fa fb:Zae}{pos:Pos}
theorem rP {j:Nat}(hr:fM j X.A)(ha:FB X E a fa)(hb:FB X E b fb)(hs:Vg b):FE X E (.Subscript a b pos) (aD qy fa fb):=
 bJ (LC (lg hr) ha hb hs) λσ H Q hE=>xq5 hE λO0 M0 H0 ow m R q=>two (r:=λx y H Q=>∃a v,x=.ref a/\Fd X.K H a y (some v)/\Q v H) R (K:=λz H=>∀v H',aL H H'->DV (gx X) (Ow O0 ow) H' v z->Q v H') q (λ_ _ k g v H' g' d=>k v H' (g.trans g') d) λx y d e H' g hx hy q' R'=>by
  obtain ⟨r,hr,k⟩:=q'.ofO
  match d,hr with
  | .dct ks ds,hr=>
   obtain ⟨p,kvs,ws,rfl,hp,rfl,rfl,hd⟩:=wB hx;obtain ⟨ky,e2,e3⟩:=Option.bind_eq_some_iff.mp hr;cases yZ hy e2;rcases xQ (k:=ky) hd with ⟨v,d,a,b,c⟩ | ⟨a,b⟩
   ·rw [b] at e3;cases e3;exact ⟨p,v,rfl,a ▸ Oq hp,k _ _ (aL.refl _) c⟩
   ·rw [b] at e3;cases e3
def sW:Zae:=λ_=>.ok (.dct [] [])
theorem rY:FN X E (.Dict [] [] pos) sW:=bJ PJ λσ H Q ⟨O0,M0,H0,ow,m,R,q⟩ p hp=>q p _ (bD hp _) hp ⟨[],[],aV,rfl,rfl,.nil⟩
end
theorem Bj (k:Key)(v:V):∀kvs:List (Key×V),(kvs.map λkv=>if kv.1=k then (kv.1,v) else kv).map (·.1)=kvs.map (·.1)
 |[]=>rfl
 |p::kvs=>by
  rw [List.map_cons,List.map_cons,List.map_cons,Bj k v kvs];split<;>rfl
theorem wD {G:Gx}{O:Zaa}{H:Hp}{k:Key}{v:V}{d:D}(h:DV G O H v d):∀{kvs:List (Key×V)} {ds:List D},DVs G O H (kvs.map (·.2)) ds->DVs G O H ((kvs.map λkv=>if kv.1=k then (kv.1,v) else kv).map (·.2)) (Kc (kvs.map (·.1)) ds k d)
 |[],_,.nil=>.nil
 |(k',v')::kvs,_,.cons h1 hs=>by
  simp only [List.map_cons,Kc];split
  ·exact .cons h (wD h hs)
  ·exact .cons h1 (wD h hs)
theorem Kl {G:Gx}{O:Zaa}{H:Hp}{k:Key}{v:V}{d:D}{kvs:List (Key×V)}{ds:List D}(h:DV G O H v d)(hs:DVs G O H (kvs.map (·.2)) ds):
  (putK kvs k v).map (·.1)=(putD (kvs.map (·.1)) ds k d).1/\DVs G O H ((putK kvs k v).map (·.2)) (putD (kvs.map (·.1)) ds k d).2:=by
 have e:(kvs.any λkv=>decide (kv.1=k))=(kvs.map (·.1)).any λx=>decide (x=k):=by rw [List.any_map];rfl
 unfold putK putD;rw [e];split
 ·exact ⟨Bj k v kvs,wD h hs⟩
 ·exact ⟨by simp,by rw [List.map_append];exact j0 hs (.cons h .nil)⟩
def Nu (m:Me)(i:Nat):Option (Bool×List Key×List D):=match m[i]? with
 |some (.ow (.dct ks ds))=>some (true,ks,ds)
 |some (.io (.dct ks ds))=>some (false,ks,ds)
 |_=>none
def JB (m:Me)(i:Nat)(k:Bool)(ks:List Key)(ds:List D):Me:=m.set i (if k then .ow (.dct ks ds) else .io (.dct ks ds))
section
variable {G:Gx}{O0 M0:Zaa}{H0:Hp}{ow:Os}{σ:L2.St}{H:Hp}{m:Me}
theorem Vs (R:Rel G O0 M0 H0 ow σ H m){i:Nat}{k:Bool}{ks:List Key}{ds:List D}(e:Nu m i=some (k,ks,ds)):∃a kvs,ow i=some a/\σ[i]? = some (some (.ref a))/\H a=some (.dK kvs)/\kvs.map (·.1)=ks/\DVs G (Ow O0 ow) H (kvs.map (·.2)) ds/\((m[i]? = some (.ow (.dct ks ds))/\k=true)\/(m[i]? = some (.io (.dct ks ds))/\k=false)):=by
 unfold Nu at e;split at e
 ·rename_i q;cases e;obtain ⟨a,e1,e2,e3,kvs,vs,e4,e5,rfl,e6⟩:=R.slot i _ q;exact ⟨a,kvs,e1,e3,e4,e5,e6,.inl ⟨q,rfl⟩⟩
 ·rename_i q;cases e;obtain ⟨a,e1,e2,e3,kvs,vs,e4,e5,rfl,e6⟩:=R.slot i _ q;exact ⟨a,kvs,e1,e3,e4,e5,e6,.inr ⟨q,rfl⟩⟩
 ·cases e
theorem dW.JB {i:Nat}{k:Bool}{a:Addr}{ks ls:List Key}{ds es:List D}{kvs:List (Key×V)}(R:dW G O0 M0 H0 ow σ H m)(ho:ow i=some a)(hm:(m[i]? = some (.ow (.dct ks ds))/\k=true)\/(m[i]? = some (.io (.dct ks ds))/\k=false))
  (hk:kvs.map (·.1)=ls) (hd:DVs G (Ow O0 ow) H (kvs.map (·.2)) es):dW G O0 M0 H0 ow σ (L2.upd H a (.dK kvs)) (F.JB m i k ls es)/\Go O0 ow H ow (L2.upd H a (.dK kvs)):=by
 have oa:Ow O0 ow a:=.inr ⟨i,ho⟩;have kp:Kp (Ow O0 ow) H (L2.upd H a (.dK kvs)):=λb u e n=>pO b u e λz=>n (z ▸ oa);have ov:OV G (Ow O0 ow) (L2.upd H a (.dK kvs)) a (.dct ls es):=⟨kvs,_,L2.aV,hk,rfl,hd.kp R.mutk kp⟩;refine ⟨R.chg (d:=.dct ks ds) (d':=.dct ls es) ho pO ov ?_,Go.chg ho pO ov⟩;rcases hm with ⟨e,rfl⟩ | ⟨e,rfl⟩
 ·exact .inl ⟨e,rfl⟩
 ·exact .inr ⟨e,rfl⟩
end
def yU (i:Nat)(fk fv:Zae):Zab:=λm=>(fv m).bind λd=>(ofO (Nu m i)).bind λo=>(fk m).bind λk=>(ofO (uw k)).bind λk=>
 if o.2.1.length<sizeLine then .ok (.nx,JB m i o.1 (putD o.2.1 o.2.2 k d).1 (putD o.2.1 o.2.2 k d).2) else .stuck
section
variable {X:Cx}{E:XK}{e ke:Expr}{f fk:Zae}{pos spos np:Pos}{x:Str}
theorem EY {jj:Nat}(i:Nat)(hr:fM jj X.A)(he:FE X E e f)(hk:FE X E ke fk)(hN:X.N[i]? = some x:=by rfl)(hv:Vis X.env.scope x:=by first | exact Or.inl rfl | exact Or.inr (Or.inl rfl) | exact Or.inr (Or.inr rfl))(hd:(x == ("__debug__" : Str))=false:=by decide)(hcd:(x == ("__classdict__" : Str))=false:=by decide)
  (hs:swapsWith e (some (.Subscript (.Name x np) ke spos)) pos.line X.env=pure false:=by rfl):FS X E (.Assign [.Subscript (.Name x np) ke spos] e pos) (yU i fk f):=
 eQ (JL (lg hr) (oh hN hv hd hcd) hk he hs) λW σ H hE=>xq5 hE λO0 M0 H0 ow m R q=>
  ⟨O0,M0,H0,ow,m,R.toRel,(Ss.pu R.toRel q).imp (aL.refl _) λd q v H1 g1 hv=>by
   obtain ⟨o,ho,q⟩:=Ss.ofO q;obtain ⟨k,ks,ds⟩:=o;have R1:=R.mono g1;obtain ⟨a,kvs,e1,e2,e3,e4,e5,e6⟩:=Vs R1.toRel ho;refine ⟨_,e2,O0,M0,H0,ow,m,R1.toRel,(Ss.pu R1.toRel (q.go (Go.refl g1))).imp (aL.refl _) λdk q vk H2 g2 hvk=>?_⟩;obtain ⟨ky,h1,q⟩:=Ss.ofO q;cases yZ (.inl hvk) h1;by_cases hz:ks.length<sizeLine
   ·rw [if_pos hz] at q;have R2:=R1.mono g2;obtain ⟨p1,p2⟩:=Kl (k:=ky) (hv.mono g2) (e5.mono g2);rw [e4] at p1 p2;obtain ⟨R3,g3⟩:=R2.JB e1 e6 p1 p2;exact ⟨a,_,rfl,Gn.k (g2 _ _ e3) (by rw [← List.length_map (f:=(·.1)),e4];exact hz),q _ _ _ R3 ((Go.refl g2).trans g3)⟩
   ·rw [if_neg hz] at q;exact q.elim⟩
end
def MK:D->Option D
 | .str z=>if z.length<=sizeLine then some (.str z) else none
 | .int i=>if i.natAbs.log2<1920 then some (.str (toString i:String)) else none
 |_=>none
section
variable {X:Cx}{E:XK}{e v₁ v₂:Expr}{es:List Expr}{f:Zae}{pos:Pos}
theorem R0 (h:FB X E e f):FE X E (.FormattedValue e (-1) none pos) (fUn MK f):=by
 intro pins s σ H Q I ⟨O0,M0,H0,ow,m,R,q⟩;refine FormattedValue_plain (thn (h pins s σ H (λx H1=>aL H H1/\∃d r,DW (gx X) (Ow O0 ow) H1 x d/\MK d=some r/\∀v H',aL H H'->DV (gx X) (Ow O0 ow) H' v r->Q v H') I ⟨O0,M0,H0,ow,m,R,q.bind.imp (aL.refl _) λd q x H1 g1 hx=>?_⟩) λu s1 ⟨x,H1,I1,rx,g1,d,r,hx,e1,k⟩=>?_)
 ·obtain ⟨r,hr,k⟩:=q.ofO;exact ⟨g1,d,r,hx,hr,k⟩
 ·match d,e1 with
  | .str z,e1=>
   obtain ⟨hz,rfl⟩:=oif e1;cases du hx;obtain ⟨t,rfl⟩:=rx;exact formatField_str (λt' tk=>⟨.str z,H1,I1.tok _,⟨t',rfl⟩,k _ _ g1 (.str z)⟩) hz
  | .int i,e1=>
   obtain ⟨hz,rfl⟩:=oif e1;cases b7 hx;obtain ⟨t,rfl⟩:=rx;exact formatField_int_small hz ⟨.str _,H1,I1.tok _,⟨_,rfl⟩,k _ _ g1 (.str _)⟩
def FJ (X:Cx)(E:XK)(es:List Expr)(f:Str->Me->Res Str):Prop:=∀(pins:Zl) (s:Shared) (σ:L2.St) (H:Hp) (Q:VK) (out:Str),Inv X pins σ H s->
 (∃O0 M0 H0 ow m,Rel (gx X) O0 M0 H0 ow σ H m/\Pu (gx X) E (f out m) H λz=>∀H',aL H H'->Q (.str z) H')->wpAny (model X.prog X.w) X.A (joinParts out (evalEach es X.env)) (EP X pins σ Q) X.xe s
def YJ:Str->Me->Res Str:=λout _=>if out.length<=sizeLine then .ok out else .stuck
def Ho (f:Zae)(g:Str->Me->Res Str):Str->Me->Res Str:=λout m=>(f m).bind λd=>match d with
 | .str y=>if (out++y).length<=sizeLine then g (out++y) m else .stuck
 |_=>.stuck
theorem Xo:FJ X E [] YJ:=by
 intro pins s σ H Q out I ⟨O0,M0,H0,ow,m,R,q⟩;obtain ⟨hz,k⟩:=Av q;exact joinParts_nil ⟨.str out,H,I.tok _,⟨_,rfl⟩,k H (aL.refl _)⟩ hz
theorem DK {g:Str->Me->Res Str}(h:FE X E e f)(hr:FJ X E es g)(hs:evalEach (e::es) X.env=eval e X.env::evalEach es X.env:=by rfl):FJ X E (e::es) (Ho f g):=by
 intro pins s σ H Q out I ⟨O0,M0,H0,ow,m,R,q⟩;rw [hs];refine joinParts_cons (thn (h pins s σ H (λx H1=>∃y,x=.str y/\(out++y).length<=sizeLine/\∃O0 M0 H0 ow m,Rel (gx X) O0 M0 H0 ow σ H1 m/\Pu (gx X) E (g (out++y) m) H1 λz=>∀H',aL H1 H'->Q (.str z) H') I ⟨O0,M0,H0,ow,m,R,q.bind.imp (aL.refl _) λd q x H1 g1 hx=>?_⟩) λu s1 ⟨x,H1,I1,rx,y,ex,hz,q1⟩=>?_)
 ·cases d with
  |str y=>
   cases hx;by_cases hz:(out++y).length<=sizeLine
   ·simp only [if_pos hz] at q;exact ⟨y,rfl,hz,O0,M0,H0,ow,m,R.mono g1,q.imp g1 λz k H' g'=>k H' (g1.trans g')⟩
   ·simp only [if_neg hz] at q;exact q.elim
  |_=>exact q.elim
 ·subst ex;obtain ⟨t,rfl⟩:=rx;exact ⟨hz,hr pins s1 σ H1 Q (out++y) I1 q1⟩
def Cw (g:Str->Me->Res Str):Zae:=λm=>(g Str.empty m).bind λz=>.ok (.str z)
theorem Np {g:Str->Me->Res Str}(h:FJ X E (v₁::v₂::es) g)(hs:evalEach (v₁::v₂::es) X.env=eval v₁ X.env::eval v₂ X.env::evalEach es X.env:=by rfl):FE X E (.JoinedStr (v₁::v₂::es) pos) (Cw g):=by
 intro pins s σ H Q I ⟨O0,M0,H0,ow,m,R,q⟩;refine JoinedStr_many ?_;rw [← hs];exact h pins s σ H Q Str.empty I ⟨O0,M0,H0,ow,m,R,q.bind.imp (aL.refl _) λz k H' g=>k _ H' g (.str z)⟩
end
def abK:List D->Option D
 |[.int i,.int j]=>some (.int (if j<i then j else i))
 |_=>none
section
variable {X:Cx}
def zX:List D->Option D
 |[.bl b]=>some (.int (if b then 1 else 0))
 |[.str x]=>if x.length<=640 then (PySem.intText? x).map D.int else none
 |_=>none
theorem rW:gG X (.type "int") (rGC (gx X) zX):=by
 intro pins s σ H xs us Q I r h;obtain ⟨O,ds,d,m,hx,hr,q⟩:=h
 match ds,hr with
 |[.bl b],hr=>
  cases hr;obtain ⟨v,rfl,hv⟩:=qt hx;have e:v=.bl b:=by
   rcases hv with hv | ⟨_,_,_,z⟩
   ·cases hv;rfl
   ·exact z.elim
  subst e;obtain ⟨u,rfl,rx⟩:=vals1 r;cases rx;exact call_int_bool ⟨.int _,H,I.tok _,⟨_,rfl⟩,q _ _ (aL.refl _) (.int _)⟩
 |[.str x],hr=>
  obtain ⟨v,rfl,hv⟩:=qt hx;cases du hv;have hr:(if x.length<=640 then (PySem.intText? x).map D.int else none)=some d:=hr;by_cases hl:x.length<=640
  ·rw [if_pos hl] at hr;obtain ⟨n,hn,rfl⟩:=omap hr;obtain ⟨u,rfl,rx⟩:=vals1 r;obtain ⟨t,rfl⟩:=rx;exact W.KIN.call_text hn hl ⟨.int n,H,I.tok _,⟨_,rfl⟩,q _ _ (aL.refl _) (.int _)⟩
  ·rw [if_neg hl] at hr;cases hr
end
section
variable {X:Cx}{E:XK}{e:Expr}
def rZ:D->List D->Option D
 | .str z,[.str y]=>some (.bl (Txt.startswith z y))
 |_,_=>none
theorem Jl:MtR X "str.startswith" (rGM (gx X) rZ):=by
 intro pins s σ H x vs v us Q I rx rv h;obtain ⟨O,d,ds,r,m,hx,hy,hr,q⟩:=h
 match d,ds,hr with
 | .str z,[.str y],hr=>
  cases hr;cases du hx;obtain ⟨w,rfl,hw⟩:=qt hy;cases du hw;obtain ⟨t,rfl⟩:=rx;obtain ⟨u,rfl,ru⟩:=rv.one;obtain ⟨t2,rfl⟩:=ru;exact SC.startswith ⟨.bl _,H,I,rfl,q _ _ (aL.refl _) (.bl _)⟩
def uq:D->List D->Option D
 | .str z,[.str y]=>if z.length<=sizeLine/\(y.length == 0)=false then some (.tup [.str (Txt.partition z y).1,.str (Txt.partition z y).2.1,.str (Txt.partition z y).2.2]) else none
 |_,_=>none
theorem zQ:MtR X "str.partition" (rGM (gx X) uq):=by
 intro pins s σ H x vs v us Q I rx rv h;obtain ⟨O,d,ds,r,m,hx,hy,hr,q⟩:=h
 match d,ds,hr with
 | .str z,[.str y],hr=>
  obtain ⟨⟨h1,h2⟩,rfl⟩:=oif hr;cases du hx;obtain ⟨w,rfl,hw⟩:=qt hy;cases du hw;obtain ⟨t,rfl⟩:=rx;obtain ⟨u,rfl,ru⟩:=rv.one;obtain ⟨t2,rfl⟩:=ru;refine call_meets PySem.F.slot_str_partition (typeIs_str _ _ _) PySem.F.entry_str_partition (PySem.F.args_str_partition_2 _ _) (meets_str_partition z y t t2 h2 h1) ?_;have go:∀(a b c:Str) (ta tb tc tk:Tok),(∀v H',aL H H'->DV (gx X) O H' v (.tup [.str a,.str b,.str c])->Q v H')->
    EP X pins σ Q (.ref s.heap.objs.size) { s with toks:=tk,heap:=s.heap.push { cls:=.type "tuple",data:=.seq [.str a ta,.str b tb,.str c tc].toArray } }:=by
   intro a b c ta tb tc tk q;have I2:Inv X pins σ (upd H s.heap.objs.size (.tup [.str a,.str b,.str c])) { s with toks:=tk,heap:=s.heap.push { cls:=.type "tuple",data:=.seq [.str a ta,.str b tb,.str c tc].toArray } }:=
    I.laid (t':=tk) (λb o e=>Heap.get?_push_of_some _ e) (Nat.le_refl _) (show cD X.prog X.w _ _ _ (.tup [.str a,.str b,.str c]) from ⟨by show 3<=sizeLine;decide,[.str a ta,.str b tb,.str c tc],.cons ⟨ta,rfl⟩ (.cons ⟨tb,rfl⟩ (.cons ⟨tc,rfl⟩ .nil)),IsTup.new _ _⟩)
   exact ⟨.ref s.heap.objs.size,_,I2,rfl,q _ _ (bD (I.hok.fresh (Nat.le_refl _)) _) (.tup (SqU.of aV) (.cons (.str _) (.cons (.str _) (.cons (.str _) .nil))))⟩
  unfold Txt.partition at q
  revert q
  cases Builtin.Str.occurrences z y 0 z.length 1 with
  |nil=>intro q;exact go _ _ _ _ _ _ _ q
  |cons i r=>intro q;exact go _ _ _ _ _ _ _ q
end
section
variable {X:Cx}{E:XK}{e:Expr}{f:Zae}{pos:Pos}
def abJ:D->Option D
 | .str z=>if (reprText z).length<=sizeLine then some (.str (reprText z)) else none
 |_=>none
def tX:D->List D->Option D
 | .str z,[.str y]=>if z.length+2<=sizeLine/\(y.length == 0)=false then some (.lst ((Txt.split z y).map D.str)) else none
 |_,_=>none
theorem Gw {G:Gx}{O:Zaa}{H:Hp}:∀zs:List Str,DVs G O H (zs.map V.str) (zs.map D.str)
 |[]=>.nil
 |z::zs=>.cons (.str z) (Gw zs)
theorem BL:∀l:List (Str×Tok),Vals ((l.map (·.1)).map V.str) (strValues l)
 |[]=>.nil
 |p::l=>.cons ⟨p.2,rfl⟩ (BL l)
theorem Ah:MtR X "str.split" (rGM (gx X) tX):=by
 intro pins s σ H x vs v us Q I rx rv h;obtain ⟨O,d,ds,r,m,hx,hy,hr,q⟩:=h
 match d,ds,hr with
 | .str z,[.str y],hr=>
  obtain ⟨⟨h1,h2⟩,rfl⟩:=oif hr;cases du hx;obtain ⟨w,rfl,hw⟩:=qt hy;cases du hw;obtain ⟨t,rfl⟩:=rx;obtain ⟨u,rfl,ru⟩:=rv.one;obtain ⟨t2,rfl⟩:=ru;have hn:(Builtin.Str.partsBetween z (Builtin.Str.occurrences z y 0 z.length (z.length+1)) y.length).length<=sizeLine:=by
   have e1:=StrLaws.occ_length_le z y 0 z.length (z.length+1);rw [length_partsBetween];omega
  have go:∀(l:List (Str×Tok)) (tk:Nat),l.map (·.1)=Txt.split z y->l.length<=sizeLine->
    EP X pins σ Q (.ref s.heap.objs.size) { s with toks:=tk,heap:=s.heap.push { cls:=.type "list",data:=.seq (strValues l).toArray } }:=by
   intro l tk hl hz;rw [← hl] at q;have hz':((l.map (·.1)).map V.str).length<=sizeLine:=by rw [List.length_map,List.length_map];exact hz
   have I2:=I.laid (t':=tk) (h':=s.heap.push { cls:=.type "list",data:=.seq (strValues l).toArray }) (λb o e=>Heap.get?_push_of_some _ e) (Nat.le_refl _) (show cD X.prog X.w _ _ _ (.lst ((l.map (·.1)).map V.str)) from ⟨hz',strValues l,_,BL l,Heap.get?_push_size _ rfl⟩);have hf:H s.heap.objs.size=none:=I.hok.fresh (Nat.le_refl _);exact ⟨.ref s.heap.objs.size,_,I2,rfl,Jt m q _ _ (bD hf _) hf ⟨_,aV,Gw _⟩⟩
  cases c1:(decide (z.length<y.length) || decide (Builtin.Str.strKind z<Builtin.Str.strKind y))
  ·cases c2:(Builtin.Str.occurrences z y 0 z.length (z.length+1)).isEmpty
   ·refine call_meets PySem.F.slot_str_split (typeIs_str _ _ _) PySem.F.entry_str_split (PySem.F.args_str_split_2 _ _) (meets_str_split_sep z y t t2 c1 h2 c2 (by omega) hn) ?_;rw [strsFrom_eq];exact go (numbered s.toks _) _ ((numbered_texts _ _).trans ((if_neg (ne_true_of_eq_false c1)).trans (if_neg (ne_true_of_eq_false c2))).symm) (by have:=congrArg List.length (numbered_texts s.toks (Builtin.Str.partsBetween z (Builtin.Str.occurrences z y 0 z.length (z.length+1)) y.length));rw [List.length_map] at this;omega)
   ·exact call_meets PySem.F.slot_str_split (typeIs_str _ _ _) PySem.F.entry_str_split (PySem.F.args_str_split_2 _ _) (meets_str_split_not_found z y t t2 c1 h2 c2) (go [(z,t)] s.toks ((if_neg (ne_true_of_eq_false c1)).trans (if_pos c2)).symm (show 1<=sizeLine by decide))
  ·exact call_meets PySem.F.slot_str_split (typeIs_str _ _ _) PySem.F.entry_str_split (PySem.F.args_str_split_2 _ _) (meets_str_split_cannot_occur z y t t2 c1) (go [(z,t)] s.toks (if_pos c1).symm (show 1<=sizeLine by decide))
end
def qj (f:D->Option Kt):List D->Option (List Kt)
 |[]=>some []
 |d::ds=>(f d).bind λk=>(qj f ds).map λks=>k::ks
def ktD:Nat->D->Option Kt
 |_,.int i=>some (.k (.inl i))
 |_,.str x=>some (.k (.inr x))
 |n+1,.tup ds=>(qj (ktD n) ds).map .t
 |_,_=>none
def wj:D->Option (List Kt)
 | .tup ds=>qj (ktD 7) ds
 |_=>none
def dB:List (List Kt)->List D->List Kt->Option D
 |k'::ks,d::ds,k=>if k'=k then some d else dB ks ds k
 |_,_,_=>none
def sO:List (List Kt)->List D->List Kt->D->List D
 |k'::ks,d'::ds,k,d=>(if k'=k then d else d')::sO ks ds k d
 |_,_,_,_=>[]
def qF (ks:List (List Kt))(ds:List D)(k:List Kt)(d:D):List (List Kt)×List D:=if ks.any (λx=>decide (x=k))=true then (ks,sO ks ds k d) else (ks++[k],ds++[d])
theorem Dy {G:Gx}{O:Zaa}{H:Hp}{n:Nat}{f:D->Option Kt}(hf:∀{v d k},DV G O H v d->f d=some k->v9 (KTp G.K) H n v k):∀{vs:List V} {ds:List D} {ks:List Kt},DVs G O H vs ds->qj f ds=some ks->pB (KTp G.K) H n vs ks
 |_,_,_,.nil,e=>by cases e;exact .nil
 |_,_,_,.cons (d:=d) (ds:=ds) h hs,e=>by
  have e:(f d).bind (λk=>(qj f ds).map λks=>k::ks)=some _:=e;obtain ⟨k,e1,e2⟩:=Option.bind_eq_some_iff.mp e;obtain ⟨ks,e3,rfl⟩:=omap e2;exact .cons (hf h e1) (Dy hf hs e3)
theorem Wu {G:Gx}{O:Zaa}{H:Hp}:∀(n:Nat) {v:V} {d:D} {k:Kt},DV G O H v d->ktD n d=some k->v9 (KTp G.K) H n v k
 |n,_,_,k,.int i,e=>by
  have:k=.k (.inl i):=by cases n<;>(rw [ktD] at e;exact (Option.some.inj e).symm)
  subst this;exact v9.k (x:=.inl i)
 |n,_,_,k,.str x,e=>by
  have:k=.k (.inr x):=by cases n<;>(rw [ktD] at e;exact (Option.some.inj e).symm)
  subst this;exact v9.k (x:=.inr x)
 |n+1,_,_,k,.tup h hs,e=>by
  rw [ktD] at e;obtain ⟨ks,e3,rfl⟩:=omap e;exact .t h (Dy (λh e=>Wu n h e) hs e3)
 |0,_,_,k,.tup h hs,e=>by simp [ktD] at e
 |n,_,_,k,.non,e=>by cases n<;>simp [ktD] at e
 |n,_,_,k,.bl _,e=>by cases n<;>simp [ktD] at e
 |n,_,_,k,.adr _,e=>by cases n<;>simp [ktD] at e
 |n,_,_,k,.ins _ _ _ _ _ _,e=>by cases n<;>simp [ktD] at e
 |n,_,_,k,.exc _ _,e=>by cases n<;>simp [ktD] at e
 |n,_,_,k,.lst _ _,e=>by cases n<;>simp [ktD] at e
 |n,_,_,k,.dct _ _ _ _ _,e=>by cases n<;>simp [ktD] at e
 |n,_,_,k,.dcu _ _ _ _ _,e=>by cases n<;>simp [ktD] at e
 |n,_,_,k,.dcf _ _ _ _,e=>by cases n<;>simp [ktD] at e
theorem uW {G:Gx}{O:Zaa}{H:Hp}{v:V}{d:D}{k:List Kt}(h:DW G O H v d)(e:wj d=some k):∃b,v=.ref b/\TrT (KTp G.K) H b k:=by
 cases d with
 |tup ds=>
  obtain ⟨b,xs,rfl,hq,hd⟩:=xG h;exact ⟨b,rfl,xs,hq,Dy (λh e=>Wu 7 h e) hd e⟩
 |_=>cases e
theorem xO {G:Gx}{O:Zaa}{H:Hp}{k:List Kt}:∀{kvs:List (List Kt×V)} {ds:List D},DVs G O H (kvs.map (·.2)) ds->
  (∃v d,m9 kvs k=some v/\dB (kvs.map (·.1)) ds k=some d/\DV G O H v d)\/(m9 kvs k=none/\dB (kvs.map (·.1)) ds k=none)
 |[],_,.nil=>.inr ⟨rfl,rfl⟩
 |(k',v)::kvs,_,.cons (d:=d) h hs=>by
  by_cases q:k'=k
  ·exact .inl ⟨v,d,rB q,by simp [dB,q],h⟩
  ·rw [rC (p:=(k',v)) q];simp only [List.map_cons,dB,if_neg q];exact xO hs
def dcK:D->Option (List (List Kt)×List D)
 | .dcu ks ds=>some (ks,ds)
 | .dcf ks ds=>some (ks,ds)
 |_=>none
theorem Om {G:Gx}{O:Zaa}{H:Hp}{v:V}{d:D}{ks:List (List Kt)}{ds:List D}(h:DW G O H v d)(e:dcK d=some (ks,ds)):∃a kvs,v=.ref a/\Rd H a (.dT (KTp G.K) kvs)/\kvs.map (·.1)=ks/\DVs G O H (kvs.map (·.2)) ds:=by
 cases d with
 |dcu ks' ds'=>
  cases e;obtain ⟨p,kvs,ws,rfl,hp,e1,rfl,hd⟩:=Qg h;exact ⟨p,kvs,rfl,.inl hp,e1,hd⟩
 |dcf ks' ds'=>
  cases e;rcases h with h | ⟨_,_,_,h⟩
  ·cases h with
   |dcf e1 e2 e3 hs=>subst e3;exact ⟨_,_,rfl,.inr ⟨_,e1⟩,e2,hs⟩
  ·exact h.elim
 |_=>cases e
theorem K1 {H H':Hp}{a:Addr}{u:HO}(g:aL H H')(h:Rd H a u):Rd H' a u:=h.imp (g _ _) λ⟨o,e⟩=>⟨o,g _ _ e⟩
section
variable {X:Cx}{E:XK}
def Hh (d k:D):Option D:=(dcK d).bind λc=>(wj k).bind (dB c.1 c.2)
theorem Uw {G:Gx}{O:Zaa}{H:Hp}{k:List Kt}{kvs:List (List Kt×V)}{ds:List D}(hd:DVs G O H (kvs.map (·.2)) ds):(m9 kvs k).isSome=(dB (kvs.map (·.1)) ds k).isSome:=by
 rcases xO (k:=k) hd with ⟨_,_,a,b,_⟩ | ⟨a,b⟩<;>simp [a,b]
variable {a b:Expr}{fa fb:Zae}{pos:Pos}
theorem Mg {j:Nat}(hr:fM j X.A)(ha:FB X E a fa)(hb:FB X E b fb)(hs:Vg b):FE X E (.Subscript a b pos) (aD Hh fa fb):=
 bJ (LC (lg hr) ha hb hs) λσ H Q hE=>xq5 hE λO0 M0 H0 ow m R q=>two (r:=λx y H Q=>∃a v,x=.ref a/\Fd X.K H a y (some v)/\Q v H) R (K:=λz H=>∀v H',aL H H'->DV (gx X) (Ow O0 ow) H' v z->Q v H') q (λ_ _ k g v H' g' d=>k v H' (g.trans g') d) λx y d e H' g hx hy q' R'=>by
  obtain ⟨r,hr,k⟩:=q'.ofO;obtain ⟨⟨ks,ds⟩,ec,hr⟩:=Option.bind_eq_some_iff.mp hr;obtain ⟨ky,e2,e3⟩:=Option.bind_eq_some_iff.mp hr;obtain ⟨p,kvs,rfl,hp,rfl,hd⟩:=Om hx ec;obtain ⟨b,rfl,hb⟩:=uW hy e2;rcases xO (k:=ky) hd with ⟨v,d,a,c,dv⟩ | ⟨a,c⟩
  ·have e3:dB (kvs.map (·.1)) ds ky=some r:=e3;rw [c] at e3;cases e3;exact ⟨p,v,rfl,.inr ⟨kvs,ky,b,hp,rfl,hb,a.symm⟩,k _ _ (aL.refl _) dv⟩
  ·have e3:dB (kvs.map (·.1)) ds ky=some r:=e3;rw [c] at e3;cases e3
def HN (fa fb fc:Zae):Zae:=λm=>(fa m).bind λc=>(ofO (dcK c)).bind λc=>(fb m).bind λk=>(fc m).bind λx=>ofO ((wj k).map λk=>(dB c.1 c.2 k).getD x)
theorem RW {j:Nat}{c:Expr}{fc:Zae}{apos cpos:Pos}(hr:fM j X.A)(ha:FB X E a fa)(hb:FB X E b fb)(hc:FE X E c fc)(hm:M2 X a "get" apos b c cpos):FE X E (.Call (.Attribute a "get" apos) [b,c] [] cpos) (HN fa fb fc):=
 bJ (Qe (lg hr) ha hb hc hm) λσ H Q hE=>xq5 hE λO0 M0 H0 ow m R q=>⟨O0,M0,H0,ow,m,R,q.bind.imp (aL.refl _) λd q x H1 g1 hx=>by
  obtain ⟨⟨ks,ds⟩,ec,q⟩:=q.bind.ofO;obtain ⟨p,kvs,rfl,hp,rfl,hd⟩:=Om hx ec;refine ⟨p,rfl,.inr ⟨kvs,hp⟩,O0,M0,H0,ow,m,R.mono g1,q.bind.imp g1 λe q y H2 g2 hy=>⟨O0,M0,H0,ow,m,R.mono (g1.trans g2),q.bind.imp (g1.trans g2) λe3 q z H3 g3 hz=>?_⟩⟩;obtain ⟨r,hr,k⟩:=q.ofO;obtain ⟨ky,e2,rfl⟩:=omap hr;obtain ⟨b,rfl,hb⟩:=uW (hy.mono g3) e2;refine ⟨m9 kvs ky,.inr ⟨kvs,ky,b,K1 g3 (K1 g2 hp),rfl,hb,rfl⟩,?_⟩;rcases xO (k:=ky) ((hd.mono g2).mono g3) with ⟨v,d,a,c,dv⟩ | ⟨a,c⟩
  ·rw [a];exact k _ _ (g1.trans (g2.trans g3)) (by show DV _ _ _ v ((dB (kvs.map (·.1)) ds ky).getD e3);rw [c];exact dv)
  ·rw [a];exact k _ _ (g1.trans (g2.trans g3)) (by show DV _ _ _ _ ((dB (kvs.map (·.1)) ds ky).getD e3);rw [c];exact hz)⟩
def GK:Zae:=λ_=>.ok (.dcu [] [])
theorem Lx:FN X E (.Dict [] [] pos) GK:=bJ QT λσ H Q ⟨O0,M0,H0,ow,m,R,q⟩ p hp=>q p _ (bD hp _) hp ⟨[],[],aV,rfl,rfl,.nil⟩
end
theorem yP (k:List Kt)(v:V):∀kvs:List (List Kt×V),(kvs.map λkv=>if kv.1=k then (kv.1,v) else kv).map (·.1)=kvs.map (·.1)
 |[]=>rfl
 |p::kvs=>by
  rw [List.map_cons,List.map_cons,List.map_cons,yP k v kvs];split<;>rfl
theorem uh {G:Gx}{O:Zaa}{H:Hp}{k:List Kt}{v:V}{d:D}(h:DV G O H v d):∀{kvs:List (List Kt×V)} {ds:List D},DVs G O H (kvs.map (·.2)) ds->DVs G O H ((kvs.map λkv=>if kv.1=k then (kv.1,v) else kv).map (·.2)) (sO (kvs.map (·.1)) ds k d)
 |[],_,.nil=>.nil
 |(k',v')::kvs,_,.cons h1 hs=>by
  simp only [List.map_cons,sO];split
  ·exact .cons h (uh h hs)
  ·exact .cons h1 (uh h hs)
theorem Vw {G:Gx}{O:Zaa}{H:Hp}{k:List Kt}{v:V}{d:D}{kvs:List (List Kt×V)}{ds:List D}(h:DV G O H v d)(hs:DVs G O H (kvs.map (·.2)) ds):
  (putK kvs k v).map (·.1)=(qF (kvs.map (·.1)) ds k d).1/\DVs G O H ((putK kvs k v).map (·.2)) (qF (kvs.map (·.1)) ds k d).2:=by
 have e:(kvs.any λkv=>decide (kv.1=k))=(kvs.map (·.1)).any λx=>decide (x=k):=by rw [List.any_map];rfl
 unfold putK qF;rw [e];split
 ·exact ⟨yP k v kvs,uh h hs⟩
 ·exact ⟨by simp,by rw [List.map_append];exact j0 hs (.cons h .nil)⟩
def GR (m:Me)(i:Nat):Option (Bool×List (List Kt)×List D):=match m[i]? with
 |some (.ow (.dcu ks ds))=>some (true,ks,ds)
 |some (.io (.dcu ks ds))=>some (false,ks,ds)
 |_=>none
def tH (m:Me)(i:Nat)(k:Bool)(ks:List (List Kt))(ds:List D):Me:=m.set i (if k then .ow (.dcu ks ds) else .io (.dcu ks ds))
section
variable {G:Gx}{O0 M0:Zaa}{H0:Hp}{ow:Os}{σ:L2.St}{H:Hp}{m:Me}
theorem Ld (R:Rel G O0 M0 H0 ow σ H m){i:Nat}{k:Bool}{ks:List (List Kt)}{ds:List D}(e:GR m i=some (k,ks,ds)):∃a kvs,ow i=some a/\σ[i]? = some (some (.ref a))/\H a=some (.dT (KTp G.K) kvs)/\kvs.map (·.1)=ks/\DVs G (Ow O0 ow) H (kvs.map (·.2)) ds/\((m[i]? = some (.ow (.dcu ks ds))/\k=true)\/(m[i]? = some (.io (.dcu ks ds))/\k=false)):=by
 unfold GR at e;split at e
 ·rename_i q;cases e;obtain ⟨a,e1,e2,e3,kvs,vs,e4,e5,rfl,e6⟩:=R.slot i _ q;exact ⟨a,kvs,e1,e3,e4,e5,e6,.inl ⟨q,rfl⟩⟩
 ·rename_i q;cases e;obtain ⟨a,e1,e2,e3,kvs,vs,e4,e5,rfl,e6⟩:=R.slot i _ q;exact ⟨a,kvs,e1,e3,e4,e5,e6,.inr ⟨q,rfl⟩⟩
 ·cases e
theorem dW.tH {i:Nat}{k:Bool}{a:Addr}{ks ls:List (List Kt)}{ds es:List D}{kvs:List (List Kt×V)}(R:dW G O0 M0 H0 ow σ H m)(ho:ow i=some a)(hm:(m[i]? = some (.ow (.dcu ks ds))/\k=true)\/(m[i]? = some (.io (.dcu ks ds))/\k=false))
  (hk:kvs.map (·.1)=ls) (hd:DVs G (Ow O0 ow) H (kvs.map (·.2)) es):dW G O0 M0 H0 ow σ (L2.upd H a (.dT (KTp G.K) kvs)) (F.tH m i k ls es)/\Go O0 ow H ow (L2.upd H a (.dT (KTp G.K) kvs)):=by
 have oa:Ow O0 ow a:=.inr ⟨i,ho⟩;have kp:Kp (Ow O0 ow) H (L2.upd H a (.dT (KTp G.K) kvs)):=λb u e n=>pO b u e λz=>n (z ▸ oa);have ov:OV G (Ow O0 ow) (L2.upd H a (.dT (KTp G.K) kvs)) a (.dcu ls es):=⟨kvs,_,L2.aV,hk,rfl,hd.kp R.mutk kp⟩;refine ⟨R.chg (d:=.dcu ks ds) (d':=.dcu ls es) ho pO ov ?_,Go.chg ho pO ov⟩;rcases hm with ⟨e,rfl⟩ | ⟨e,rfl⟩
 ·exact .inl ⟨e,rfl⟩
 ·exact .inr ⟨e,rfl⟩
end
def G4 (i:Nat)(fk fv:Zae):Zab:=λm=>(fv m).bind λd=>(ofO (GR m i)).bind λo=>(fk m).bind λk=>(ofO (wj k)).bind λk=>
 if o.2.1.length<sizeLine then .ok (.nx,tH m i o.1 (qF o.2.1 o.2.2 k d).1 (qF o.2.1 o.2.2 k d).2) else .stuck
section
variable {X:Cx}{E:XK}{e ke:Expr}{f fk:Zae}{pos spos np:Pos}{x:Str}
theorem Kw {jj:Nat}(i:Nat)(hr:fM jj X.A)(he:FE X E e f)(hk:FE X E ke fk)(hN:X.N[i]? = some x:=by rfl)(hv:Vis X.env.scope x:=by first | exact Or.inl rfl | exact Or.inr (Or.inl rfl) | exact Or.inr (Or.inr rfl))(hd:(x == ("__debug__" : Str))=false:=by decide)(hcd:(x == ("__classdict__" : Str))=false:=by decide)
  (hs:swapsWith e (some (.Subscript (.Name x np) ke spos)) pos.line X.env=pure false:=by rfl):FS X E (.Assign [.Subscript (.Name x np) ke spos] e pos) (G4 i fk f):=
 eQ (JL (lg hr) (oh hN hv hd hcd) hk he hs) λW σ H hE=>xq5 hE λO0 M0 H0 ow m R q=>
  ⟨O0,M0,H0,ow,m,R.toRel,(Ss.pu R.toRel q).imp (aL.refl _) λd q v H1 g1 hv=>by
   obtain ⟨o,ho,q⟩:=Ss.ofO q;obtain ⟨k,ks,ds⟩:=o;have R1:=R.mono g1;obtain ⟨a,kvs,e1,e2,e3,e4,e5,e6⟩:=Ld R1.toRel ho;refine ⟨_,e2,O0,M0,H0,ow,m,R1.toRel,(Ss.pu R1.toRel (q.go (Go.refl g1))).imp (aL.refl _) λdk q vk H2 g2 hvk=>?_⟩;obtain ⟨ky,h1,q⟩:=Ss.ofO q;obtain ⟨b,rfl,hb⟩:=uW (.inl hvk) h1;by_cases hz:ks.length<sizeLine
   ·rw [if_pos hz] at q;have R2:=R1.mono g2;obtain ⟨p1,p2⟩:=Vw (k:=ky) (hv.mono g2) (e5.mono g2);rw [e4] at p1 p2;obtain ⟨R3,g3⟩:=R2.tH e1 e6 p1 p2;exact ⟨a,_,rfl,Gn.t (g2 _ _ e3) hb (by rw [← List.length_map (f:=(·.1)),e4];exact hz),q _ _ _ R3 ((Go.refl g2).trans g3)⟩
   ·rw [if_neg hz] at q;exact q.elim⟩
end
section
variable {X:Cx}{E:XK}{e:Expr}{f:Zae}{pos:Pos}
end
section
variable {prog:Program}{w:World}{A:Around}{E:Zs}{s:Shared}{d it:Addr}{es:Array DictEntry}{ep i:Nat}{o oi:Obj}
theorem Q5 {Q:Zs}(nd:(d == sysModules)=false)(ho:s.heap.get? d=some o)(hx:o.ExactDict)(ht:o.data=.dict es ep)
  (k:Q (.ref s.heap.objs.size) { s with heap:=s.heap.push { cls:=.type "dict_keyiterator",data:=.fields #[.ref d,.int 0 0,.int es.size 0,.int ep 0] } }):wpAny (model prog w) A (pyIter (.ref d)) Q E s:=by
 have ty:s.TypeIs (.ref d) "dict":=⟨o,ho,hx.1⟩;refine wpAny_pyIter_slot ty PySem.F.slot_dict_iter (wpAny_call_entry PySem.F.slot_dict_iter ty PySem.F.entry_dict_iter ?_ (PySem.F.args_dict_iter_1 _));unfold Builtin.«dict.__iter__» Builtin.Dict.dictSlotNone;refine wpAny_bind (wpAny_bind (wpAny_notOrdered_dict ty (show wpAny _ _ (pure (Value.ref d)) _ _ s from wpAny_pure ?_)));show wpAny _ _ (Builtin.Dict.showsAll d >>= _) _ _ s;unfold Builtin.Dict.showsAll;rw [if_neg (λz=>by rw [nd] at z;cases z)];exact wpAny_bind (wpAny_pure (wpAny_bind (wpAny_dictEntries ho ht (wpAny_bind (wpAny_dictEpoch ho ht (wpAny_bind (wpAny_newObj_type (wpAny_pure ⟨_,rfl, "dict_keyiterator",_,⟨_,Heap.get?_push_size _ rfl,rfl⟩,PySem.F.slot_dict_keyiterator_next.lookup,by simpa [rawInt] using k⟩))))))))
theorem OD {Q:Option Value->Shared->Prop}(hit:s.heap.IsKeyIter it d i es.size ep)(ho:s.heap.get? d=some o)(ht:o.data=.dict es ep)
  (lt:i<es.size) (go:∀h',h'.IsKeyIter it d (i+1) es.size ep->Heap.SameBut it s.heap h'->Q (es[i]?.map (·.key)) { s with heap:=h' }):wpAny (model prog w) A (pyNext (.ref it)) Q E s:=by
 obtain ⟨q,hq,hc,hf⟩:=id hit;have ty:=hit.typeIs;have e1:es[i]? = some es[i]:=Array.getElem?_eq_getElem lt;have no:Builtin.Dict_items.ownsTuple "dict_keyiterator" = false:=by decide
 have turned:(s.heap.update it (Obj.mapFields (·.setIfInBounds 1 (rawInt ((i:Int)+1))))).IsKeyIter it d (i+1) es.size ep:=
  ⟨_,Heap.get?_update_self _ hq (Obj.isFreed_of_fields (Obj.data_mapFields hf _)),(Obj.cls_mapFields ..).trans hc,by rw [Obj.data_mapFields hf];simp [rawInt]⟩
 have fin:=go _ turned (Heap.SameBut.update ..);rw [e1] at fin;unfold pyNext;refine wpAny_bind (wpAny_attempt (wpAny_callSpecial?_slot (name:=Str.ofString "__next__") ty PySem.F.slot_dict_keyiterator_next (wpAny_call_entry PySem.F.slot_dict_keyiterator_next ty PySem.F.entry_dict_keyiterator_next ?_ (PySem.F.args_dict_keyiterator_next_1 _))));refine wpAny_bind (wpAny_pure (wpAny_bind (wpAny_bind ?_)))
 first
 |refine wpAny_bind (wpAny_typeNameOfWhole_keyiter ty (wpAny_pure (wpAny_bind (wpAny_fieldsOf hq hf ?_))))
 |refine wpAny_bind (wpAny_typeNameOf_keyiter ty (wpAny_pure (wpAny_bind (wpAny_fieldsOf hq hf ?_))))
 simp only [no,Bool.false_eq_true,if_false];show wpAny _ _ (if (Value.ref d == Value.none)=true then _ else _) _ _ s;rw [if_neg (λz=>by cases (show false=true from z))];refine wpAny_bind (wpAny_pure (wpAny_bind (wpAny_dictEntries ho ht ?_)));rw [if_neg (by simp)];refine wpAny_bind (wpAny_pure (wpAny_bind (wpAny_dictEpoch ho ht ?_)));rw [if_neg (by simp)];refine wpAny_pure ?_;simp only [show ¬((i:Int)<0) by omega,if_false,Int.toNat_natCast,e1];refine wpAny_bind ?_
 first
 |refine wpAny_bind (wpAny_typeNameOfWhole_keyiter ty (wpAny_pure (wpAny_bind (wpAny_isOneOf_keyiter ty ?_))))
 |refine wpAny_bind (wpAny_typeNameOf_keyiter ty (wpAny_pure (wpAny_bind (wpAny_isOneOf_keyiter ty ?_))))
 show wpAny _ _ (setField (.ref it) 1 (rawInt ((i:Int)+1)) >>= _) _ _ s;refine wpAny_bind (wpAny_setField hq hf (by simp) (wpAny_bind (wpAny_holding (wpAny_bind (wpAny_isOneOf_keyiter (s:={ s with heap:=s.heap.update it (Obj.mapFields (·.setIfInBounds 1 (rawInt ((i:Int)+1)))) }) turned.typeIs ?_)))));exact (show wpAny _ _ (pure es[i].key) _ _ _ from wpAny_pure (wpAny_pure ⟨_,rfl,wpAny_pure fin⟩))
theorem next_end {Q:Option Value->Shared->Prop}(hh:A.handled=none)(hit:s.heap.IsKeyIter it d es.size es.size ep)(ho:s.heap.get? d=some o)(ht:o.data=.dict es ep)
  (go:∀h',Heap.ExtBut it s.heap h'->Q none { s with heap:=h' }):wpAny (model prog w) A (pyNext (.ref it)) Q E s:=by
 obtain ⟨q,hq,hc,hf⟩:=id hit;have ty:=hit.typeIs;have e1:es[es.size]? = none:=Array.getElem?_eq_none (Nat.le_refl _);have no:Builtin.Dict_items.ownsTuple "dict_keyiterator" = false:=by decide
 unfold pyNext;refine wpAny_bind (wpAny_attempt (wpAny_callSpecial?_slot (name:=Str.ofString "__next__") ty PySem.F.slot_dict_keyiterator_next (wpAny_call_entry PySem.F.slot_dict_keyiterator_next ty PySem.F.entry_dict_keyiterator_next ?_ (PySem.F.args_dict_keyiterator_next_1 _))));refine wpAny_bind (wpAny_pure (wpAny_bind (wpAny_bind ?_)))
 first
 |refine wpAny_bind (wpAny_typeNameOfWhole_keyiter ty (wpAny_pure (wpAny_bind (wpAny_fieldsOf hq hf ?_))))
 |refine wpAny_bind (wpAny_typeNameOf_keyiter ty (wpAny_pure (wpAny_bind (wpAny_fieldsOf hq hf ?_))))
 simp only [no,Bool.false_eq_true,if_false];show wpAny _ _ (if (Value.ref d == Value.none)=true then _ else _) _ _ s;rw [if_neg (λz=>by cases (show false=true from z))];refine wpAny_bind (wpAny_pure (wpAny_bind (wpAny_dictEntries ho ht ?_)));rw [if_neg (by simp)];refine wpAny_bind (wpAny_pure (wpAny_bind (wpAny_dictEpoch ho ht ?_)));rw [if_neg (by simp)];refine wpAny_pure ?_;simp only [show ¬((es.size:Int)<0) by omega,if_false,Int.toNat_natCast,e1];refine wpAny_bind ?_
 first
 |refine wpAny_bind (wpAny_typeNameOfWhole_keyiter ty (wpAny_pure ?_))
 |refine wpAny_bind (wpAny_typeNameOf_keyiter ty (wpAny_pure ?_))
 show wpAny _ _ (setField (.ref it) 0 .none >>= _) _ _ s;refine wpAny_bind (wpAny_setField hq hf (by simp) (show wpAny _ _ (newExc (.type "StopIteration") [] >>= _) _ _ _ from wpAny_bind ?_));simp only [newExc,newTuple];refine wpAny_bind (wpAny_newObj_type (wpAny_bind (m:=firstArgMember _ _) (wpAny_of_eq (a:=Value.none) (by first | rfl | (simp only [firstArgMember];rfl)) (wpAny_newObj_type ?_ (by size_fits)))) (by size_fits));simp only [raiseNew];refine wpAny_bind (wpAny_handled ?_);rw [show A.in1.handled=none from hh];refine wpAny_bind (wpAny_pure (wpAny_throw (wpAny_bind ?_)));refine wpAny_isInstance (T:="StopIteration") (b:=true) ⟨_,Heap.get?_push_size _ rfl,rfl⟩ isSubtype_stop (wpAny_pure ?_);exact go _ (((Heap.SameBut.update ..).extBut.push _).push _)
end
def VL (i:Nat)(k:Zab):Zab:=λm=>match m[i]? with
 |some (.ow (.dcu ks ds))=>k (m.set i (.fz (.dcf ks ds)))
 |_=>.stuck
section
variable {X:Cx}{E:XK}{rest:List Stmt}{k:Zab}
theorem VH {pins:Zl}{s:Shared}{σ:L2.St}{H:Hp}{a:Addr}{kvs:List (List Kt×V)}(I:Inv X pins σ H s)(e:H a=some (.dT (KTp X.K) kvs)):∃o,Inv X pins σ (L2.upd H a (.frz o (.dT (KTp X.K) kvs))) s:=by
 have ok:=I.hok a _ e;obtain ⟨z,y,xs,r,o,es,ep,h1,rest⟩:=id ok;refine ⟨o,I.write (x:=a) (e:=a) (t':=s.toks) (h':=s.heap) (by rw [e];exact True.intro) (.inl rfl) (λb u _ q=>q) ⟨o,h1⟩ ⟨h1,?_⟩⟩;refine ok.stay (λ_ _ _ q=>q) (λb q=>?_) λb ys q=>?_
 ·rw [bc (yH q e (λz=>nomatch z))];exact q
 ·rw [bc (yH q e (λz=>nomatch z))];exact q
theorem VB (i:Nat)(h:FSs X E rest k):FSs X E rest (VL i k):=by
 intro pins s σ H W I ⟨O0,M0,H0,ow,m,R,q⟩;unfold VL at q;split at q
 ·rename_i ks ds z;obtain ⟨a,h1,h2,h3,kvs,vs,e,e1,e2,hs⟩:=R.slot i _ z;obtain ⟨o,I'⟩:=VH I e;have oa:Ow O0 ow a:=.inr ⟨i,h1⟩;have kp:Kp (Ow O0 ow) H (L2.upd H a (.frz o (.dT (KTp X.K) kvs))):=λb u eb n=>by
   have nb:b≠a:=λw=>n (by rw [w];exact oa);rw [bc nb];exact eb
  have na:∀b,Ow O0 (owS ow i none) b->b≠a:=λb w eb=>by
   subst eb;rcases w with w | ⟨j,w⟩
   ·exact R.no0 i _ h1 w
   ·by_cases ej:j=i
    ·subst ej;rw [cZ] at w;cases w
    ·rw [cO ej] at w;exact ej (R.inj j i _ w h1)
  have ev:Ev (Ow O0 ow) H (Ow O0 (owS ow i none)) (L2.upd H a (.frz o (.dT (KTp X.K) kvs))):=⟨λb w=>.inl w.sub,kp⟩;have hi:=xZ z;have R2:dW (gx X) O0 M0 H0 (owS ow i none) σ (L2.upd H a (.frz o (.dT (KTp X.K) kvs))) (m.set i (.fz (.dcf ks ds))):=by
   refine ⟨⟨by simp [R.len],λb u eb n=>?_,λb w=>?_,λb w=>?_,λj b eb=>?_,λj l b e1 e2=>?_,λj hj=>?_,λj sl ej=>?_⟩,vM R.nb λ_ w=>by cases w⟩
   ·have nb:b≠a:=λw=>by rw [w,h2] at eb;cases eb
    rw [bc nb];exact R.keep b u eb n
   ·by_cases eb:b=a
    ·subst eb;rw [aV];exact λw=>nomatch w
    ·rw [bc eb];exact R.m0 b w
   ·rw [bc (na b w)];exact R.mutk b w.sub
   ·by_cases q:j=i
    ·subst q;rw [cZ] at eb;cases eb
    ·rw [cO q] at eb;exact R.no0 j b eb
   ·by_cases q:j=i
    ·subst q;rw [cZ] at e1;cases e1
    ·by_cases q':l=i
     ·subst q';rw [cZ] at e2;cases e2
     ·rw [cO q] at e1;rw [cO q'] at e2;exact R.inj j l b e1 e2
   ·by_cases q:j=i
    ·subst q;exact cZ
    ·rw [cO q];exact R.out j (by simpa using hj)
   ·by_cases q:j=i
    ·subst q;rw [List.getElem?_set_self hi] at ej;cases ej;rw [cZ];exact ⟨rfl,.ref a,h3,.dcf aV e1 e2 (hs.go R.mutk ev)⟩
    ·rw [List.getElem?_set_ne (Ne.symm q)] at ej;rw [cO q];have sl0:=R.slot j sl ej;have ne:∀c,ow j=some c->c≠a:=λc w z=>q (R.inj j i a (z ▸ w) h1);cases sl with
     |un=>exact sl0
     |fz d=>obtain ⟨w1,x,w2,w3⟩:=sl0;exact ⟨w1,x,w2,w3.go R.mutk ev⟩
     |ow d=>obtain ⟨c,w1,w2,w3,w4⟩:=sl0;exact ⟨c,w1,w2,w3,(w4.kp R.mutk kp (bc (ne c w1))).cI λb w=>.inl w.sub⟩
     |io d=>obtain ⟨c,w1,w2,w3,w4⟩:=sl0;exact ⟨c,w1,w2,w3,(w4.kp R.mutk kp (bc (ne c w1))).cI λb w=>.inl w.sub⟩
     |bw d=>exact (R.nb j d ej).elim
     |hd w c d=>obtain ⟨w1,w2,w3,w4⟩:=sl0;exact ⟨w1,w2,w3,(w4.kp R.mutk kp (bc (ne c w1))).cI λb w=>.inl w.sub⟩
  refine h pins s σ _ W I' ⟨O0,M0,H0,_,_,R2,Ss.go q ⟨kp,λj b eb=>?_,λb n=>?_⟩⟩
  ·by_cases q:j=i
   ·subst q;rw [cZ] at eb;cases eb
   ·rw [cO q] at eb;exact .inl (.inr ⟨j,eb⟩)
  ·by_cases eb:b=a
   ·subst eb;rw [aV];exact λw=>nomatch w
   ·rw [bc eb];exact n
 ·exact q.elim
end
def Itk (d:Addr)(o:Obj)(u:HO)(keys:List V):It:=⟨λi H=>H d=some (.frz o u)/\i<keys.length,λi H v H'=>H'=H/\keys[i]? = some v,λi H=>H d=some (.frz o u)/\i=keys.length⟩
theorem xF:∀{vs:List V} {us:List Value} {i:Nat} {u:Value},Vals vs us->us[i]? = some u->∃v,vs[i]? = some v/\RelV v u
 |_,_,_,_,.nil,e=>by simp at e
 |_,_,0,_,.cons r _,e=>by simp at e;subst e;exact ⟨_,rfl,r⟩
 |_,_,i+1,_,.cons _ t,e=>by
  obtain ⟨v,h1,h2⟩:=xF (i:=i) t (by simpa using e);exact ⟨v,by simpa using h1,h2⟩
theorem My {P:Program}{w:World}{K:W.Frag}{tg:Expr}(it d:Addr)(o:Obj)(u:HO)(es:Array DictEntry)(ep:Nat)(keys:List V)(ht:o.data=.dict es ep)(hv:Vals keys (es.toList.map (·.key))):
  Turn P w K tg (Itk d o u keys) [it] it (λi h=>h.IsKeyIter it d i es.size ep) where
 mem:=by simp
 obj:=λi h st b hb=>by
  cases List.mem_singleton.mp hb;obtain ⟨q,e,c,f⟩:=st;exact ⟨q,e,λv y=>by rw [f] at y;cases y⟩
 keep:=λi h h' st k=>by
  obtain ⟨q,e,r⟩:=st;exact ⟨q,k it (by simp) q e,r⟩
 item:=by
  intro X hP hw hK hc i pins s σ H E I hf st hg;subst hP hw hK;obtain ⟨f0,f1,f2,f3,f4,f5⟩:=hf it (by simp);obtain ⟨hd,hl⟩:=hg;obtain ⟨ho,_⟩:=I.hok d _ hd;have hlen:keys.length=es.size:=by have:=hv.length;simpa using this
  have lt:i<es.size:=by omega
  refine OD st ho ht lt λh' st' kk=>?_;have e1:es[i]? = some es[i]:=Array.getElem?_eq_getElem lt;obtain ⟨v,hv1,hv2⟩:=xF (i:=i) (u:=es[i].key) hv (by simp [lt]);have I1:Inv X pins σ H { s with heap:=h' }:=I.turned (t':=s.toks) (λb q hb e=>(kk.2 b hb).trans e) f0 f1 f3 f4 f5;obtain ⟨q,e,cl,fd⟩:=id st';refine ⟨es[i].key,by rw [e1];rfl,Ay (s:={ s with heap:=h' }) (n:="dict_keyiterator") e cl fd (by decide) ⟨v,H,I1,hv2,⟨rfl,hv1⟩,st',λb hb=>(hf b hb).1⟩⟩
 done:=by
  intro X hP hw hK hc i pins s σ H E I hf st hg;subst hP hw hK;obtain ⟨f0,f1,f2,f3,f4,f5⟩:=hf it (by simp);obtain ⟨hd,hl⟩:=hg;obtain ⟨ho,_⟩:=I.hok d _ hd;have hlen:keys.length=es.size:=by have:=hv.length;simpa using this
  have ei:i=es.size:=by omega
  subst ei;exact next_end (I.ok.hd hc) st ho ht λh' kk=>⟨rfl,I.turned (t':=s.toks) (λb q hb e=>kk b q hb e) f0 f1 f3 f4 f5⟩
 self:=λA i s Q E st h=>wpAny_pyIter_keyiter st h
def keyV:Key->D
 | .inl i=>.int i
 | .inr z=>.str z
mutual
def ktV:Kt->D
 | .k x=>keyV x
 | .t xs=>.tup (Ny xs)
def Ny:List Kt->List D
 |[]=>[]
 |x::xs=>ktV x::Ny xs
end
def tupK (k:List Kt):D:=.tup (Ny k)
theorem Kq {G:Gx}{O:Zaa}{H:Hp}:∀k:Key,DV G O H (kV k) (keyV k)
 | .inl i=>.int i
 | .inr z=>.str z
mutual
theorem Xk {G:Gx}{O:Zaa}{H:Hp}:∀{n:Nat} {v:V} {k:Kt},v9 (KTp G.K) H n v k->DV G O H v (ktV k)
 |_,_,_,.k (x:=x)=>by rw [ktV];exact Kq x
 |_,_,_,.t h hs=>by rw [ktV];exact .tup h (yq hs)
theorem yq {G:Gx}{O:Zaa}{H:Hp}:∀{n:Nat} {vs:List V} {ks:List Kt},pB (KTp G.K) H n vs ks->DVs G O H vs (Ny ks)
 |_,_,_,.nil=>by rw [Ny];exact .nil
 |_,_,_,.cons h hs=>by rw [Ny];exact .cons (Xk h) (yq hs)
end
theorem Uq {G:Gx}{O:Zaa}{H:Hp}{b:Addr}{k:List Kt}(h:TrT (KTp G.K) H b k):DV G O H (.ref b) (tupK k):=let ⟨_,h1,h2⟩:=h;.tup h1 (yq h2)
theorem X8 {K:W.Frag}{O:Zaa}{H H':Hp}{b:Addr}{k:List Kt}(m:∀b,O b->fH (H b))(g:Kp O H H')(h:TrT (KTp K) H b k):TrT (KTp K) H' b k:=h.imp λb xs e=>g b _ e (jR m e Ej)
def KeysOf (K:W.Frag)(H:Hp):List (List Kt×V)->List V->Prop:=Paired λp v=>∃b,v=.ref b/\TrT (KTp K) H b p.1
theorem KeysOf.len {K:W.Frag}{H:Hp}{kvs:List (List Kt×V)}{keys:List V}(h:KeysOf K H kvs keys):keys.length=kvs.length:=(Paired.length h).symm
theorem KeysOf.at {K:W.Frag}{H:Hp}:∀{kvs:List (List Kt×V)} {keys:List V} {i:Nat} {v:V},KeysOf K H kvs keys->keys[i]? = some v->∃p b,kvs[i]? = some p/\v=.ref b/\TrT (KTp K) H b p.1
 |_,_,_,_,.nil,e=>by simp at e
 |_,_,0,_,.cons ⟨b,h1,h2⟩ _,e=>by simp at e;subst e;exact ⟨_,b,rfl,h1,h2⟩
 |_,_,i+1,_,.cons _ t,e=>by
  obtain ⟨p,b,q1,q2,q3⟩:=KeysOf.at (i:=i) t (by simpa using e);exact ⟨p,b,by simpa using q1,q2,q3⟩
theorem Mh {K:W.Frag}{H:Hp}:∀{kvs:List (List Kt×V)} {xs:List (List Kt×Addr×Value)},KT (KTp K) H kvs xs->KeysOf K H kvs (xs.map λq=>V.ref q.2.1)
 |_,_,.nil=>.nil
 |_,_,.cons h t=>.cons ⟨_,rfl,h.2.1⟩ (Mh t)
theorem Ai {P:Program}{w:World}:∀xs:List (List Kt×Addr×Value),Vals (xs.map λq=>V.ref q.2.1) ((xs.map (entryOfKey (gf P w))).map (·.key))
 |[]=>.nil
 |q::xs=>.cons rfl (Ai xs)
section
variable {X:Cx}{tg:Expr}
theorem Km {K:W.Frag}{O:Zaa}{H H':Hp}(m:∀b,O b->fH (H b))(g:Kp O H H'):∀{kvs:List (List Kt×V)} {keys:List V},KeysOf K H kvs keys->KeysOf K H' kvs keys
 |_,_,.nil=>.nil
 |_,_,.cons ⟨b,h1,h2⟩ t=>.cons ⟨b,h1,X8 m g h2⟩ (Km m g t)
end
section
variable {X:Cx}
end
section
variable {pr:Program}{wo:World}{A:Around}{R:Result->Shared->Prop}{I:Addr}{fp wr:List Addr}{G:Array GenState->Array GenState->Prop}{n:Nat}{P:Nat->Value->Prop}{St:Nat->Shared->Prop}
end
section
variable {pr:Program}{wo:World}{A:Around}{E:Zs}{s:Shared}
end
section
variable {X:Cx}
end
structure Wr (p:Prop):Prop where
 out:p
section
variable {X:Cx}{E:XK}{e a b c ke:Expr}{es:List Expr}{st:Stmt}{rest sa sb:List Stmt}{f fa fb fk:Zae}{fs:Zad}{ft:Zaf}{gg k ga gb:Zab}{pos pos' apos cpos np spos p:Pos}{i:Nat}{x:Str}
theorem ug (h1:Wr (FS X E st gg))(h2:Wr (FSs X E rest k)):Wr (FSs X E (st::rest) (aM gg k)):=⟨aC h1.out h2.out⟩
theorem O4 (h1:Wr (FS X E st gg)):Wr (FSs X E [st] gg):=⟨aF h1.out⟩
theorem abD (hc:Wr (FT X E c ft))(ha:Wr (FSs X E sa ga))(hb:Wr (FSs X E sb gb)):Wr (FS X E (.If c sa sb pos) (gIf ft ga gb)):=⟨dh hc.out ha.out hb.out⟩
theorem Q7 (hN:X.N.Nodup)(hi:X.N[i]? = some x)(hx:Loc X.env.scope x)(he:Wr (FE X E e f))(hs:swapsWith e (some (.Name x pos')) pos.line X.env=pure false:=by rfl)
  (hf:X.fn x=true\/X.env.scope.names.lookup x=some .local:=by first | exact .inl rfl | exact .inr rfl | assumption):Wr (FS X E (.Assign [.Name x pos'] e pos) (bf i f)):=⟨bC hN hi hx he.out hs hf⟩
theorem Wy (hN:X.N.Nodup)(hi:X.N[i]? = some x)(hx:Loc X.env.scope x)(he:Wr (FN X E e f))(hs:swapsWith e (some (.Name x pos')) pos.line X.env=pure false:=by rfl)
  (hf:X.fn x=true\/X.env.scope.names.lookup x=some .local:=by first | exact .inl rfl | exact .inr rfl | assumption):Wr (FS X E (.Assign [.Name x pos'] e pos) (iZ i f)):=⟨iV hN hi hx he.out hs hf⟩
theorem Wz (he:Wr (FE X E e f)):Wr (FS X E (.Return (some e) pos) (bz f)):=⟨bA he.out⟩
theorem bH (ha:Wr (FE X E e fa))(hr:Wr (FAE X E es fs))(hs:starEach (e::es) X.env=(false,eval e X.env)::starEach es X.env:=by rfl):Wr (FAE X E (e::es) (aj fa fs)):=⟨ak ha.out hr.out hs⟩
theorem dX {x1}(h:Wr (FAE X E es fs)):Wr (FE X E (.Tuple es x1 pos) (aQ fs)):=⟨bG h.out⟩
theorem aac (h:Wr (FAE X E es fs)):Wr (FN X E (.List es pos) (fO fs)):=⟨gj h.out⟩
end
section
variable {pr:Program}{wo:World}{A:Around}{E:Zs}{s:Shared}{κ:Type}[DecidableEq κ]{kn:HeapKind pr wo κ}
theorem Ux {d a:Addr}{xs:List (κ×Addr×Value)}{k:κ}{v:Value}{Q:Zs}(hu:kn.room A)(hk:kn.is s.heap k a)(hm:s.heap.DictOfH kn d xs)(hz:xs.length<=sizeLine)
  (old:∀p,atKey xs k=some p->Q p.2 { s with toks:=s.toks+kn.draws k })
  (new:atKey xs k=none->∀h',h'.DictOfH kn d (xs++[(k,a,v)])->Heap.SameBut d s.heap h'->Q v { s with heap:=h',toks:=s.toks+kn.draws k }):
  wpAny (model pr wo) A (dictSetDefault d (.ref a) v) Q E s:=by
 obtain ⟨o,es,ep,ho,hc,hd,he,hi,hn⟩:=id hm;unfold dictSetDefault;refine wpAny_holding (wpAny_bind (kn.pyHash hu hk (wpAny_bind (wpAny_dictFind_heap (s:={ s with toks:=s.toks+kn.draws k }) hu hk ho hd he hi hn (λno=>?_) λj p hj=>?_))))
 ·have h0:=atKey_none_of_get no;have nk:=not_mem_keys_of_get no;have es1:=size_of_entries he;refine wpAny_bind (wpAny_rule (wpAny_bind (wpAny_updateDictKeys (hz:=by omega) (s:={ s with toks:=s.toks+kn.draws k }) ho hd (wpAny_pure (new h0 _ ⟨_,_,ep+1,Heap.get?_update_self _ ho (Obj.isFreed_of_dict (Obj.data_mapDictKeys hd _)),hc.mapDictKeys _,Obj.data_mapDictKeys hd _,?_,λy hy=>?_,?_⟩ (Heap.SameBut.update ..))))))
  ·simp [he,entryOfKey]
  ·rcases List.mem_append.mp hy with z | z
   ·exact kn.keeps (hi y z) ho hd (Heap.SameBut.update ..)
   ·rw [List.mem_singleton.mp z];exact kn.keeps hk ho hd (Heap.SameBut.update ..)
  ·rw [List.map_append,List.nodup_append];refine ⟨hn,by simp,λy hy z hz' e=>nk ?_⟩;have e2:z=k:=List.mem_singleton.mp hz';rw [← e2,← e];exact hy
 ·refine wpAny_bind (wpAny_dictEntries (s:={ s with toks:=s.toks+kn.draws k }) ho hd ?_);rw [entry_at he j,hj];exact wpAny_bind (wpAny_rule (wpAny_pure (old p (atKey_of_get hn hj))))
theorem Ol {d a:Addr}{xs:List (κ×Addr×Value)}{k:κ}{v:Value}{Q:Zs}(hu:kn.room A.in1)(hk:kn.is s.heap k a)(hm:s.heap.DictOfH kn d xs)(hz:xs.length<=sizeLine)(hd:(d == sysModules)=false)
  (old:∀p,atKey xs k=some p->Q p.2 { s with toks:=s.toks+kn.draws k })
  (new:atKey xs k=none->∀h',h'.DictOfH kn d (xs++[(k,a,v)])->Heap.SameBut d s.heap h'->Q v { s with heap:=h',toks:=s.toks+kn.draws k }):
  wpAny (model pr wo) A (call (.builtin "dict.setdefault") [.ref d,.ref a,v]) Q E s:=by
 refine wpAny_call_entry PySem.F.slot_dict_setdefault hm.typeIs PySem.F.entry_dict_setdefault ?_ (PySem.F.args_dict_setdefault_3 _ _ _);unfold Builtin.«dict.setdefault»;refine wpAny_bind ?_;unfold Builtin.Dict.keyAndDefault;refine wpAny_bind (wpAny_notOrdered_dict hm.typeIs ?_);show wpAny _ _ (pure (d,Value.ref a,some v)) _ _ s;refine wpAny_pure ?_;show wpAny _ _ (if (d == sysModules)=true then _ else (dictSetDefault d (.ref a) v >>= _)) _ _ s;rw [if_neg (by rw [hd];exact Bool.false_ne_true)];exact wpAny_bind (Ux hu hk hm hz (λp e=>wpAny_pure ⟨p.2,rfl,old p e⟩) λe h' x y=>wpAny_pure ⟨v,rfl,new e h' x y⟩)
end
def abi (K:W.Frag)(td ty tx:TE):TE:=λσ H Q=>td σ H λx H1=>∃a,x=.ref a/\IsD K H1 a/\ty σ H1 λy H2=>tx σ H2 λz H3=>∃kvs k b,H3 a=some (.dT (KTp K) kvs)/\y=.ref b/\TrT (KTp K) H3 b k/\kvs.length<sizeLine/\
 (∀v,m9 kvs k=some v->Q v H3)/\(m9 kvs k=none->Q z (upd H3 a (.dT (KTp K) (kvs++[(k,z)]))))
section
variable {X:Cx}{o e f:Expr}{apos cpos:Pos}{td ty tx:TE}
theorem YX (hu:X.A.units+16<cLine)(ho:PE X o td)(he:PE X e ty)(hf:PE X f tx)(m:M2 X o "setdefault" apos e f cpos):PE X (.Call (.Attribute o "setdefault" apos) [e,f] [] cpos) (abi X.K td ty tx):=by
 intro pins s σ H Q I h;refine wpAny_Call_method m.base m.few m.line PySem.F.plainAttrs_dict PySem.F.slot_dict_setdefault PySem.F.type_dict_setdefault (thn (ho pins s σ H _ I h) λu s1 ⟨x,H1,I1,rx,a,ex,d,q1⟩=>?_);subst ex;cases (show u=Value.ref a from rx);obtain ⟨t1,t2,_⟩:=S9 I1 d;refine ⟨t1,t2,?_⟩;rw [m.trees];refine Calls.callWith_builtin rfl (Calls.evalArgs_plain (Calls.spliced_cons (thn (he pins s1 σ H1 _ I1 q1) λiv s2 hE=>xq2 hE λy H2 I2 ry q2=>
  Calls.spliced_cons (thn (hf pins s2 σ H2 _ I2 q2) λfv s3 ⟨z,H3,I3,rz,kvs,k,b,e3,ey,eb,l,q3,q4⟩=>Calls.spliced_nil ?_))))
 subst ey;cases (show iv=Value.ref b from ry);obtain ⟨sz,hd,xs,rel,dd⟩:=O9 (wI I3) I3.hok e3;have hz:xs.length<=sizeLine:=by rw [← Paired.length rel];exact sz
 have rv:=rel.val k;refine Ol (pF hu) (tY I3 eb) dd hz hd (λp hp=>?_) λhn h' dd' hs=>?_
 ·rw [hp] at rv;cases ev:m9 kvs k with
  |none=>rw [ev] at rv;cases rv
  |some v=>
   rw [ev] at rv;exact ⟨v,H3,I3.tok _,rv,q3 v ev⟩
 ·rw [hn] at rv;cases ev:m9 kvs k with
  |some v=>rw [ev] at rv;cases rv
  |none=>
   have rp:=rel.put k eb rz;rw [PN _ ev,storedH_new hn] at rp;obtain ⟨q,es,ep,hq,h2,h3,h4,_,h5⟩:=dd';refine ⟨z,upd H3 a (.dT (KTp X.K) (kvs++[(k,z)])),uP I3 (by rw [e3];exact True.intro) hs ⟨q,hq⟩ ⟨by rw [List.length_append,List.length_singleton];omega,hd,_,rp.keeps λc ys ec=>?_,q,es,ep,hq,h2,h3,h4,h5⟩,rz,q4 ev⟩;rw [bc (yH ec e3 (λz=>nomatch z))];exact ec
end
def Ui (i:Nat)(fk fv:Zae):Zab:=λm=>(ofO (GR m i)).bind λo=>(fk m).bind λk=>(fv m).bind λd=>(ofO (wj k)).bind λk=>
 if o.2.1.length<sizeLine then .ok (.nx,if (dB o.2.1 o.2.2 k).isSome then m else tH m i o.1 (o.2.1++[k]) (o.2.2++[d])) else .stuck
section
variable {X:Cx}{E:XK}{e ke:Expr}{f fk:Zae}{pos np apos cpos:Pos}{x:Str}
theorem Y6 {jj:Nat}(i:Nat)(hr:fM jj X.A)(hk:FE X E ke fk)(he:FE X E e f)(hm:M2 X (.Name x np) "setdefault" apos ke e cpos)(hN:X.N[i]? = some x:=by rfl)(hv:Vis X.env.scope x:=by first | exact Or.inl rfl | exact Or.inr (Or.inl rfl) | exact Or.inr (Or.inr rfl))(hd:(x == ("__debug__" : Str))=false:=by decide)(hcd:(x == ("__classdict__" : Str))=false:=by decide)
  (hsw:swapsWith (.Call (.Attribute (.Name x np) "setdefault" apos) [ke,e] [] cpos) none pos.line X.env=pure false:=by rfl):FS X E (.Expr (.Call (.Attribute (.Name x np) "setdefault" apos) [ke,e] [] cpos) pos) (Ui i fk f):=
 eQ (xu (YX (lg hr) (oh hN hv hd hcd) hk he hm) hsw) λW σ H hE=>xq5 hE λO0 M0 H0 ow m R q=>by
  obtain ⟨o,ho,q⟩:=Ss.ofO q;obtain ⟨k,ks,ds⟩:=o;obtain ⟨a,kvs,e1,e2,e3,e4,e5,e6⟩:=Ld R.toRel ho;refine ⟨_,e2,a,rfl,.inr ⟨kvs,.inl e3⟩,O0,M0,H0,ow,m,R.toRel,(Ss.pu R.toRel q).imp (aL.refl _) λdk q vk H1 g1 hvk=>?_⟩;have R1:=R.mono g1;refine ⟨O0,M0,H0,ow,m,R1.toRel,(Ss.pu R1.toRel (q.go (Go.refl g1))).imp (aL.refl _) λd q v H2 g2 hv=>?_⟩;obtain ⟨ky,h1,q⟩:=Ss.ofO q;obtain ⟨b,rfl,hb⟩:=uW (.inl (hvk.mono g2)) h1;have R2:=R1.mono g2;have e3':=g2 _ _ (g1 _ _ e3);have e5':=(e5.mono g1).mono g2;have uf:=Uw (k:=ky) e5';rw [e4] at uf;by_cases hz:ks.length<sizeLine
  ·rw [if_pos hz] at q;refine ⟨kvs,ky,b,e3',rfl,hb,by rw [← List.length_map (f:=(·.1)),e4];exact hz,λv' ev=>?_,λev=>?_⟩
   ·rw [ev] at uf;rw [← uf] at q;exact q _ _ _ R2 (Go.refl g2)
   ·rw [ev] at uf;rw [← uf] at q;obtain ⟨R3,g3⟩:=R2.tH (ls:=ks++[ky]) (es:=ds++[d]) (kvs:=kvs++[(ky,v)]) e1 e6 (by simp [e4]) (by rw [List.map_append];exact j0 e5' (.cons hv .nil));exact q _ _ _ R3 ((Go.refl g2).trans g3)
  ·rw [if_neg hz] at q;exact q.elim
end
def rA (h:Heap)(d:Addr)(es:Array DictEntry)(ep:Nat):Prop:=∃o,h.get? d=some o/\o.ExactDict/\o.data=.dict es ep
section
variable {prog:Program}{w:World}{A:Around}{E:Zs}{s:Shared}{d it v:Addr}{es:Array DictEntry}{ep i:Nat}
theorem rA.ty (x:rA s.heap d es ep):s.TypeIs (.ref d) "dict":=let ⟨o,h,c,_⟩:=x;⟨o,h,c.1⟩
theorem rA.up {h h':Heap}(x:rA h d es ep)(k:∀o,h.get? d=some o->h'.get? d=some o):rA h' d es ep:=let ⟨o,e,r⟩:=x;⟨o,k o e,r⟩
theorem Ot {Q:Zs}(nd:(d == sysModules)=false)(x:rA s.heap d es ep)
  (k:Q (.ref s.heap.objs.size) { s with heap:=s.heap.push { cls:=.type "dict_values",data:=.fields #[.ref d] } }):wpAny (model prog w) A (call (.builtin "dict.values") [.ref d]) Q E s:=by
 refine wpAny_call_entry PySem.F.slot_dict_values x.ty PySem.F.entry_dict_values ?_ (PySem.F.args_dict_values_1 _);refine wpAny_bind ?_;unfold Builtin.Dict.noArgs;refine wpAny_bind (wpAny_notOrdered_dict x.ty (show wpAny _ _ (pure d) _ _ s from wpAny_pure ?_));show wpAny _ _ (Builtin.Dict.showsAll d >>= _) _ _ s;unfold Builtin.Dict.showsAll;rw [if_neg (λz=>by rw [nd] at z;cases z)];exact wpAny_bind (wpAny_pure (wpAny_bind (wpAny_newObj_type (wpAny_pure ⟨_,rfl,k⟩))))
theorem aaE {Q:Zs}(hv:s.heap.IsValuesView v d)(x:rA s.heap d es ep)
  (k:Q (.ref s.heap.objs.size) { s with heap:=s.heap.push { cls:=.type "dict_valueiterator",data:=.fields #[.ref d,.int 0 0,.int es.size 0,.int ep 0] } }):wpAny (model prog w) A (pyIter (.ref v)) Q E s:=by
 obtain ⟨q,hq,hc,hf⟩:=id hv;obtain ⟨o,ho,hx,ht⟩:=id x;have no:Builtin.Dict_items.ownsTuple "dict_valueiterator" = false:=by decide
 refine wpAny_pyIter_slot hv.typeIs PySem.F.slot_dict_values_iter (wpAny_call_entry PySem.F.slot_dict_values_iter hv.typeIs PySem.F.entry_dict_values_iter ?_ (PySem.F.args_dict_values_iter_1 _));unfold Builtin.«dict_values.__iter__»;refine wpAny_bind (wpAny_pure (wpAny_bind ?_));unfold Builtin.Dict_items.dictOf;refine wpAny_bind (wpAny_field hq hf (x:=.ref d) rfl (wpAny_pure (wpAny_bind ?_)));unfold Builtin.Dict_items.newIterator;refine wpAny_bind (wpAny_dictEntries ho ht (wpAny_bind (wpAny_dictEpoch ho ht ?_)));simp only [no,Bool.false_eq_true,if_false];exact wpAny_newObj_type (wpAny_pure ⟨_,rfl, "dict_valueiterator",_,⟨_,Heap.get?_push_size _ rfl,rfl⟩,PySem.F.slot_dict_valueiterator_next.lookup,by simpa [rawInt] using k⟩)
theorem Z3 {Q:Option Value->Shared->Prop}(hit:s.heap.IsValIter it d i es.size ep)(x:rA s.heap d es ep)
  (lt:i<es.size) (go:∀h',h'.IsValIter it d (i+1) es.size ep->Heap.SameBut it s.heap h'->Q (some es[i].val) { s with heap:=h' }):wpAny (model prog w) A (pyNext (.ref it)) Q E s:=by
 obtain ⟨q,hq,hc,hf⟩:=id hit;obtain ⟨o,ho,hx,ht⟩:=id x;have ty:=hit.typeIs;have e1:es[i]? = some es[i]:=Array.getElem?_eq_getElem lt;have no:Builtin.Dict_items.ownsTuple "dict_valueiterator" = false:=by decide
 have turned:(s.heap.update it (Obj.mapFields (·.setIfInBounds 1 (rawInt ((i:Int)+1))))).IsValIter it d (i+1) es.size ep:=
  ⟨_,Heap.get?_update_self _ hq (Obj.isFreed_of_fields (Obj.data_mapFields hf _)),(Obj.cls_mapFields ..).trans hc,by rw [Obj.data_mapFields hf];simp [rawInt]⟩
 have fin:=go _ turned (Heap.SameBut.update ..);unfold pyNext;refine wpAny_bind (wpAny_attempt (wpAny_callSpecial?_slot (name:=Str.ofString "__next__") ty PySem.F.slot_dict_valueiterator_next (wpAny_call_entry PySem.F.slot_dict_valueiterator_next ty PySem.F.entry_dict_valueiterator_next ?_ (PySem.F.args_dict_valueiterator_next_1 _))));refine wpAny_bind (wpAny_pure (wpAny_bind (wpAny_bind ?_)))
 first
 |refine wpAny_bind (wpAny_typeNameOfWhole_valiter ty (wpAny_pure (wpAny_bind (wpAny_fieldsOf hq hf ?_))))
 |refine wpAny_bind (wpAny_typeNameOf_valiter ty (wpAny_pure (wpAny_bind (wpAny_fieldsOf hq hf ?_))))
 simp only [no,Bool.false_eq_true,if_false];show wpAny _ _ (if (Value.ref d == Value.none)=true then _ else _) _ _ s;rw [if_neg (λz=>by cases (show false=true from z))];refine wpAny_bind (wpAny_pure (wpAny_bind (wpAny_dictEntries ho ht ?_)));rw [if_neg (by simp)];refine wpAny_bind (wpAny_pure (wpAny_bind (wpAny_dictEpoch ho ht ?_)));rw [if_neg (by simp)];refine wpAny_pure ?_;simp only [show ¬((i:Int)<0) by omega,if_false,Int.toNat_natCast,e1];refine wpAny_bind ?_
 first
 |refine wpAny_bind (wpAny_typeNameOfWhole_valiter ty (wpAny_pure (wpAny_bind (wpAny_isOneOf_valiter ty ?_))))
 |refine wpAny_bind (wpAny_typeNameOf_valiter ty (wpAny_pure (wpAny_bind (wpAny_isOneOf_valiter ty ?_))))
 show wpAny _ _ (setField (.ref it) 1 (rawInt ((i:Int)+1)) >>= _) _ _ s;refine wpAny_bind (wpAny_setField hq hf (by simp) (wpAny_bind (wpAny_holding ?_)));refine wpAny_bind (wpAny_isOneOf_valiter (s:={ s with heap:=s.heap.update it (Obj.mapFields (·.setIfInBounds 1 (rawInt ((i:Int)+1)))) }) turned.typeIs ?_);refine wpAny_bind (wpAny_isOneOf_valiter (s:={ s with heap:=s.heap.update it (Obj.mapFields (·.setIfInBounds 1 (rawInt ((i:Int)+1)))) }) turned.typeIs ?_);exact (show wpAny _ _ (pure es[i].val) _ _ _ from wpAny_pure (wpAny_pure ⟨_,rfl,wpAny_pure fin⟩))
theorem Nq {Q:Option Value->Shared->Prop}(hh:A.handled=none)(hit:s.heap.IsValIter it d es.size es.size ep)(x:rA s.heap d es ep)
  (go:∀h',Heap.ExtBut it s.heap h'->Q none { s with heap:=h' }):wpAny (model prog w) A (pyNext (.ref it)) Q E s:=by
 obtain ⟨q,hq,hc,hf⟩:=id hit;obtain ⟨o,ho,hx,ht⟩:=id x;have ty:=hit.typeIs;have e1:es[es.size]? = none:=Array.getElem?_eq_none (Nat.le_refl _);have no:Builtin.Dict_items.ownsTuple "dict_valueiterator" = false:=by decide
 unfold pyNext;refine wpAny_bind (wpAny_attempt (wpAny_callSpecial?_slot (name:=Str.ofString "__next__") ty PySem.F.slot_dict_valueiterator_next (wpAny_call_entry PySem.F.slot_dict_valueiterator_next ty PySem.F.entry_dict_valueiterator_next ?_ (PySem.F.args_dict_valueiterator_next_1 _))));refine wpAny_bind (wpAny_pure (wpAny_bind (wpAny_bind ?_)))
 first
 |refine wpAny_bind (wpAny_typeNameOfWhole_valiter ty (wpAny_pure (wpAny_bind (wpAny_fieldsOf hq hf ?_))))
 |refine wpAny_bind (wpAny_typeNameOf_valiter ty (wpAny_pure (wpAny_bind (wpAny_fieldsOf hq hf ?_))))
 simp only [no,Bool.false_eq_true,if_false];show wpAny _ _ (if (Value.ref d == Value.none)=true then _ else _) _ _ s;rw [if_neg (λz=>by cases (show false=true from z))];refine wpAny_bind (wpAny_pure (wpAny_bind (wpAny_dictEntries ho ht ?_)));rw [if_neg (by simp)];refine wpAny_bind (wpAny_pure (wpAny_bind (wpAny_dictEpoch ho ht ?_)));rw [if_neg (by simp)];refine wpAny_pure ?_;simp only [show ¬((es.size:Int)<0) by omega,if_false,Int.toNat_natCast,e1];refine wpAny_bind ?_
 first
 |refine wpAny_bind (wpAny_typeNameOfWhole_valiter ty (wpAny_pure ?_))
 |refine wpAny_bind (wpAny_typeNameOf_valiter ty (wpAny_pure ?_))
 show wpAny _ _ (setField (.ref it) 0 .none >>= _) _ _ s;refine wpAny_bind (wpAny_setField hq hf (by simp) (show wpAny _ _ (newExc (.type "StopIteration") [] >>= _) _ _ _ from wpAny_bind ?_));simp only [newExc,newTuple];refine wpAny_bind (wpAny_newObj_type (wpAny_bind (m:=firstArgMember _ _) (wpAny_of_eq (a:=Value.none) (by first | rfl | (simp only [firstArgMember];rfl)) (wpAny_newObj_type ?_ (by size_fits)))) (by size_fits));simp only [raiseNew];refine wpAny_bind (wpAny_handled ?_);rw [show A.in1.handled=none from hh];refine wpAny_bind (wpAny_pure (wpAny_throw (wpAny_bind ?_)));refine wpAny_isInstance (T:="StopIteration") (b:=true) ⟨_,Heap.get?_push_size _ rfl,rfl⟩ isSubtype_stop (wpAny_pure ?_);exact go _ (((Heap.SameBut.update ..).extBut.push _).push _)
theorem ZM (hh:A.handled=none)(ne:d≠it):Walks prog w A it [it,d] [it] es.size (λi v=>∃e,es[i]? = some e/\v=e.val) (λi h=>h.IsValIter it d i es.size ep/\rA h d es ep) where
 sub:=λb hb=>by simp at hb;simp [hb]
 frame:=λ_ _ _ st hk=>⟨let ⟨o,e,r⟩:=st.1;⟨o,hk it (by simp) o e,r⟩,st.2.up λo e=>hk d (by simp) o e⟩
 item:=λi s Q E hi st go=>Z3 st.1 st.2 hi λh' a b=>go _ h' s.toks ⟨_,Array.getElem?_eq_getElem hi,rfl⟩ ⟨a,st.2.up λo e=>(b.2 d ne).trans e⟩ λc o hc e=>(b.2 c λz=>hc (by simp [z])).trans e
 done:=λs Q E st go=>Nq hh st.1 st.2 λh' a=>go h' s.toks λc o hc e=>a c o (λz=>hc (by simp [z])) e
 self:=λ_ _ _ _ st k=>wpAny_pyIter_valiter st.1 k
end
section
variable {X:Cx}
def Dv (p a:Addr)(h:Heap):Prop:=h.IsValuesView p a
theorem Qs {pins:Zl}{σ:L2.St}{H:Hp}{s:Shared}{a:Addr}{T:Addr->List V->Prop}{kvs:List (List Kt×V)}(I:Inv X pins σ H s)(e:H a=some (.dT T kvs)):
  kvs.length<=sizeLine/\(a == sysModules)=false/\∃es ep,rA s.heap a es ep/\es.size=kvs.length/\Vals (kvs.map (·.2)) (es.toList.map (·.val)):=by
 obtain ⟨hz,hd,xs,rel,o,es,ep,ho,hx,ht,he,nd⟩:=I.hok a _ e;refine ⟨hz,hd,es,ep,⟨o,ho,hx,ht⟩,?_,?_⟩
 ·rw [size_of_entries he,Paired.length rel]
 ·rw [he,List.map_map];clear he hz hd nd e;induction rel with
  |nil=>exact .nil
  |cons h _ ih=>exact .cons h.2.2 ih
def aam (X:Cx):V->List V->Hp->VK->Prop:=λx vs H Q=>∃a kvs,x=.ref a/\vs=[]/\H a=some (.dT (KTp X.K) kvs)/\∀p,H p=none->Q (.ref p) (upd H p (.ext (Dv p a)))
theorem T6:MtR X "dict.values" (aam X):=by
 intro pins s σ H x vs v us Q I rx rv h;obtain ⟨a,kvs,rfl,rfl,e,q⟩:=h;cases rx;have hus:=rv.zero;subst hus;obtain ⟨hz,hd,es,ep,x,_⟩:=Qs I e;refine Ot hd x ?_;refine ⟨.ref _,_,I.laid (t':=s.toks) (λb o e=>Heap.get?_push_of_some _ e) (Nat.le_refl _) (show cD X.prog X.w _ _ _ (.ext (Dv s.heap.objs.size a)) from ⟨⟨_,Heap.get?_push_size _ rfl,rfl,rfl⟩,⟨_,Heap.get?_push_size _ rfl⟩,λh1 h2 ⟨o,e,r⟩ k=>⟨o,k o e,r⟩⟩),rfl,q _ (I.hok.fresh (Nat.le_refl _))⟩
theorem aa0 {r d:Addr}{es:Array DictEntry}{ep:Nat}:W.KdlSrc X.prog X.w "dict_values" r d es.size (λi v=>∃e,es[i]? = some e/\v=e.val) (λh=>h.IsValuesView r d/\rA h d es ep) where
 type:=λ_ m=>m.1.typeIs
 there:=λ_ m=>⟨let ⟨_,e,_⟩:=m.1;Heap.lt_size e,let ⟨_,e,_⟩:=m.2;Heap.lt_size e⟩
 keep:=λ_ _ m k=>⟨let ⟨o,e,x⟩:=m.1;⟨o,k r (.inl rfl) o e,x⟩,m.2.up λo e=>k d (.inr rfl) o e⟩
 notList:=by decide
 notTuple:=by decide
 hint:=λ_ _ _ _ m q=>W.kdl_hint_values m.1.typeIs q
 iter:=λ_ _ hh m=>⟨_,_,(λ_ _ q=>aaE m.1 m.2 q),ZM hh (let ⟨_,e,_⟩:=m.2;Nat.ne_of_lt (Heap.lt_size e)),⟨⟨_,Heap.get?_push_size _ rfl,rfl,rfl⟩,m.2.up λo e=>Heap.get?_push_of_some _ e⟩⟩
def rLV (X:Cx):List V->Hp->VK->Prop:=λxs H Q=>∃p a kvs,xs=[.ref p]/\H p=some (.ext (Dv p a))/\H a=some (.dT (KTp X.K) kvs)/\∀l,H l=none->Q (.ref l) (upd H l (.lst (kvs.map (·.2))))
theorem HS (hc:X.calm=true):gG X (.type "list") (rLV X):=by
 intro pins s σ H xs us Q I r h;obtain ⟨p,a,kvs,rfl,hp,e,q⟩:=h;obtain ⟨u,rfl,rx⟩:=vals1 r;cases rx;obtain ⟨hz,hd,es,ep,x,sz,rel⟩:=Qs I e;obtain ⟨vw,_⟩:=I.hok p _ hp;refine W.kdl_call (aa0 (ep:=ep)) (I.ok.hd hc) ⟨vw,x⟩ (by omega) λh' tk acc c kp oS it=>?_;have ea:acc.toList=es.toList.map (·.val):=by
  obtain ⟨z,h⟩:=it;refine List.ext_getElem (by simp [z]) λi h1 h2=>?_;obtain ⟨y,ey,ev⟩:=h i acc[i] (by simp at h1;simp [h1]);obtain ⟨lt,ey⟩:=Array.getElem?_eq_some_iff.mp ey;simp only [Array.getElem_toList,List.getElem_map];rw [ev,ey]
 refine ⟨.ref _,_,I.laid (t':=tk) kp (Nat.le_refl _) (show cD X.prog X.w _ h' _ (.lst (kvs.map (·.2))) from ⟨by rw [List.length_map];exact hz,es.toList.map (·.val),c,rel,?_⟩),rfl,q _ (I.hok.fresh (Nat.le_refl _))⟩;rw [← ea];simpa using oS
end
def Ik (fo:Zae):Zae:=λm=>(fo m).bind λd=>match d with
 | .dcu _ ds=>.ok (.lst ds)
 |_=>.stuck
section
variable {X:Cx}{E:XK}{o:Expr}{fo:Zae}{p pos apos cpos:Pos}
theorem Rr (hc:X.calm=true)(hg:Gl X "list")(hm:X.mg "list" = none)(ho:FB X E o fo)(hbase:attributeBase o "values" X.env (eval o X.env)=eval o X.env:=by rfl)(hline:(apos.endLine == cpos.line)=true:=by rfl)
  (hs:starEach [.Call (.Attribute o "values" apos) [] [] cpos] X.env=(false,eval (.Call (.Attribute o "values" apos) [] [] cpos) X.env)::starEach [] X.env:=by rfl):
  FN X E (.Call (.Name "list" p) [.Call (.Attribute o "values" apos) [] [] cpos] [] pos) (Ik fo):=
 bJ (vK (HS hc) hg hm xH (pQ (Im PySem.F.plainAttrs_dict PySem.F.slot_dict_values PySem.F.type_dict_values T6 ho hbase hline) wC hs) (by decide) (by decide) hs rfl) λσ H Q h=>by
  obtain ⟨O0,M0,H0,ow,m,R,q⟩:=h;refine ⟨O0,M0,H0,ow,m,R,q.bind.imp (aL.refl _) λd q v H1 g1 hv=>?_⟩;cases d with
  |dcu ks ds=>
   obtain ⟨a,kvs,rfl,e,e1,hd⟩:∃a kvs,v=.ref a/\H1 a=some (.dT (KTp X.K) kvs)/\kvs.map (·.1)=ks/\DVs (gx X) (Ow O0 ow) H1 (kvs.map (·.2)) ds:=by
    rcases hv with hv | ⟨a,rfl,_,hv⟩
    ·cases hv with
     |dcu n e a b hs=>subst b;exact ⟨_,_,rfl,e,a,hs⟩
    ·obtain ⟨kvs,vs,e,a1,b1,hs⟩:=hv;subst b1;exact ⟨a,kvs,rfl,e,a1,hs⟩
   refine ⟨.inr (.inr (.inl ⟨rfl,.inr ⟨_,kvs,.inl e⟩⟩)),a,kvs,rfl,rfl,e,λb hb=>?_⟩;have ne:a≠b:=λz=>by rw [z,hb] at e;cases e
   refine ⟨b,a,kvs,rfl,aV,by rw [bc ne];exact e,λl hl=>?_⟩;have nb:l≠b:=λz=>by rw [z,aV] at hl;cases hl
   have hl1:H1 l=none:=by rw [bc nb] at hl;exact hl
   have gg:aL H1 (upd (upd H1 b (.ext (Dv b a))) l (.lst (kvs.map (·.2)))):=(bD hb _).trans (bD hl _);exact q l _ (g1.trans gg) (g1.free hl1) ⟨_,aV,(hd.cI λc z=>z.elim .inl λe=>.inr (by rw [e];exact hl1)).mono gg⟩
  |_=>exact q.elim
end
def Ze (K:W.Frag)(tk tv:TE):TE:=λσ H Q=>∀p,H p=none->tk σ (upd H p (.dT (KTp K) [])) λx H1=>tv σ H1 λy H2=>
 H2 p=some (.dT (KTp K) [])/\∃ks b,x=.ref b/\TrT (KTp K) H2 b ks/\Q (.ref p) (upd H2 p (.dT (KTp K) [(ks,y)]))
section
variable {X:Cx}{k v:Expr}{pos:Pos}{tk tv:TE}
theorem Rh (hu:X.A.units+16<cLine)(hk:PE X k tk)(hv:PE X v tv):PE X (.Dict [some k] [v] pos) (Ze X.K tk tv):=by
 intro pins s σ H Q I q;have hn:=I.hok.fresh (Nat.le_refl s.heap.objs.size);have I1:=I.laid (a:=s.heap.objs.size) (o:=.dT (KTp X.K) []) (h':=s.heap.push { cls:=.type "dict",data:=.dict #[] }) (t':=s.toks) (λ_ _ q=>Heap.get?_push_of_some _ q) (Nat.le_refl _) (Gq s.heap I.big);have pl:(pairTrees [some k] [v] X.env pos).length=1:=pairTrees_length [some k] [v] X.env pos rfl rfl;rw [arm_eval_Dict,zip_pairTrees [some k] [v] X.env pos rfl rfl,dictDisplay_pairs _ (λz=>by rw [z] at pl;cases pl) (by rw [pl];decide)];refine wpAny_bind (wpAny_standAt (wpAny_bind ?_));unfold subDict;refine wpAny_bind (wpAny_alloc (wpAny_bind (wpAny_holding ?_)));rw [if_pos (by rw [pl];decide)];refine wpAny_bind (pairTrees_cons_walk (thn (hk pins _ σ _ _ I1 (q _ hn)) λu s1 ⟨x,H1,J1,rx,q1⟩=>thn (hv pins s1 σ H1 _ J1 q1) λr s2 ⟨y,H2,I2,ry,e,ks,b,ex,eb,q2⟩=>pairTrees_nil_walk (wpAny_holding ?_)));subst ex;cases (show u=Value.ref b from rx);obtain ⟨z,hd,xs,rel,dd⟩:=O9 (wI I2) I2.hok e;cases rel;rw [List.forIn_cons];refine wpAny_bind (wpAny_bind ?_);show wpAny _ _ (dictSet s.heap.objs.size (.ref b) r >>= _) _ _ s2;refine (wpAny_bind (wpAny_dictSet_heap (hsz:=Nat.zero_le _) (show X.A.units+8<cLine by omega) (tY I2 eb) dd λh' dd' hs=>wpAny_pure ?_));dsimp only;rw [List.forIn_nil];refine wpAny_pure (wpAny_pure (wpAny_pure (wpAny_pure ?_)));obtain ⟨qo,es,ep,hq,h2,h3,h4,_,h5⟩:=dd';refine ⟨.ref s.heap.objs.size,upd H2 s.heap.objs.size (.dT (KTp X.K) [(ks,y)]),uP I2 (by rw [e];exact True.intro) hs ⟨qo,hq⟩ ⟨by show 1<=_;decide,hd,_,?_,qo,es,ep,hq,h2,h3,h4,h5⟩,rfl,q2⟩;refine KT.keeps (H:=H2) (Paired.cons ⟨rfl,eb,ry⟩ .nil) λc ys ec=>?_;rw [bc (yH ec e (λz=>nomatch z))];exact ec
end
def IW (fk fv:Zae):Zae:=λm=>(fk m).bind λk=>(fv m).bind λd=>(ofO (wj k)).bind λks=>.ok (.dcu [ks] [d])
section
variable {X:Cx}{E:XK}{k v:Expr}{pos:Pos}{fk fv:Zae}
theorem Ro {j:Nat}(hr:fM j X.A)(hk:FE X E k fk)(hv:FE X E v fv):FN X E (.Dict [some k] [v] pos) (IW fk fv):=
 bJ (Rh (lg hr) hk hv) λσ H Q ⟨O0,M0,H0,ow,m,R,q⟩ p hp=>by
  have g0:aL H (upd H p (.dT (KTp X.K) [])):=bD hp _;have R1:=R.more g0 hp (by rw [aV];exact .inr (.inr (.inl ⟨(KTp X.K,[]),rfl⟩)));refine ⟨Op O0 p,M0,H0,ow,m,R1,q.bind.imp g0 λkd q x H1 g1 hx=>⟨Op O0 p,M0,H0,ow,m,R1.mono g1,q.bind.imp (g0.trans g1) λd q y H2 g2 hy=>?_⟩⟩;obtain ⟨ks,h1,q⟩:=q.bind.ofO;obtain ⟨b,rfl,hb⟩:=uW (.inl (hx.mono g2)) h1;have e2:H2 p=some (.dT (KTp X.K) []):=g2 _ _ (g1 _ _ aV);have R2:=(R1.mono g1).mono g2;have kp:Kp (Ow (Op O0 p) ow) H2 (upd H2 p (.dT (KTp X.K) [(ks,y)])):=λc o e n=>by rw [bc (λz=>n (.inl (.inr z)))];exact e
  refine ⟨e2,ks,b,rfl,hb,q p _ (λc o e=>?_) hp ⟨_,_,aV,rfl,rfl,.cons ((hy.kp R2.mutk kp).cI λc z=>.inl ?_) .nil⟩⟩
  ·rw [bc (λz=>by rw [z,hp] at e;cases e)];exact g2 _ _ (g1 _ _ (g0 _ _ e))
  ·rcases z with (z | z) | z
   ·exact .inl (.inl z)
   ·exact .inr z
   ·exact .inl (.inr z)
end
def Cu:List ((Zae)×(Zae))->Me->Res (List (D×D))
 |[],_=>.ok []
 |f::r,m=>(f.1 m).bind λk=>(f.2 m).bind λd=>(Cu r m).bind λl=>.ok ((k,d)::l)
inductive DPs (G:Gx)(O:Zaa)(H:Hp):List (V×V)->List (D×D)->Prop where
 |nil:DPs G O H [] []
 |cons {x y:V} {k d:D} {ps:List (V×V)} {l:List (D×D)}:DV G O H x k->DV G O H y d->DPs G O H ps l->DPs G O H ((x,y)::ps) ((k,d)::l)
theorem DPs.mono {G:Gx}{O:Zaa}{H H':Hp}(g:aL H H'):∀{ps:List (V×V)} {l:List (D×D)},DPs G O H ps l->DPs G O H' ps l
 |_,_,.nil=>.nil
 |_,_,.cons a b r=>.cons (a.mono g) (b.mono g) (r.mono g)
def Ft:List Key->List D->List (D×D)->Option (List Key×List D)
 |ks,ds,[]=>some (ks,ds)
 |ks,ds,p::r=>(uw p.1).bind λk=>Ft (putD ks ds k p.2).1 (putD ks ds k p.2).2 r
def Ax (fs:List ((Zae)×(Zae))):Zae:=λm=>(Cu fs m).bind λl=>if l.length<=15 then (ofO (Ft [] [] l)).bind λr=>.ok (.dct r.1 r.2) else .stuck
abbrev Wc (X:Cx)(E:XK)(fs:List ((Zae)×(Zae))):List (TE×TE):=fs.map λf=>(tE (gx X) E f.1,tE (gx X) E f.2)
section
variable {X:Cx}{E:XK}
theorem Gf {O0 M0:Zaa}{H0:Hp}{ow:Os}{σ:L2.St}{m:Me}{Hb:Hp}:∀(fs:List ((Zae)×(Zae))) {H:Hp} {K:List (D×D)->Prop} {Q:List (V×V)->Hp->Prop},aL Hb H->Rel (gx X) O0 M0 H0 ow σ H m->Pu (gx X) E (Cu fs m) Hb K->
  (∀l ps H',K l->aL H H'->DPs (gx X) (Ow O0 ow) H' ps l->Q ps H')->Ep (Wc X E fs) σ H Q
 |[],H,K,Q,_,R,q,f=>f [] [] H q (aL.refl _) .nil
 |g::r,H,K,Q,gb,R,q,f=>by
  refine ⟨O0,M0,H0,ow,m,R,q.bind.imp gb λkd q x H1 g1 hx=>⟨O0,M0,H0,ow,m,R.mono g1,q.bind.imp (gb.trans g1) λd q y H2 g2 hy=>?_⟩⟩;refine Gf r ((gb.trans g1).trans g2) ((R.mono g1).mono g2) q.bind λl ps H3 k g3 hl=>?_;exact f _ _ _ k ((g1.trans g2).trans g3) (.cons ((hx.mono g2).mono g3) (hy.mono g3) hl)
theorem Ji {G:Gx}{O:Zaa}{H:Hp}:∀{l:List (D×D)} {ps:List (V×V)} {ks rk:List Key} {ds rd:List D} {acc:List (Key×V)},DPs G O H ps l->Ft ks ds l=some (rk,rd)->acc.map (·.1)=ks->DVs G O H (acc.map (·.2)) ds->
  ∃kvs:List (Key×V),ps=kvs.map (λkv=>(kV kv.1,kv.2))/\(oM acc kvs).map (·.1)=rk/\DVs G O H ((oM acc kvs).map (·.2)) rd
 |_,_,ks,rk,ds,rd,acc,.nil,e,e1,e2=>by cases e;exact ⟨[],rfl,e1,e2⟩
 |_,_,ks,rk,ds,rd,acc,.cons (x:=x) (y:=y) a b r,e,e1,e2=>by
  obtain ⟨k,hk,e⟩:=Option.bind_eq_some_iff.mp e;have ex:=yZ (.inl a) hk;obtain ⟨p1,p2⟩:=Kl (k:=k) b e2;rw [e1] at p1 p2;obtain ⟨kvs,q1,q2,q3⟩:=Ji (acc:=putK acc k y) r e p1 p2;exact ⟨(k,y)::kvs,by rw [List.map_cons,← q1,ex],q2,q3⟩
theorem DPs.len {G:Gx}{O:Zaa}{H:Hp}:∀{ps:List (V×V)} {l:List (D×D)},DPs G O H ps l->ps.length=l.length
 |_,_,.nil=>rfl
 |_,_,.cons _ _ r=>by rw [List.length_cons,List.length_cons,r.len]
theorem V0 {keys:List (Option Expr)}{values:List Expr}{pos:Pos}{fs:List ((Zae)×(Zae))}(h:PPs X pos keys values (Wc X E fs))(hall:keys.all (·.isSome)=true)(hl:keys.length=values.length)(h0:keys≠[])(h15:keys.length<=15):
  FN X E (.Dict keys values pos) (Ax fs):=
 bJ (Up h hall hl h0 h15) λσ H Q ⟨O0,M0,H0,ow,m,R,q⟩ p hp=>by
  have g0:aL H (upd H p (.dK [])):=bD hp _;have R1:=R.more g0 hp (by rw [aV];exact .inr (.inl ⟨[],rfl⟩));refine Gf fs g0 R1 q.bind λl ps H2 q g2 hl2=>?_;obtain ⟨hz,q⟩:=xU q;obtain ⟨r,h1,q⟩:=q.bind.ofO;have R2:=R1.mono g2;have e2:H2 p=some (.dK []):=g2 _ _ aV;obtain ⟨kvs,q1,q2,q3⟩:=Ji (acc:=[]) hl2 h1 rfl .nil;have len:=hl2.len;rw [q1,List.length_map] at len;have kp:Kp (Ow (Op O0 p) ow) H2 (upd H2 p (.dK (oM [] kvs))):=λc o e n=>by rw [bc (λz=>n (.inl (.inr z)))];exact e
  refine ⟨e2,kvs,q1,by omega,q p _ (λc o e=>?_) hp ⟨_,_,aV,q2,rfl,(q3.kp R2.mutk kp).cI λc z=>.inl ?_⟩⟩
  ·rw [bc (λz=>by rw [z,hp] at e;cases e)];exact g2 _ _ (g0 _ _ e)
  ·rcases z with (z | z) | z
   ·exact .inl (.inl z)
   ·exact .inr z
   ·exact .inl (.inr z)
end
theorem Mf:entryFor table "dict.update.loop" = some Builtin.«dict.update.loop»:=entryFor_of_tree (by kernel_rfl)
theorem BZ:plainId "dict.update.loop" = true:=by decide +kernel
theorem CN:typeLookup (.type "list") "keys" = pure none:=by rw [typeLookup_type,builtinLookup_eq_fast];kernel_rfl
section
variable {pr:Program}{wo:World}{A:Around}{E:Zs}{s:Shared}
theorem NP {a:Addr}{its:Array Value}{n:Nat}{sl:Array (Option Value)}{Q:Option Value->Shared->Prop}(hx:s.heap.get? a=some { cls:=.type "list",dict:=none,data:=.seq its n,slots:=sl })(hA:A.handled=none)
  (k:∀h' tk,(∀b o,s.heap.get? b=some o->h'.get? b=some o)->Q none { s with heap:=h',toks:=tk }):wpAny (model pr wo) A (getAttr? (.ref a) "keys") Q E s:=by
 obtain ⟨hp,g,d,tk,os⟩:=s;have hT:∀t,(⟨hp,g,d,t,os⟩:Shared).TypeIs (.ref a) "list":=λ_=>⟨_,hx,rfl⟩;have f1:=sub_AttributeError;have f3:=PySem.F.slot_list_getattribute.lookup;have f4:=PySem.F.slot_list_getattribute.bind (.ref a);have f5:=am_list_getattr_none;unfold getAttr? getAttrBy? getAttrBy
 repeat (any_goals (first | (assumption) | exact hT _ | ((with_reducible show wpAny _ _ (call (Value.builtin "list.__getattribute__") _ _) _ _ _);refine call_meets PySem.F.slot_list_getattribute (hT _) am_entry_list_getattribute (PySem.F.args_list_getattribute_2 _ _) (meets_getattribute_miss_list a its n sl "keys" _ CN (by decide +kernel) (by decide +kernel)) ⟨hx,hA,λh' t' e ne=>?_⟩) | (wp_step)))
 obtain ⟨t2,u2,he⟩:=ne.there;show wpAny _ _ (getattributeRaised _ _ _ _ _ _ _) _ _ _;unfold getattributeRaised
 repeat (any_goals (first | (assumption) | (wp_step)))
 exact k _ _ ne.keeps
end
section
variable {pr:Program}{wo:World}{κ:Type}[DecidableEq κ]{kn:KeyKind pr wo κ}{A:Around}{R:Result->Shared->Prop}{I:Addr}{fp wr:List Addr}{G:Array GenState->Array GenState->Prop}{n:Nat}{P:Nat->Value->Prop}{St:Nat->Shared->Prop}
theorem Tg (W:WalksS pr wo A.in1 I fp wr G n P St)(S:Addr)(nf:S∉fp)(kvs:List (κ×Value))(h0:Heap)(hn:n<=sizeLine)
  (hP:∀i v,P i v->∃b k u kv,v=.ref b/\kvs[i]? = some (k,u)/\b∉S::wr/\IsTup h0 b #[kv,u]/\kn.is k kv=true):
  ∀(j i:Nat) (s:Shared) (t0:Tok),n-i=j->i<=n->St i s->(∀b o,b∉S::wr->h0.get? b=some o->s.heap.get? b=some o)->s.heap.DictOf kn S (merged [] (kvs.take i))->
   (∀t,Moved (S::wr) G s t->t.heap.DictOf kn S (merged [] (kvs.take n))->R (.ok (.ret .none)) t)->
   codeAny (model pr wo) A (.builtin "dict.update.loop" ⟨[.ref S,.ref I,.int (i:Int) t0,.none],[]⟩) R s:=by
 have nw:S∉wr:=λz=>nf (W.sub _ z);have up:∀b∈wr,b∈S::wr:=λb z=>.tail _ z;have at_:∀{h h':Heap} {l:List (κ×Value)},h.DictOf kn S l->(∀o,h.get? S=some o->h'.get? S=some o)->h'.DictOf kn S l:=λx k=>by
  obtain ⟨o,es,ep,e,r⟩:=x;exact ⟨o,es,ep,k _ e,r⟩
 intro j;induction j with
 |zero=>
  intro i s t0 ej hi st kp x fin;obtain rfl:i=n:=by omega
  refine codeAny_builtin Mf ?_;rw [Around.under_plainId BZ _];show wpAny (model pr wo) A.in1 (pyNext (.ref I) >>= _) _ _ _;refine wpAny_bind (W.done s _ _ st λt mv=>?_);show wpAny (model pr wo) A.in1 (Builtin.Dict.addKeywords S [] >>= _) _ _ t;exact wpAny_bind (wpAny_pure (wpAny_pure (fin t (mv.mono up) (at_ x λo e=>mv.heap S o nw e))))
 |succ j ih=>
  intro i s t0 ej hi st kp x fin;have lt:i<n:=by omega
  refine codeAny_builtin Mf ?_;rw [Around.under_plainId BZ _];show wpAny (model pr wo) A.in1 (pyNext (.ref I) >>= _) _ _ _;refine wpAny_bind (W.item i s _ _ lt st λv t hv st' mv=>?_);obtain ⟨b,k,u,kv,rfl,ek,nb,tu,hk⟩:=hP i v hv;have x':=at_ (h':=t.heap) x λo e=>mv.heap S o nw e;have kp':∀c o,c∉S::wr->h0.get? c=some o->t.heap.get? c=some o:=λc o hc e=>mv.heap c o (λz=>hc (up c z)) (kp c o hc e);obtain ⟨o,ho,hc,m,hd⟩:=tu;have hot:=kp' b o nb ho;show wpAny (model pr wo) A.in1 (holding [Value.ref b] _ >>= _) _ _ t;refine wpAny_bind (wpAny_holding (wpAny_bind (wpAny_tryCatch ?_)));unfold Builtin.Dict.pairItems;refine wpAny_bind (wpAny_typeOf (T:="tuple") ⟨o,hot,hc⟩ ?_);rw [if_pos (by decide)];obtain ⟨c0,d0,dt0,sl0⟩:=o;simp only at hc hd;subst hc hd;refine wpAny_bind ?_;unfold seqItems?;refine wpAny_bind (wpAny_load hot ?_);refine wpAny_pure (wpAny_pure ?_);show wpAny (model pr wo) A.in1 (holding [kv,u] (dictSet S kv u)) _ _ t;have len:(merged [] (kvs.take i)).length<=sizeLine:=by
   have h1:∀(l acc:List (κ×Value)),(merged acc l).length<=acc.length+l.length:=by
    intro l;induction l with
    |nil=>intro acc;exact Nat.le_refl _
    |cons p l ih2=>
     intro acc;have h2:=ih2 (stored acc p.1 p.2);have h3:=stored_length_le acc p.1 p.2;show (merged (stored acc p.1 p.2) l).length<=_;rw [List.length_cons];omega
   have h2:=h1 (kvs.take i) [];rw [List.length_take,List.length_nil] at h2;omega
  refine wpAny_holding (wpAny_dictSet_pairs (hsz:=len) hk x' λh' x2 sb=>?_);rw [← merged_take_succ [] kvs i (k,u) ek] at x2;refine wpAny_pure ⟨plainId_quiet BZ _,ih (i+1) _ 0 (by omega) lt (W.frame _ t _ _ st' (Nat.le_succ _) λc hc o e=>?_) (λc o hc e=>?_) x2 λt2 mv2 x4=>?_⟩
  ·rw [sb.2 c λz=>nf (z ▸ hc)];exact e
  ·rw [sb.2 c λz=>hc (z ▸ .head _)];exact kp' c o hc e
  ·refine fin t2 (Moved.trans W.gtrans ((mv.mono up).then_heap (Nat.le_succ _) λc o hc e=>?_) mv2) x4;rw [sb.2 c λz=>hc (z ▸ .head _)];exact e
end
section
variable {pr:Program}{wo:World}{κ:Type}[DecidableEq κ]{kn:KeyKind pr wo κ}{A:Around}{E:Zs}{s:Shared}
theorem Iw {l:Addr}{its:Array Value}{kvs:List (κ×Value)}{Q:Zs}(hh:A.handled=none)(li:∃n sl,s.heap.get? l=some { cls:=.type "list",dict:=none,data:=.seq its n,slots:=sl })(hz:its.size<=sizeLine)(hl:kvs.length=its.size)
  (hP:∀(i:Nat) (v:Value),its[i]? = some v->∃b k u kv,v=Value.ref b/\kvs[i]? = some (k,u)/\IsTup s.heap b #[kv,u]/\kn.is k kv=true)
  (fin:∀(h':Heap) (tk:Nat),h'.DictOf kn s.heap.objs.size (merged [] kvs)->(∀b o,s.heap.get? b=some o->h'.get? b=some o)->Q (.ref s.heap.objs.size) { s with heap:=h',toks:=tk }):
  wpAny (model pr wo) A (call (.type "dict") [.ref l]) Q E s:=by
 obtain ⟨n,sl,ol⟩:=li;have ltl:l<s.heap.objs.size:=Heap.lt_size ol;refine callType_codes (Q₁:=λo t=>o=.ref s.heap.objs.size/\t={ s with heap:=s.heap.push { cls:=.type "dict",data:=.dict #[] } }) PySem.F.kt_called_dict (PySem.F.kt_typeCall_dict_1 _) PySem.F.entry_dict_init (kt_code_dict_new _ ⟨rfl,rfl⟩) λo t ht=>?_;obtain ⟨rfl,rfl⟩:=ht;have x0:(s.heap.push { cls:=.type "dict",data:=.dict #[] }).DictOf kn s.heap.objs.size []:=Heap.DictOf.new s.heap;have ol':=Heap.get?_push_of_some { cls:=.type "dict",data:=.dict #[] } ol;refine ⟨x0.typeIs,PySem.F.args_dict_init_2 _ _,?_⟩;unfold Builtin.«dict.__init__»;refine wpAny_bind ?_;unfold Builtin.Dict.selfAndRest;refine wpAny_bind (wpAny_notOrdered_dict x0.typeIs ?_);show wpAny _ _ (pure (s.heap.objs.size,[Value.ref l])) _ _ _;refine wpAny_pure ?_;show wpAny _ _ (Builtin.Dict.updateFrom "dict.__init__" s.heap.objs.size (.ref l) [] .none) _ _ _;unfold Builtin.Dict.updateFrom;refine wpAny_bind (wpAny_typeOf (T:="list") ⟨_,ol',rfl⟩ ?_);rw [if_pos (by decide)];refine wpAny_bind (NP ol' hh λh1 t1 k1=>?_);rw [if_pos (by decide)];refine wpAny_bind (wpAny_rule (wpAny_bind ?_));have ol1:=k1 _ _ ol';have li1:h1.IsList l its:=⟨_,ol1,rfl,n,rfl⟩;refine wpAny_pyIter_list (s:={ s with heap:=h1,toks:=t1 }) li1 ?_;have szS:s.heap.objs.size<(s.heap.push { cls:=.type "dict",data:=.dict #[] }).objs.size:=by rw [Heap.size_push];exact Nat.lt_succ_self _
 have lt1:s.heap.objs.size<h1.objs.size:=by
  obtain ⟨oS,_,_,e,_⟩:=x0;exact Heap.lt_size (k1 _ _ e)
 have ltl1:l<h1.objs.size:=Nat.lt_trans ltl lt1;refine wpAny_pure ⟨plainId_quiet BZ _,?_⟩;have W:=(Walks.list (prog:=pr) (w:=wo) (A:=A.in1.in1) (show A.in1.in1.handled=none from hh) h1.objs.size l (Nat.ne_of_lt ltl1) its).toS;refine Tg (A:=A.in1) (kn:=kn) W s.heap.objs.size ?_ kvs (h1.push _) hz (λi v hv=>?_) its.size 0 _ 0 rfl (Nat.zero_le _) ⟨⟨_,Heap.get?_push_size _ rfl,rfl,rfl⟩,li1.push _⟩ (λb o _ e=>e) ?_ λt mv x=>?_
 ·intro m;rcases List.mem_cons.mp m with z | z
  ·exact Nat.ne_of_lt lt1 z
  ·exact Nat.ne_of_gt ltl (List.mem_singleton.mp z)
 ·obtain ⟨b,k,u,kv,rfl,e1,⟨ob,hb,rest⟩,e2⟩:=hP i v hv;have ltb:=Heap.lt_size hb;refine ⟨b,k,u,kv,rfl,e1,λm=>?_,⟨ob,Heap.get?_push_of_some _ (k1 _ _ (Heap.get?_push_of_some _ hb)),rest⟩,e2⟩;rcases List.mem_cons.mp m with z | z
  ·exact Nat.ne_of_lt ltb z
  ·exact Nat.ne_of_lt (Nat.lt_trans ltb lt1) (List.mem_singleton.mp z)
 ·obtain ⟨oS,es,ep,e,r⟩:=x0;exact ⟨oS,es,ep,Heap.get?_push_of_some _ (k1 _ _ e),r⟩
 ·rw [List.take_of_length_le (by omega)] at x;refine ⟨rfl,?_⟩;rw [Moved.eq_with mv];refine fin _ _ x λb o e=>mv.heap b o (λm=>?_) (Heap.get?_push_of_some _ (k1 _ _ (Heap.get?_push_of_some _ e)));have ltb:=Heap.lt_size e;rcases List.mem_cons.mp m with z | z
  ·exact Nat.ne_of_lt ltb z
  ·exact Nat.ne_of_lt (Nat.lt_trans ltb lt1) (List.mem_singleton.mp z)
end
def O8:List D->Option (List (D×D))
 |[]=>some []
 | .tup [k,v]::r=>(O8 r).map ((k,v)::·)
 |_=>none
def tR:List D->Option D
 |[.lst ds]=>(O8 ds).bind λl=>(Ft [] [] l).map λr=>.dct r.1 r.2
 |_=>none
theorem GJ:∀{l:List (D×D)} {ks rk:List Key} {ds rd:List D},Ft ks ds l=some (rk,rd)->∀p∈l,∃k,uw p.1=some k
 |p::r,ks,rk,ds,rd,e,q,hq=>by
  obtain ⟨k,hk,e⟩:=Option.bind_eq_some_iff.mp e;rcases List.mem_cons.mp hq with z | z
  ·exact ⟨k,z ▸ hk⟩
  ·exact GJ e q z
section
variable {X:Cx}{pins:Zl}{σ:L2.St}{H:Hp}{s:Shared}
theorem Rz (I:Inv X pins σ H s){O:Zaa}:∀{ds:List D} {xs:List V} {its:List Value} {l:List (D×D)},DVs (gx X) O H xs ds->Vals xs its->O8 ds=some l->(∀p∈l,∃k,uw p.1=some k)->
  ∃(kv:List (Key×V)) (kw:List (Key×Value)),KV kv kw/\kw.length=its.length/\DPs (gx X) O H (kv.map λp=>(kV p.1,p.2)) l/\
   ∀(i:Nat) (v:Value),its[i]? = some v->∃b k u kl,v=Value.ref b/\kw[i]? = some (k,u)/\IsTup s.heap b #[kl,u]/\(fG X.prog X.w).is k kl=true
 |[],_,_,_,.nil,.nil,e,_=>by cases e;exact ⟨[],[],.nil,rfl,.nil,λi v z=>by cases z⟩
 |d::ds,_,_,l,.cons a r,.cons (b:=u0) ra rr,e,hk=>by
  match d,e with
  | .tup [k,v],e=>
   obtain ⟨l',e',rfl⟩:=Option.map_eq_some_iff.mp e;obtain ⟨kv,kw,q1,q2,q3,q4⟩:=Rz I r rr e' λp hp=>hk p (List.mem_cons_of_mem _ hp);obtain ⟨ky,hky⟩:=hk (k,v) List.mem_cons_self;cases a with
   |tup sq hs=>
    cases hs with
    |cons a1 r1=>
     cases r1 with
     |cons a2 r2=>
      cases r2;rename_i b x1 x2;have ex:=yZ (.inl a1) hky;subst ex;obtain ⟨ts,rt,pt,_⟩:=I.tuple sq.sq;cases rt with
      |cons t1 rt=>
       cases rt with
       |cons t2 rt=>
        cases rt;rename_i u1 u2;cases (show u0=Value.ref b from ra);refine ⟨(ky,x2)::kv,(ky,u2)::kw,.cons ⟨rfl,t2⟩ q1,by simp [q2],.cons a1 a2 q3,λi v hv=>?_⟩;cases i with
        |zero=>cases hv;exact ⟨b,ky,u2,u1,rfl,rfl,pt,yD t1⟩
        |succ i=>exact q4 i v hv
theorem Hz (hc:X.calm=true):gG X (.type "dict") (V6 (gx X) tR):=by
 intro pins s σ H xs us Q I r h;obtain ⟨O,ds,d,m,hx,hr,q⟩:=h
 match ds,hr with
 |[.lst ds],hr=>
  obtain ⟨l,e1,e2⟩:=Option.bind_eq_some_iff.mp hr;obtain ⟨⟨rk,rd⟩,e3,rfl⟩:=Option.map_eq_some_iff.mp e2;obtain ⟨v,rfl,hv⟩:=qt hx;obtain ⟨a,ys,rfl,hp,hd⟩:=gM hv;obtain ⟨u,rfl,rx⟩:=vals1 r;cases rx;obtain ⟨its,rv,⟨o,n,ho,hc1,hd1,hs1⟩,hz⟩:=I.list hp;obtain ⟨c0,d0,dt0,sl0⟩:=o;simp only at hc1 hd1 hs1;subst hc1 hd1 hs1;have ll:=rv.length;obtain ⟨kv,kw,q1,q2,q3,q4⟩:=Rz I hd rv e1 (GJ e3);obtain ⟨kv',z1,z2,z3⟩:=Ji (acc:=[]) q3 e3 rfl .nil;have ek:kv=kv':=(List.map_inj_right λp p' e=>by
   have e':=Prod.mk.inj e;exact Prod.ext (Yw e'.1) e'.2).mp z1
  subst ek;refine Iw (kn:=fG X.prog X.w) (I.ok.hd hc) ⟨n,sl0,ho⟩ (by simp only [List.size_toArray];omega) (by simpa using q2) (λi v hv=>q4 i v (by simpa using hv)) λh' tk x kp=>?_;have hf:H s.heap.objs.size=none:=I.hok.fresh (Nat.le_refl _);have hm:=q1.merge (kvs:=[]) (vs:=[]) .nil;have lz:(oM [] kv).length<=sizeLine:=by
   have h1:=ou kv [];have h2:=q1.length;rw [List.length_nil] at h1;omega
  have hns:(s.heap.objs.size == sysModules)=false:=by
   have:=I.big
   simpa using Nat.ne_of_gt this
  refine ⟨.ref _,_,I.laid (t':=tk) kp (Nat.le_refl _) (show cD X.prog X.w _ h' _ (.dK (oM [] kv)) from ⟨lz,hns,_,hm,x⟩),rfl,q _ _ (bD hf _) hf ⟨_,_,aV,z2,rfl,?_⟩⟩;exact (z3.cI λc z=>z.elim .inl λe=>.inr (by rw [e];exact hf)).mono (bD hf _)
end
def zE (ls:List Key)(us:List D):List Key->List D->Option Bool
 |[],[]=>some true
 |k::ks,d::ds=>match zy ls us k with
  |none=>some false
  |some y=>(pK d y).bind λe=>(zE ls us ks ds).map (e && ·)
 |_,_=>none
def HQ:D->D->Option Bool
 | .dct ks vs,.dct ls us=>if ks.length=ls.length then zE ls us ks vs else some false
 |_,_=>none
def BV (d e:D):Option Bool:=(HQ d e).map (!·)
section
variable {X:Cx}{pins:Zl}{σ:L2.St}{H:Hp}{s:Shared}
theorem Ka (I:Inv X pins σ H s){O:Zaa}{A:Around}(hu:A.in1.units+64<cLine){kvb:List (Key×V)}{kwb:List (Key×Value)}{us:List D}(rb:KV kvb kwb)(hb:DVs (gx X) O H (kvb.map (·.2)) us):
  ∀{kva:List (Key×V)} {kwa:List (Key×Value)} {vs:List D} {r:Bool},KV kva kwa->DVs (gx X) O H (kva.map (·.2)) vs->zE (kvb.map (·.1)) us (kva.map (·.1)) vs=some r->W.KeqHits A.in1 s kwb kwa r:=by
 intro kva kwa vs r ra;unfold KV at ra;induction ra generalizing vs r with
 |nil=>intro h e;cases h;cases e;exact .nil
 | @cons p q ps qs h t ih=>
  intro hd e;cases hd with
  |cons a rest=>
   obtain ⟨k,x⟩:=p;obtain ⟨k',w⟩:=q;obtain ⟨e1,e2⟩:=h;simp only at e1 e2;subst e1;have vb:=xQ (k:=k) hb;have rv:=rb.val k;rw [List.map_cons,zE] at e;rcases vb with ⟨v,d,b1,b2,b3⟩ | ⟨b1,b2⟩
   ·rw [b2] at e;obtain ⟨c,h1,h2⟩:=Option.bind_eq_some_iff.mp e;obtain ⟨r',h3,rfl⟩:=Option.map_eq_some_iff.mp h2;obtain ⟨pa,pb,t1,t2,z1,z2,rfl⟩:=vO h1;rw [b1] at rv;cases ev:valueAt kwb k with
    |none=>rw [ev] at rv;cases rv
    |some y=>
     rw [ev] at rv;obtain ⟨as,r1⟩:=(rN (.inl a) t1).reads I e2;obtain ⟨bs,r2⟩:=(rN (.inl b3) t2).reads I rv;exact .hit ev (W.keq_at r1 r2 z1 z2 hu) (ih rest h3)
   ·rw [b2] at e;cases e;rw [b1] at rv;cases ev:valueAt kwb k with
    |none=>exact .miss ev
    |some y=>rw [ev] at rv;cases rv
theorem JT {O:Zaa}{x y:V}{d e:D}{r:Bool}(hx:DW (gx X) O H x d)(hy:DW (gx X) O H y e)(hr:HQ d e=some r):
  ∃a b kva kvb vs us,x=.ref a/\y=.ref b/\Rd H a (.dK kva)/\Rd H b (.dK kvb)/\DVs (gx X) O H (kva.map (·.2)) vs/\DVs (gx X) O H (kvb.map (·.2)) us/\
   ((kva.length=kvb.length/\zE (kvb.map (·.1)) us (kva.map (·.1)) vs=some r)\/(¬kva.length=kvb.length/\r=false)):=by
 match d,e,hr with
 | .dct ks vs,.dct ls us,hr=>
  obtain ⟨a,kva,wa,rfl,ha,rfl,rfl,hda⟩:=wB hx;obtain ⟨b,kvb,wb,rfl,hb,rfl,rfl,hdb⟩:=wB hy;refine ⟨a,b,kva,kvb,vs,us,rfl,rfl,ha,hb,hda,hdb,?_⟩;unfold HQ at hr;simp only [List.length_map] at hr;by_cases z:kva.length=kvb.length
  ·rw [if_pos z] at hr;exact .inl ⟨z,hr⟩
  ·rw [if_neg z] at hr;cases hr;exact .inr ⟨z,rfl⟩
theorem Uu {j:Nat}(hr0:fM j X.A):OpR X (compareOp .Eq) (rGB (gx X) HQ):=by
 intro pins s σ H x y v u Q I rx ry h;obtain ⟨O,d,e,r,m,hx,hy,hr,q⟩:=h;obtain ⟨a,b,kva,kvb,vs,us,rfl,rfl,ha,hb,hda,hdb,hz⟩:=JT hx hy hr;cases (show v=Value.ref a from rx);cases (show u=Value.ref b from ry);obtain ⟨za,na,kwa,ra,da⟩:=qN I.hok ha;obtain ⟨zb,nb,kwb,rb,db⟩:=qN I.hok hb;have hu:X.A.in1.units+64<cLine:=by have:=hr0.un;show X.A.units+1+64<cLine;omega
 have la:=ra.length;have lb:=rb.length;refine W.keq_eq (r:=r) na nb da db hr0.Rk (λz=>?_) ?_
 ·rcases hz with ⟨_,hh⟩ | ⟨n,_⟩
  ·exact Ka I hu rb hdb ra hda hh
  ·exact absurd (by omega) n
 ·refine bW I q ?_;rcases hz with ⟨z,_⟩ | ⟨n,rfl⟩
  ·rw [show (kwa.length == kwb.length)=true by simpa using (by omega:kwa.length=kwb.length)];rfl
  ·simp
theorem DG {j:Nat}(hr0:fM j X.A):OpR X (compareOp .NotEq) (rGB (gx X) BV):=by
 intro pins s σ H x y v u Q I rx ry h;obtain ⟨O,d,e,r',m,hx,hy,hr',q⟩:=h;obtain ⟨r,hr,rfl⟩:=Option.map_eq_some_iff.mp hr';obtain ⟨a,b,kva,kvb,vs,us,rfl,rfl,ha,hb,hda,hdb,hz⟩:=JT hx hy hr;cases (show v=Value.ref a from rx);cases (show u=Value.ref b from ry);obtain ⟨za,na,kwa,ra,da⟩:=qN I.hok ha;obtain ⟨zb,nb,kwb,rb,db⟩:=qN I.hok hb;have hu:X.A.in1.units+64<cLine:=by have:=hr0.un;show X.A.units+1+64<cLine;omega
 have la:=ra.length;have lb:=rb.length;refine W.keq_ne (r:=r) na nb da db hr0.Rk (λz=>?_) ?_
 ·rcases hz with ⟨_,hh⟩ | ⟨n,_⟩
  ·exact Ka I hu rb hdb ra hda hh
  ·exact absurd (by omega) n
 ·refine bW I q ?_;rcases hz with ⟨z,_⟩ | ⟨n,rfl⟩
  ·rw [show (kwa.length == kwb.length)=true by simpa using (by omega:kwa.length=kwb.length)];rfl
  ·simp
end
section
variable {prog:Program}{w:World}{A:Around}{E:Zs}{s:Shared}{d it v:Addr}{es:Array DictEntry}{ep i:Nat}
theorem NK {Q:Zs}(nd:(d == sysModules)=false)(x:rA s.heap d es ep)
  (k:Q (.ref s.heap.objs.size) { s with heap:=s.heap.push { cls:=.type "dict_items",data:=.fields #[.ref d] } }):wpAny (model prog w) A (call (.builtin "dict.items") [.ref d]) Q E s:=by
 refine wpAny_call_entry PySem.F.slot_dict_items x.ty PySem.F.entry_dict_items ?_ (PySem.F.args_dict_items_1 _);unfold Builtin.«dict.items»;refine wpAny_bind ?_;unfold Builtin.Dict.noArgs;refine wpAny_bind (wpAny_notOrdered_dict x.ty (show wpAny _ _ (pure d) _ _ s from wpAny_pure ?_));show wpAny _ _ (Builtin.Dict.showsAll d >>= _) _ _ s;unfold Builtin.Dict.showsAll;rw [if_neg (λz=>by rw [nd] at z;cases z)];exact wpAny_bind (wpAny_pure (wpAny_bind (wpAny_newObj_type (wpAny_pure ⟨_,rfl,k⟩))))
theorem Zw {Q:Zs}(hv:s.heap.IsItemsView v d)(x:rA s.heap d es ep)
  (hQ:Q (.ref s.heap.objs.size) { s with heap:=s.heap.push { cls:=.type "dict_itemiterator",data:=.fields #[.none,.bool false,.ref d,.int 0 0,.int es.size 0,.int ep 0,.none,.none] } }):
  wpAny (model prog w) A (pyIter (.ref v)) Q E s:=by
 obtain ⟨ov,hov,hcv,hdv⟩:=id hv;obtain ⟨o,ho,hc,hdat⟩:=id x;refine wpAny_pyIter_slot hv.typeIs PySem.F.slot_dict_items_iter (wpAny_call_entry PySem.F.slot_dict_items_iter hv.typeIs PySem.F.entry_dict_items_iter ?_ (PySem.F.args_dict_items_iter_1 _));unfold Builtin.«dict_items.__iter__»;refine wpAny_bind (wpAny_pure ?_);refine wpAny_bind ?_;unfold Builtin.Dict_items.dictOf;refine wpAny_bind (wpAny_field hov hdv (x:=.ref d) rfl (wpAny_pure ?_));refine wpAny_bind ?_;unfold Builtin.Dict_items.newIterator;refine wpAny_bind (wpAny_dictEntries ho hdat ?_);refine wpAny_bind (wpAny_dictEpoch ho hdat ?_);have hown:Builtin.Dict_items.ownsTuple "dict_itemiterator" = true:=by decide
 simp only [hown,if_true];refine wpAny_newObj_type (wpAny_pure ⟨_,rfl, "dict_itemiterator",_,⟨_,Heap.get?_push_size _ rfl,rfl⟩,PySem.F.slot_dict_itemiterator_next.lookup,?_⟩)
  (by simp only [sizeOk,Builtin.Dict_items.ownedTupleFields,List.size_toArray,List.length_append,List.length_cons,List.length_nil,sizeLine_eq];omega)
 simpa [rawInt,Builtin.Dict_items.ownedTupleFields] using hQ
theorem aaF {ok ov:Value}{Q:Option Value->Shared->Prop}(hit:IsItemIter s.heap it d i es.size ep ok ov)(x:rA s.heap d es ep)(lt:i<es.size)
  (hQ:∀h',IsItemIterOut h' it d (i+1) es.size ep es[i].key es[i].val s.heap.objs.size->
   h'.get? s.heap.objs.size=some { cls:=.type "tuple",data:=.seq #[es[i].key,es[i].val] }->h'.objs.size=s.heap.objs.size+1->
   (∀b o,b≠it->s.heap.get? b=some o->h'.get? b=some o)->Q (some (.ref s.heap.objs.size)) { s with heap:=h' }):
  wpAny (model prog w) A (pyNext (.ref it)) Q E s:=by
 obtain ⟨hp,g,dr,tk,os⟩:=s;obtain ⟨od,hod,hcd,hdd⟩:=id x;have hT:Shared.TypeIs ⟨hp,g,dr,tk,os⟩ (.ref it) "dict_itemiterator":=⟨_,hit,rfl⟩;unfold pyNext;refine wpAny_bind (wpAny_attempt (wpAny_callSpecial?_slot (name:=Str.ofString "__next__") hT PySem.F.slot_dict_itemiterator_next
  (wpAny_call_entry PySem.F.slot_dict_itemiterator_next hT PySem.F.entry_dict_itemiterator_next ?_ (PySem.F.args_dict_itemiterator_next_1 _))))
 refine wpAny_bind (wpAny_pure ?_);refine wpAny_bind ?_;refine wpAny_bind ?_
 first | refine wpAny_bind (wpAny_typeNameOfWhole_itemiter hT (wpAny_pure ?_)) | refine wpAny_bind (wpAny_typeNameOf_itemiter hT (wpAny_pure ?_))
 refine wpAny_bind (wpAny_fieldsOf hit rfl ?_);have hown:Builtin.Dict_items.ownsTuple "dict_itemiterator" = true:=by decide
 simp only [hown,if_true];show wpAny _ _ (if (Value.ref d == Value.none)=true then _ else _) _ _ _;rw [if_neg (show ¬((Value.ref d == Value.none)=true) from Bool.false_ne_true)];refine wpAny_bind (wpAny_pure ?_);refine wpAny_bind (wpAny_dictEntries hod hdd ?_);rw [if_neg (by simp)];refine wpAny_bind (wpAny_pure ?_);refine wpAny_bind (wpAny_dictEpoch hod hdd ?_);rw [if_neg (by simp)];refine wpAny_pure ?_;simp only [show ¬((i:Int)<0) from by omega,if_false,Int.toNat_natCast,Array.getElem?_eq_getElem lt];refine wpAny_bind ?_
 first | refine wpAny_bind (wpAny_typeNameOfWhole_itemiter hT (wpAny_pure ?_)) | refine wpAny_bind (wpAny_typeNameOf_itemiter hT (wpAny_pure ?_))
 refine wpAny_bind (wpAny_isOneOf_itemiter hT ?_);show wpAny _ _ (setField (.ref it) 3 (rawInt ((i:Int)+1)) >>= _) _ _ ⟨hp,g,dr,tk,os⟩;refine wpAny_bind (wpAny_setField_rec hit (by simp) λh₁ he₁ hs₁=>?_)
 replace hs₁:Heap.SameBut it hp h₁:=hs₁
 replace he₁:IsItemIter h₁ it d (i+1) es.size ep ok ov:=by
  have e:((i+1:Nat):Int)=(i:Int)+1:=by omega
  unfold IsItemIter;rw [e];simpa [rawInt] using he₁
 have hT₁:Shared.TypeIs ⟨h₁,g,dr,tk,os⟩ (.ref it) "dict_itemiterator":=⟨_,he₁,rfl⟩;refine wpAny_bind (wpAny_holding ?_);refine wpAny_bind (wpAny_isOneOf_itemiter hT₁ ?_);refine wpAny_bind (wpAny_isOneOf_itemiter hT₁ ?_);show wpAny _ _ (Builtin.Dict_items.pairFromOwner (.ref it) 6 es[i].key es[i].val) _ _ ⟨h₁,g,dr,tk,os⟩;unfold Builtin.Dict_items.pairFromOwner;refine wpAny_bind (wpAny_newTuple ?_);have he₂:IsItemIter (h₁.push { cls:=.type "tuple",data:=.seq #[es[i].key,es[i].val] }) it d (i+1) es.size ep ok ov:=Heap.get?_push_of_some _ he₁;generalize hh₂:h₁.push { cls:=.type "tuple",data:=.seq #[es[i].key,es[i].val] }=h₂ at he₂;have hz₁:h₁.objs.size=hp.objs.size:=hs₁.1;have hil:it<hp.objs.size:=Heap.lt_size hit;have ht₂:h₂.get? hp.objs.size=some { cls:=.type "tuple",data:=.seq #[es[i].key,es[i].val] }:=by rw [← hh₂,← hz₁];exact Heap.get?_push_size _ rfl
 have hz₂:h₂.objs.size=hp.objs.size+1:=by rw [← hh₂,Heap.size_push,hz₁]
 have hk₂:∀b o,b≠it->hp.get? b=some o->h₂.get? b=some o:=λb o hb e=>by rw [← hh₂];exact Heap.get?_push_of_some _ (hs₁.extBut b o hb e)
 show wpAny _ _ (Builtin.Dict_items.ownedTupleIsFree (.ref it) >>= _) _ _ ⟨h₂,g,dr,tk,os⟩;rw [hz₁];clear hh₂ he₁ hs₁ hT₁ hz₁ h₁;refine wpAny_bind ?_;unfold Builtin.Dict_items.ownedTupleIsFree;refine wpAny_bind (wpAny_field he₂ rfl (x:=.none) rfl (wpAny_pure ?_));simp only [if_true];refine wpAny_bind (wpAny_field he₂ rfl (x:=ok) rfl ?_);refine wpAny_bind (wpAny_field he₂ rfl (x:=ov) rfl ?_);refine wpAny_bind (wpAny_setField_rec he₂ (by simp) λh₃ he₃ hs₃=>?_)
 replace hs₃:Heap.SameBut it h₂ h₃:=hs₃
 replace he₃:IsItemIter h₃ it d (i+1) es.size ep es[i].key ov:=he₃
 refine wpAny_bind (wpAny_setField_rec he₃ (by simp) λh₄ he₄ hs₄=>?_)
 replace hs₄:Heap.SameBut it h₃ h₄:=hs₄
 replace he₄:IsItemIter h₄ it d (i+1) es.size ep es[i].key es[i].val:=he₄
 refine wpAny_bind (wpAny_setField_rec he₄ (by simp) λh₅ he₅ hs₅=>?_)
 replace hs₅:Heap.SameBut it h₄ h₅:=hs₅
 replace he₅:IsItemIterOut h₅ it d (i+1) es.size ep es[i].key es[i].val hp.objs.size:=he₅
 refine wpAny_bind (wpAny_setField_rec he₅ (by simp) λh₆ he₆ hs₆=>?_)
 replace hs₆:Heap.SameBut it h₅ h₆:=hs₆
 replace he₆:IsItemIterOut h₆ it d (i+1) es.size ep es[i].key es[i].val hp.objs.size:=he₆
 refine wpAny_bind (wpAny_letGo (wpAny_pure (wpAny_pure ⟨_,rfl,wpAny_pure (hQ h₆ he₆ ?_ ?_ ?_)⟩)))
 ·exact hs₆.extBut _ _ (Nat.ne_of_gt hil) (hs₅.extBut _ _ (Nat.ne_of_gt hil) (hs₄.extBut _ _ (Nat.ne_of_gt hil) (hs₃.extBut _ _ (Nat.ne_of_gt hil) ht₂)))
 ·show h₆.objs.size=hp.objs.size+1;rw [hs₆.1,hs₅.1,hs₄.1,hs₃.1,hz₂]
 ·exact λb o hb e=>hs₆.extBut b o hb (hs₅.extBut b o hb (hs₄.extBut b o hb (hs₃.extBut b o hb (hk₂ b o hb e))))
theorem N8 {ok ov:Value}{Q:Option Value->Shared->Prop}(hh:A.handled=none)(hit:IsItemIter s.heap it d i es.size ep ok ov)(x:rA s.heap d es ep)(hge:es.size<=i)
  (hQ:∀h',Heap.ExtBut it s.heap h'->Q none { s with heap:=h' }):wpAny (model prog w) A (pyNext (.ref it)) Q E s:=by
 obtain ⟨od,hod,hcd,hdd⟩:=id x;have hT:s.TypeIs (.ref it) "dict_itemiterator":=⟨_,hit,rfl⟩;unfold pyNext;refine wpAny_bind (wpAny_attempt (wpAny_callSpecial?_slot (name:=Str.ofString "__next__") hT PySem.F.slot_dict_itemiterator_next
  (wpAny_call_entry PySem.F.slot_dict_itemiterator_next hT PySem.F.entry_dict_itemiterator_next ?_ (PySem.F.args_dict_itemiterator_next_1 _))))
 refine wpAny_bind (wpAny_pure ?_);refine wpAny_bind ?_;refine wpAny_bind ?_
 first | refine wpAny_bind (wpAny_typeNameOfWhole_itemiter hT (wpAny_pure ?_)) | refine wpAny_bind (wpAny_typeNameOf_itemiter hT (wpAny_pure ?_))
 refine wpAny_bind (wpAny_fieldsOf hit rfl ?_);have hown:Builtin.Dict_items.ownsTuple "dict_itemiterator" = true:=by decide
 simp only [hown,if_true];show wpAny _ _ (if (Value.ref d == Value.none)=true then _ else _) _ _ s;rw [if_neg (show ¬((Value.ref d == Value.none)=true) from Bool.false_ne_true)];refine wpAny_bind (wpAny_pure ?_);refine wpAny_bind (wpAny_dictEntries hod hdd ?_);rw [if_neg (by simp)];refine wpAny_bind (wpAny_pure ?_);refine wpAny_bind (wpAny_dictEpoch hod hdd ?_);rw [if_neg (by simp)];refine wpAny_pure ?_;simp only [show ¬((i:Int)<0) from by omega,if_false,Int.toNat_natCast,Array.getElem?_eq_none hge];refine wpAny_bind ?_
 first | refine wpAny_bind (wpAny_typeNameOfWhole_itemiter hT (wpAny_pure ?_)) | refine wpAny_bind (wpAny_typeNameOf_itemiter hT (wpAny_pure ?_))
 show wpAny _ _ (setField (.ref it) 2 .none >>= _) _ _ s;refine wpAny_bind (wpAny_setField hit rfl (by simp) ?_);show wpAny _ _ (newExc (.type "StopIteration") [] >>= _) _ _ _;refine wpAny_bind ?_;simp only [newExc,newTuple];refine wpAny_bind (wpAny_newObj_type ?_ (by size_fits));refine wpAny_bind (m:=firstArgMember _ _) (wpAny_of_eq (a:=Value.none) (by first | rfl | (simp only [firstArgMember];rfl)) ?_);refine wpAny_newObj_type ?_ (by size_fits);simp only [raiseNew];refine wpAny_bind (wpAny_handled ?_);rw [show A.in1.handled=none from hh];refine wpAny_bind (wpAny_pure (wpAny_throw ?_));refine wpAny_bind (wpAny_isInstance (T:="StopIteration") (b:=true) ⟨_,Heap.get?_push_size _ rfl,rfl⟩ isSubtype_stop ?_);exact wpAny_pure (hQ _ (((Heap.SameBut.update ..).extBut.push _).push _))
end
def Itm (d:Addr)(o:Obj)(u:HO)(keys vals:List V):It:=⟨λi H=>H d=some (.frz o u)/\i<keys.length,λi H x H'=>∃y z l,keys[i]? = some y/\vals[i]? = some z/\x=.ref l/\H l=none/\H'=upd H l (.tup [y,z]),λi H=>H d=some (.frz o u)/\i=keys.length⟩
theorem Jv {P:Program}{w:World}{K:W.Frag}{elts:List Expr}{x1}{pos:Pos}(it d:Addr)(o:Obj)(u:HO)(es:Array DictEntry)(ep:Nat)(keys vals:List V)(hx:o.ExactDict)(ht:o.data=.dict es ep)(hv:Vals keys (es.toList.map (·.key)))(hw:Vals vals (es.toList.map (·.val))):
  Turn P w K (.Tuple elts x1 pos) (Itm d o u keys vals) [it] it (λi h=>∃ok ov,IsItemIter h it d i es.size ep ok ov) where
 mem:=by simp
 obj:=λi h st b hb=>by
  cases List.mem_singleton.mp hb;obtain ⟨_,_,e⟩:=st;exact ⟨_,e,λv z=>by cases (show Data.fields _=Data.cell v from z)⟩
 keep:=λi h h' st k=>by
  obtain ⟨a,b,e⟩:=st;exact ⟨a,b,k it (by simp) _ e⟩
 item:=by
  intro X hP hw' hK hc i pins s σ H E I hf st hg;subst hP hw' hK;have fe:=hf it (by simp);obtain ⟨f0,f1,f2,f3,f4,f5⟩:=fe;obtain ⟨hd,hl⟩:=hg;obtain ⟨ho,_⟩:=I.hok d _ hd;have hlen:keys.length=es.size:=by have:=hv.length;simpa using this
  have lt:i<es.size:=by omega
  obtain ⟨ok,ov,st⟩:=st;obtain ⟨y,y1,y2⟩:=xF (i:=i) (u:=es[i].key) hv (by simp [lt]);obtain ⟨z,z1,z2⟩:=xF (i:=i) (u:=es[i].val) hw (by simp [lt]);refine aaF st ⟨o,ho,hx,ht⟩ lt λh' eo htu hsz kk=>?_;obtain ⟨vs,fe'⟩:∃vs,(⟨.type "dict_itemiterator",none,.fields #[rawInt s.heap.objs.size,.bool false,.ref d,.int (i+1:Nat) 0,.int es.size 0,.int ep 0,es[i].key,es[i].val],#[]⟩:Obj).data=.fields vs:=⟨_,rfl⟩;have I1:Inv X pins σ H { s with heap:=s.heap.update it λ_=>⟨.type "dict_itemiterator",none,.fields #[rawInt s.heap.objs.size,.bool false,.ref d,.int (i+1:Nat) 0,.int es.size 0,.int ep 0,es[i].key,es[i].val],#[]⟩ }:=
   I.turned (t':=s.toks) (λb o hb x=>(Heap.get?_update_other _ _ (Ne.symm hb)).trans x) f0 f1 f3 f4 f5
  have k1:∀b u,(s.heap.update it λ_=>⟨.type "dict_itemiterator",none,.fields #[rawInt s.heap.objs.size,.bool false,.ref d,.int (i+1:Nat) 0,.int es.size 0,.int ep 0,es[i].key,es[i].val],#[]⟩).get? b=some u->h'.get? b=some u:=λb u x=>by
   by_cases q:b=it
   ·subst q;rw [Heap.get?_update_self _ st (Hl fe')] at x;cases x;exact eo
   ·rw [Heap.get?_update_other _ _ (Ne.symm q)] at x;exact kk b u q x
  have sz1:(s.heap.update it λ_=>⟨.type "dict_itemiterator",none,.fields #[rawInt s.heap.objs.size,.bool false,.ref d,.int (i+1:Nat) 0,.int es.size 0,.int ep 0,es[i].key,es[i].val],#[]⟩).objs.size=s.heap.objs.size:=(Heap.SameBut.update _ _ _).1;have I2:Inv X pins σ (upd H s.heap.objs.size (.tup [y,z])) { s with heap:=h' }:=
   I1.laid (t':=s.toks) k1 (Nat.le_of_eq sz1) (show cD X.prog X.w _ _ _ (.tup [y,z]) from ⟨(show 2<=sizeLine by decide),[es[i].key,es[i].val],.cons y2 (.cons z2 .nil),⟨_,htu,rfl,_,rfl⟩⟩)
  have fr:H s.heap.objs.size=none:=I.hok.fresh (Nat.le_refl _);have ne1:it≠s.heap.objs.size:=Nat.ne_of_lt (Heap.lt_size st);refine ⟨_,rfl,wpAny_letOwnedTupleGo_items (s:={ s with heap:=h' }) eo λh2 e2 sb=>?_⟩;refine ⟨.ref s.heap.objs.size,_,I2.turned (t':=s.toks) (λb o hb y=>(sb.2 b hb).trans y) (by rw [bc ne1];exact f0) f1 f3 f4 f5,rfl,⟨y,z,_,y1,z1,rfl,fr,rfl⟩,⟨_,_,e2⟩,λb hb=>?_⟩;cases List.mem_singleton.mp hb;rw [bc ne1];exact f0
 done:=by
  intro X hP hw' hK hc i pins s σ H E I hf st hg;subst hP hw' hK;obtain ⟨f0,f1,f2,f3,f4,f5⟩:=hf it (by simp);obtain ⟨hd,hl⟩:=hg;obtain ⟨ho,_⟩:=I.hok d _ hd;have hlen:keys.length=es.size:=by have:=hv.length;simpa using this
  obtain ⟨ok,ov,st⟩:=st;exact N8 (I.ok.hd hc) st ⟨o,ho,hx,ht⟩ (by omega) λh' kk=>⟨rfl,I.turned (t':=s.toks) (λb q hb e=>kk b q hb e) f0 f1 f3 f4 f5⟩
 self:=λA i s Q E st h=>let ⟨_,_,st⟩:=st;W.kcp_self st h
section
variable {prog:Program}{w:World}{A:Around}{E:Zs}{s:Shared}{d it v:Addr}{es:Array DictEntry}{ep i:Nat}
end
theorem aa2 {X:Cx}{pins:Zl}{σ:L2.St}{H:Hp}{s:Shared}{a:Addr}{T:Addr->List V->Prop}{kvs:List (List Kt×V)}(I:Inv X pins σ H s)(e:Rd H a (.dT T kvs)):
  kvs.length<=sizeLine/\(a == sysModules)=false/\∃es ep,rA s.heap a es ep/\es.size=kvs.length:=by
 obtain ⟨hz,hd,xs,rel,o,es,ep,ho,hx,ht,he,nd⟩:=(show cD X.prog X.w H s.heap a (.dT T kvs) from e.ok I.hok);exact ⟨hz,hd,es,ep,⟨o,ho,hx,ht⟩,by rw [size_of_entries he,Paired.length rel]⟩
def abI:List D->Option D
 |[d]=>(dcK d).map λp=>.int p.1.length
 |_=>none
section
variable {X:Cx}
def aaW:List D->Option D
 |[.dcf ks _]=>some (.lst (ks.map tupK))
 |_=>none
end
def abd (fo:Zae):Zae:=λm=>(fo m).bind λd=>match d with
 | .dcf ks _=>.ok (.lst (ks.map tupK))
 |_=>.stuck
section
variable {X:Cx}{E:XK}{o:Expr}{fo:Zae}{p pos apos cpos:Pos}
end
section
variable {X:Cx}{tg:Expr}
def xP (p a:Addr)(h:Heap):Prop:=h.IsItemsView p a
def Yo (X:Cx):V->List V->Hp->VK->Prop:=λx vs H Q=>∃a o kvs,x=.ref a/\vs=[]/\H a=some (.frz o (.dT (KTp X.K) kvs))/\∀p,H p=none->Q (.ref p) (upd H p (.ext (xP p a)))
theorem OJ:MtR X "dict.items" (Yo X):=by
 intro pins s σ H x vs v us Q I rx rv h;obtain ⟨a,o,kvs,rfl,rfl,e,q⟩:=h;cases rx;have hus:=rv.zero;subst hus;obtain ⟨hz,hd,es,ep,x,_⟩:=aa2 I (.inr ⟨_,e⟩);refine NK hd x ?_;exact ⟨.ref _,_,I.laid (t':=s.toks) (λb o e=>Heap.get?_push_of_some _ e) (Nat.le_refl _) (show cD X.prog X.w _ _ _ (.ext (xP s.heap.objs.size a)) from ⟨⟨_,Heap.get?_push_size _ rfl,rfl,rfl⟩,⟨_,Heap.get?_push_size _ rfl⟩,λh1 h2 ⟨o,e,r⟩ k=>⟨o,k o e,r⟩⟩),rfl,q _ (I.hok.fresh (Nat.le_refl _))⟩
def Y9 (K:W.Frag)(tl:TE):TI:=λσ H R=>tl σ H λx H1=>∃p d o kvs,x=.ref p/\H1 p=some (.ext (xP p d))/\H1 d=some (.frz o (.dT (KTp K) kvs))/\∀keys,KeysOf K H1 kvs keys->R (Itm d o (.dT (KTp K) kvs) keys (kvs.map (·.2))) H1
theorem QM {elts:List Expr}{x1}{pt:Pos}{l:Expr}{tl:TE}(hl:PE X l tl):PI X (.Tuple elts x1 pt) l (Y9 X.K tl):=by
 intro pins s σ H R I h;refine thn (hl pins s σ H _ I h) λv s1 hE=>xq2 hE λx H1 I1 r1 q1=>?_;obtain ⟨p,d,o,kvs,rfl,ep,e,q⟩:=q1;cases r1;obtain ⟨ho,z,y,xs,r,o',es,ep',h1,h2,h3,h4,h5⟩:=I1.hok d _ e;cases ho.symm.trans h1;obtain ⟨vw,_⟩:=I1.hok p _ ep;have fp:∀b∈[s1.heap.objs.size],sy X pins H1 b:=λb hb=>by
  cases List.mem_singleton.mp hb;exact I1.Ga (Nat.le_refl _) (I1.hok.fresh (Nat.le_refl _))
 refine Zw vw ⟨o,ho,h2,h3⟩ ?_;refine ⟨s1.heap.objs.size,[s1.heap.objs.size],_,_,H1,rfl,I1.kept (t':=s1.toks) λb o e=>Heap.get?_push_of_some _ e,Jv _ d o _ es ep' (xs.map λq=>V.ref q.2.1) (kvs.map (·.2)) h2 h3 ?_ ?_,⟨_,_,Heap.get?_push_size _ rfl⟩,fp,q _ (Mh r)⟩
 ·rw [h4];exact Ai xs
 ·rw [h4,List.map_map];clear h4 h5 q e z ho h1;induction r with
  |nil=>exact .nil
  |cons h _ ih=>exact .cons h.2.2 ih
def ir:List (List Kt)->List D->List D
 |k::ks,d::ds=>.tup [tupK k,d]::ir ks ds
 |_,_=>[]
theorem zJ:∀{ks:List (List Kt)} {ds:List D},ks.length=ds.length->(ir ks ds).length=ks.length
 |[],[],_=>rfl
 |_::ks,_::ds,h=>by simp [ir];exact zJ (by simpa using h)
theorem Bm:∀{ks:List (List Kt)} {ds:List D} {i:Nat} {k:List Kt} {d:D},ks[i]? = some k->ds[i]? = some d->(ir ks ds)[i]? = some (.tup [tupK k,d])
 |[],_,_,_,_,h,_=>by simp at h
 |_::_,[],_,_,_,_,h=>by simp at h
 |k::ks,d::ds,0,_,_,h,g=>by simp at h g;subst h g;rfl
 |k::ks,d::ds,i+1,_,_,h,g=>by simpa [ir] using Bm (i:=i) (by simpa using h) (by simpa using g)
def Y4 (f:Zae):Zad:=λm=>(f m).bind λd=>match d with
 | .dcf ks ds=>.ok (ir ks ds)
 |_=>.stuck
theorem Qp {G:Gx}{O:Zaa}{H:Hp}{d:Addr}{o:Obj}{kvs:List (List Kt×V)}{ds:List D}{keys:List V}(m:∀b,O b->fH (H b))(e:H d=some (.frz o (.dT (KTp G.K) kvs)))(hk:KeysOf G.K H kvs keys)(hd:DVs G O H (kvs.map (·.2)) ds):
  tZ G (Itm d o (.dT (KTp G.K) kvs) keys (kvs.map (·.2))) (ir (kvs.map (·.1)) ds) (λO' H2=>Ev O H O' H2):=by
 intro O' H2 ev;have e2:H2 d=some (.frz o (.dT (KTp G.K) kvs)):=ev.2 _ _ e (jR m e vq);have hl:=hk.len;have hl2:=cg hd;have hln:(ir (kvs.map (·.1)) ds).length=kvs.length:=by rw [zJ (by simpa using hl2)];simp
 refine ⟨λi hi=>⟨e2,by rw [hln] at hi;omega⟩,λi x H' hi y=>?_,e2,by rw [hln];omega⟩;obtain ⟨y,z,l,h1,h2,rfl,fr,rfl⟩:=y;obtain ⟨p,b,q1,rfl,q3⟩:=(Km m ev.2 hk).at h1;obtain ⟨d',w1,w2⟩:=p7 (hd.go m ev) h2;exact ⟨bD fr _,.tup [tupK p.1,d'],Bm (by simp [q1]) w1,.tup (SqU.of aV) (.cons ((Uq q3).mono (bD fr _)) (.cons (w2.mono (bD fr _)) .nil))⟩
theorem QV {E:XK}{f:Zae}{elts:List Expr}{x1}{pt apos cpos:Pos}{o:Expr}(h:FE X E o f)(hbase:attributeBase o "items" X.env (eval o X.env)=eval o X.env:=by rfl)(hline:(apos.endLine == cpos.line)=true:=by rfl):
  FI X E (.Tuple elts x1 pt) (.Call (.Attribute o "items" apos) [] [] cpos) (Y4 f):=
 mz (QM (Im PySem.F.plainAttrs_dict PySem.F.slot_dict_items PySem.F.type_dict_items OJ h hbase hline)) λσ H R hE=>xq5 hE λO0 M0 H0 ow m Re q=>⟨O0,M0,H0,ow,m,Re,q.bind.imp (aL.refl _) λd q v H' g hv=>by
  cases d with
  |dcf ks ds=>
   cases hv with
   | @dcf a ob kvs _ _ _ e1 e2 e3 hs=>
    subst e2 e3;refine ⟨.inr (.inr (.inl ⟨rfl,.inr ⟨_,kvs,.inr ⟨ob,e1⟩⟩⟩)),a,ob,kvs,rfl,rfl,e1,λb hb=>?_⟩;have ne:a≠b:=λz=>by rw [z,hb] at e1;cases e1
    have gb:=bD (o:=.ext (xP b a)) hb;refine ⟨b,a,ob,kvs,rfl,aV,by rw [bc ne];exact e1,λkeys hk=>?_⟩;exact q _ _ (g.trans gb) (Qp ((Re.mono (g.trans gb)).mutk) (by rw [bc ne];exact e1) hk (hs.mono gb))
  |_=>exact q.elim⟩
end
section
variable {G:Gx}{O0 M0:Zaa}{H0:Hp}{ow:Os}{σ:L2.St}{H:Hp}{m:Me}
end
section
variable {P:Program}{w:World}{K:W.Frag}{mg:Zp}{base:Heap}
end
section
variable {X:Cx}{E:XK}{e:Expr}{es:List Expr}{fa:Zae}{fs:Zad}{i p:Nat}{y:Str}{np:Pos}
end
section
variable {G:Gx}{O0 M0:Zaa}{H0 H H':Hp}{ow:Os}{σ:L2.St}{m m':Me}
end
section
variable {X:Cx}{E:XK}{e b ke:Expr}{f fb fk:Zae}{pos spos:Pos}
end
section
variable {P:Program}{w:World}{K:W.Frag}{mg:Zp}{base:Heap}
end
section
variable {G:Gx}{O0 M0:Zaa}{H0 H H':Hp}{ow:Os}{σ:L2.St}{m:Me}
end
section
variable {X:Cx}{E:XK}
end
section
variable {X:Cx}{E:XK}{e:Expr}{fa:Me->Res (D×Me)}{pos apos cpos np:Pos}{x:Str}
end
end F
namespace L2
open PySem PySem.Spec PyProof.Rows
section
variable {X:Cx}{tg:Expr}
end
end L2
namespace F
open PySem PySem.Spec PyProof.Rows L2 Hd
section
variable {X:Cx}{E:XK}{tg e a b c:Expr}{f:Zae}{fs:Zad}{fa:Me->Res (D×Me)}{p pos:Pos}
def qO:Zab:=λ_=>.stuck
theorem mU {st:Stmt}:FS X E st qO:=λ_ _ _ _ _ _ ⟨_,_,_,_,_,_,z⟩=>z.elim
variable {x:Str}{np apos cpos:Pos}
end
section
variable {X:Cx}{E:XK}{e ke:Expr}{f fk:Zae}{pos np apos cpos:Pos}{x:Str}
end
end F
namespace L2
open PySem PySem.Spec PyProof.Rows
section
variable {X:Cx}{e st:Expr}{te:TE}{tst:TO}{p2 pos:Pos}
end
end L2
namespace F
open PySem PySem.Spec PyProof.Rows L2 Hd
section
variable {X:Cx}{E:XK}{e st:Expr}{f:Zae}{fk:Me->Res (Option Int)}{p2 pos:Pos}
end
end F
namespace Pk
open PySem L2 Hd F
section
def iz:Zaf:=
 (aU gNe (ao 3) (fC (.int 0)))
def ik:Zab:=
 (aM (bf 4 (aD iy (ao 2) (ao 3)))
 (aM (bf 2 (aH 3))
 (bf 3 (aH 4))))
def mX:Zab:=
 (oG iz ik)
def jQ (l_3:Zab):Zab:=
 (aM (bf 2 (aX V9 (aj (ao 0) az)))
 (aM (bf 3 (aX V9 (aj (ao 1) az)))
 (aM l_3
 (bz (aH 2)))))
def jD:Zab:=
 (jQ mX)
def cR:Zac:=aW 5 2 jD
def uK (φ_common_divisor:Zac):Zab:=
 (aM (bf 2 (fFn φ_common_divisor (aj (aH 0) (aj (aH 1) az))))
 (aM (gIf (aU gLt (ao 1) (fC (.int 0))) (bf 2 (fUn tW (ao 2))) gNx)
 (bz (aQ (aj (aD vB (ao 0) (ao 2)) (aj (aD vB (ao 1) (ao 2)) az))))))
def vd:Zab:=
 (uK cR)
def fj:Zac:=aW 3 2 vd
def De (φ_lowest:Zac):Zab:=
 (bz (fFn φ_lowest (aj (aD cN (aD lO (aD gIx (ao 0) (fC (.int 0))) (aD gIx (ao 1) (fC (.int 1)))) (aD lO (aD gIx (ao 1) (fC (.int 0))) (aD gIx (ao 0) (fC (.int 1))))) (aj (aD lO (aD gIx (ao 0) (fC (.int 1))) (aD gIx (ao 1) (fC (.int 1)))) az))))
def CK:Zab:=
 (De fj)
def o5:Zac:=aW 2 2 CK
def Dn:Zab:=
 (bz (qG gLt (aD lO (aD gIx (ao 0) (fC (.int 0))) (aD gIx (ao 1) (fC (.int 1)))) (aD lO (aD gIx (ao 1) (fC (.int 0))) (aD gIx (ao 0) (fC (.int 1))))))
def BW:Zab:=
 Dn
def uE:Zac:=aW 2 2 BW
def wA:Zab:=
 (bf 1 (fFn o5 (aj (aH 1) (aj (aH 2) az))))
def Bk:Zab:=
 (g8 (jA (aH 0)) (hName 2) wA)
def Dd (l_2:Zab):Zab:=
 (aM (bf 1 (fC (.tup [(.int 0),(.int 1)])))
 (aM l_2
 (bz (aH 1))))
def Dt:Zab:=
 (Dd Bk)
def uJ:Zac:=aW 3 1 Dt
def lD:Zae:=
 (bY 2 [] (kW (aD gIx (ao 0) (fUn tW (fC (.int 1))))) (jt 2 (bN (hName 0) (bN (hName 1) jq))) cM (aH 1))
def fV (l_1:Zae):Zab:=
 (aM (gIf (aU gEq (aD gIx (ao 0) (fC (.int 0))) (fC (.str "end"))) (iD (fO az)) gNx)
 (iD l_1))
def tL:Zab:=
 (fV lD)
def eO:Zac:=aW 1 1 tL
def oX:Zae:=
 (aQ (aj (aD cN (aD gIx (ao 2) (fC (.int 0))) (aQ (aj (aH 0) az))) (aj (aH 1) az)))
def j5:Zae:=
 (bY 2 [3] (Yx (aj (fFn eO (aj (aD gIx (ao 3) (fC (.int 1))) az)) az)) (jt 2 (bN (hName 0) (bN (hName 1) jq))) cM oX)
def kj:Zaf:=
 (aU gGt (aX eN (aj (ao 2) az)) (fC (.int 0)))
def jY:Zab:=
 (aM (Cz 3 2)
 (aM (fY 1 (aH 3))
 (aM (bf 4 j5)
 (uY 2 (aX Ry (aj (ao 4) az))))))
def zV:Zab:=
 (oG kj jY)
def nH (l_5:Zab):Zab:=
 (aM (iZ 1 (fO az))
 (aM (iZ 2 (fO (aj (aQ (aj (aQ az) (aj (aH 0) az))) az)))
 (aM l_5
 (sG 1))))
def wK:Zab:=
 (nH zV)
def lq:Zac:=aW 5 1 wK
def qw:Zae:=
 (bY 2 [] (kW (aD gIx (ao 0) (fC (.int 3)))) (jt 2 (bN (hName 0) (bN (hName 1) jq))) cM (aH 0))
def uA (l_1:Zae):Zab:=
 (bz (aX jB (aj l_1 az)))
def tV:Zab:=
 (uA qw)
def mV:Zac:=aW 1 1 tV
def eV:Zab:=
 (aM (gIf (aU gNe (aD gIx (ao 0) (fC (.int 0))) (fC (.str "move"))) (bz (aH 1)) gNx)
 (aM (bf 3 (aQ (aj (aD gIx (ao 0) (fC (.int 2))) (aj (aD gIx (aD gIx (aD gIx (ao 0) (fC (.int 3))) (ao 2)) (fC (.int 0))) az))))
 (aM (gIf (aU gEq (aD gIx (ao 0) (fC (.int 1))) (fC (.int 1))) (bz (aQ (aj (aD cN (aD gIx (ao 1) (fC (.int 0))) (aQ (aj (aH 3) az))) (aj (aD gIx (ao 1) (fC (.int 1))) az)))) gNx)
 (bz (aQ (aj (aD gIx (ao 1) (fC (.int 0))) (aj (aD cN (aD gIx (ao 1) (fC (.int 1))) (aQ (aj (aH 3) az))) az)))))))
def eZ:Zab:=
 eV
def cU:Zac:=aW 4 3 eZ
def cC:Zab:=
 (G4 1 (aD cN (ao 3) (aQ (aj (aH 5) az))) (fFn cU (aj (aH 4) (aj (aD Hh (ao 1) (ao 3)) (aj (aH 5) az)))))
def eY:Zab:=
 (g8 (gU (aj (aX eN (aj (fFn eO (aj (aH 4) az)) az)) az)) (hName 5) cC)
def bu:Zab:=
 (aM (fY 2 (aQ (aj (aH 3) (aj (aH 4) (aj (aD Hh (ao 1) (ao 3)) az)))))
 eY)
def iC:Zab:=
 (g8 (jA (fFn lq (aj (aH 0) az))) (jt 2 (bN (hName 3) (bN (hName 4) jq))) bu)
def dR (l_4:Zab):Zab:=
 (aM (iZ 1 (IW (aQ az) (aQ (aj (aQ az) (aj (aQ az) az)))))
 (aM (iZ 2 (fO az))
 (aM l_4
 (sG 2))))
def ju:Zab:=
 (dR iC)
def cP:Zac:=aW 6 1 ju
def uI (φ_words_at:Zac):Zab:=
 (bz (aQ (aj (aD gIx (ao 0) (fC (.int 1))) (aj (aD gIx (ao 0) (fC (.int 2))) (aj (fFn φ_words_at (aj (aH 0) az)) (aj (aD gIx (ao 1) (aD v5 (aD gIx (ao 0) (fC (.int 1))) (fC (.int 1)))) az))))))
def vg:Zab:=
 (uI mV)
def o7:Zac:=aW 2 2 vg
def fJ:Zab:=
 (gIf (aU gEq (aD gIx (ao 3) (fC (.int 0))) (fC (.str "move"))) (Ui 1 (aQ (aj (aD gIx (ao 3) (fC (.int 1))) (aj (aD gIx (ao 3) (fC (.int 2))) az))) (fFn o7 (aj (aH 3) (aj (aH 4) az)))) gNx)
def uZ:Zab:=
 (g8 (jA (fFn cP (aj (aH 0) az))) (jt 3 (bN (hName 2) (bN (hName 3) (bN (hName 4) jq)))) fJ)
def qu (l_2:Zab):Zab:=
 (aM (iZ 1 GK)
 (aM l_2
 (iD (Ik (ao 1)))))
def yd:Zab:=
 (qu uZ)
def qe:Zac:=aW 5 1 yd
def qX:Zae:=
 (bY 1 [1] (jA (fFn qe (aj (aH 0) az))) (hName 0) (aU gEq (aD gIx (ao 0) (fC (.int 0))) (ao 1)) (aH 0))
def vW (l_1:Zae):Zab:=
 (iD l_1)
def vR:Zab:=
 (vW qX)
def iJ:Zac:=aW 2 2 vR
end
end Pk
namespace Hd
def gI (a b:Int):Int:=(Int.gcd a b:Nat)
theorem J5 {a b:Int}(ha:0<=a)(hb:0<b):gI b (a % b)=gI a b:=by
 unfold gI Int.gcd;have e:(a % b).natAbs=a.natAbs % b.natAbs:=by
  obtain ⟨n,rfl⟩:=Int.eq_ofNat_of_zero_le ha;obtain ⟨m,rfl⟩:=Int.eq_ofNat_of_zero_le (Int.le_of_lt hb);rfl
 rw [e,Nat.gcd_comm a.natAbs b.natAbs,Nat.gcd_rec b.natAbs a.natAbs,Nat.gcd_comm]
theorem J4 {a:Int}(ha:0<=a):gI a 0=a:=by
 unfold gI;rw [Int.gcd_zero_right];omega
theorem XJ (a b:Int):gI (if a<0 then -a else a) (if b<0 then -b else b)=gI a b:=by
 unfold gI Int.gcd;have h:∀x:Int,(if x<0 then -x else x).natAbs=x.natAbs:=λx=>by split<;>omega
 rw [h,h]
theorem Wo (a b:Int):0<=gI a b:=Int.natCast_nonneg _
theorem Ey {a b:Int}(hb:b≠0):0<gI a b:=by
 have:0<Int.gcd a b:=Nat.pos_of_ne_zero λh=>hb (Int.gcd_eq_zero_iff.mp h).2
 unfold gI;omega
theorem JN (a b:Int):gI a b ∣ a:=Int.gcd_dvd_left a b
theorem xT (a b:Int):gI a b ∣ b:=Int.gcd_dvd_right a b
theorem Wv {a b:Int}(hb:b≠0):(gI a b).natAbs<=b.natAbs:=by
 have h:(gI a b).natAbs ∣ b.natAbs:=Int.natAbs_dvd_natAbs.mpr (xT a b);exact Nat.le_of_dvd (by omega) h
def dv (t b:Int):Int:=if b<0 then -gI t b else gI t b
theorem K3 {t b:Int}(hb:b≠0):dv t b≠0:=by
 have:=Ey (a:=t) hb
 unfold dv;split<;>omega
theorem Sv (t b:Int):(dv t b).natAbs=(gI t b).natAbs:=by unfold dv;split<;>omega
def lt (t b:Int):Int:=t.fdiv (dv t b)
def lb (t b:Int):Int:=b.fdiv (dv t b)
theorem yV {a d q:Int}(hd:d≠0)(h:a=d*q):a.fdiv d=q:=by
 rw [h];exact Int.mul_fdiv_cancel_left q hd
theorem V4 (t b:Int):dv t b ∣ t:=by
 unfold dv;split
 ·exact Int.neg_dvd.mpr (JN t b)
 ·exact JN t b
theorem Rm (t b:Int):dv t b ∣ b:=by
 unfold dv;split
 ·exact Int.neg_dvd.mpr (xT t b)
 ·exact xT t b
theorem lt_mul {t b:Int}(hb:b≠0):dv t b*lt t b=t:=by
 obtain ⟨q,hq⟩:=V4 t b;have e:lt t b=q:=yV (K3 hb) hq;rw [e];exact hq.symm
theorem Eo {t b:Int}(hb:b≠0):dv t b*lb t b=b:=by
 obtain ⟨q,hq⟩:=Rm t b;have e:lb t b=q:=yV (K3 hb) hq;rw [e];exact hq.symm
theorem Rw {t b:Int}(hb:b≠0):1<=lb t b:=by
 have e:=Eo (t:=t) hb;have g:=Ey (a:=t) hb;by_cases h:lb t b<=0
 ·exfalso;unfold dv at e;split at e
  ·have:0<=-gI t b*lb t b:=Int.mul_nonneg_of_nonpos_of_nonpos (by omega) h
   omega
  ·have:gI t b*lb t b<=0:=Int.mul_nonpos_of_nonneg_of_nonpos (by omega) h
   omega
 ·omega
theorem Ku {t b:Int}(hb:b≠0):gI (lt t b) (lb t b)=1:=by
 have e1:=lt_mul (t:=t) hb;have e2:=Eo (t:=t) hb;have g:=Ey (a:=t) hb;have q:gI t b=(dv t b).natAbs*gI (lt t b) (lb t b):=by
  have:Int.gcd (dv t b*lt t b) (dv t b*lb t b)=(dv t b).natAbs*Int.gcd (lt t b) (lb t b):=Int.gcd_mul_left ..
  rw [e1,e2] at this;unfold gI;rw [this];push_cast;rfl
 have ed:((dv t b).natAbs:Int)=gI t b:=by rw [Sv];have:=Wo t b;omega
 rw [ed] at q;have h:gI t b*gI (lt t b) (lb t b)=gI t b*1:=by rw [Int.mul_one];exact q.symm
 exact Int.eq_of_mul_eq_mul_left (by omega) h
theorem Bh {t b:Int}(hb:b≠0):lt t b*b=t*lb t b:=by
 have e1:=lt_mul (t:=t) hb;have e2:=Eo (t:=t) hb
 calc lt t b*b=lt t b*(dv t b*lb t b):=by rw [e2]
  _=(dv t b*lt t b)*lb t b:=by rw [← Int.mul_assoc,Int.mul_comm (lt t b) (dv t b)]
  _=t*lb t b:=by rw [e1]
theorem ZR {t b:Int}(hb:b≠0):(lt t b).natAbs<=t.natAbs:=by
 have e:=lt_mul (t:=t) hb;have h:(lt t b).natAbs ∣ t.natAbs:=Int.natAbs_dvd_natAbs.mpr ⟨dv t b,by rw [Int.mul_comm];exact e.symm⟩;by_cases z:t=0
 ·have:lt t b=0:=by
   have e':dv t b*lt t b=0:=e.trans z;rcases Int.mul_eq_zero.mp e' with h | h
   ·exact absurd h (K3 hb)
   ·exact h
  rw [this];exact Nat.zero_le _
 ·exact Nat.le_of_dvd (by omega) h
theorem aae {t b:Int}(hb:b≠0):(lb t b).natAbs<=b.natAbs:=by
 have e:=Eo (t:=t) hb;have h:(lb t b).natAbs ∣ b.natAbs:=Int.natAbs_dvd_natAbs.mpr ⟨dv t b,by rw [Int.mul_comm];exact e.symm⟩;exact Nat.le_of_dvd (by omega) h
theorem qC {q p s:Int}(c:Int.gcd p q=1)(h:q ∣ p*s):q ∣ s:=by
 have h2:q.natAbs ∣ p.natAbs*s.natAbs:=by rw [← Int.natAbs_mul];exact Int.natAbs_dvd_natAbs.mpr h
 have c2:Nat.Coprime q.natAbs p.natAbs:=by unfold Nat.Coprime;rw [Nat.gcd_comm];exact c
 exact Int.natAbs_dvd_natAbs.mp (Nat.Coprime.dvd_of_dvd_mul_left c2 h2)
theorem yS {p q r s:Int}(hq:1<=q)(hs:1<=s)(g1:gI p q=1)(g2:gI r s=1)(h:p*s=r*q):p=r/\q=s:=by
 have c1:Int.gcd p q=1:=by unfold gI at g1;omega
 have c2:Int.gcd r s=1:=by unfold gI at g2;omega
 have d1:q ∣ s:=by
  have:q ∣ p*s:=⟨r,by rw [h,Int.mul_comm]⟩
  exact qC c1 this
 have d2:s ∣ q:=by
  have:s ∣ r*q:=⟨p,by rw [← h,Int.mul_comm]⟩
  exact qC c2 this
 have e:q=s:=Int.dvd_antisymm (by omega) (by omega) d1 d2;subst e;exact ⟨Int.eq_of_mul_eq_mul_right (by omega) h,rfl⟩
theorem LR {p q:Int}(hq:1<=q)(g:gI p q=1):lt p q=p/\lb p q=q:=by
 have hb:q≠0:=by omega
 exact yS (Rw hb) hq (Ku hb) g (by rw [Bh hb])
theorem DQ {a b:Int}{m n:Nat}(ha:a.natAbs<2 ^ m)(hb:b.natAbs<2 ^ n):(a*b).natAbs<2 ^ (m+n):=by
 rw [Int.natAbs_mul,Nat.pow_add];exact Nat.mul_lt_mul'' ha hb
theorem Yp {a b:Int}{m:Nat}(ha:a.natAbs<2 ^ m)(hb:b.natAbs<2 ^ m):(a+b).natAbs<2 ^ (m+1):=by
 rw [Nat.pow_succ];omega
theorem vC {n m k:Nat}(h:n<2 ^ m)(hk:m<=k):n<2 ^ k:=Nat.lt_of_lt_of_le h (Nat.pow_le_pow_right (by decide) hk)
theorem Yc {t u p q:Int}(hu:u≠0)(hq:1<=q)(g:gI p q=1)(h:t*q=p*u):lt t u=p/\lb t u=q:=by
 refine yS (Rw hu) hq (Ku hu) g ?_;have e:=Bh (t:=t) hu;have e2:lt t u*q*u=p*lb t u*u:=by
  calc lt t u*q*u=lt t u*u*q:=by rw [Int.mul_assoc,Int.mul_comm q u,← Int.mul_assoc]
   _=t*lb t u*q:=by rw [e]
   _=t*q*lb t u:=by rw [Int.mul_assoc,Int.mul_comm (lb t u) q,← Int.mul_assoc]
   _=p*u*lb t u:=by rw [h]
   _=p*lb t u*u:=by rw [Int.mul_assoc,Int.mul_comm u,← Int.mul_assoc]
 exact Int.eq_of_mul_eq_mul_right hu e2
abbrev Q2:=Int×Int
end Hd
namespace F
open PySem L2 Hd
@[simp] theorem szl:sizeLine=16777216:=by decide
theorem tK:∀{a b:List Char},a.map Char.toNat=b.map Char.toNat->a=b
 |[],[],_=>rfl
 |[],_::_,h=>by simp at h
 |_::_,[],h=>by simp at h
 |x::a,y::b,h=>by
  have h':x.toNat=y.toNat/\a.map Char.toNat=b.map Char.toNat:=by simpa using h
  rw [Char.toNat_inj.mp h'.1,tK h'.2]
@[simp] theorem aaN {a b:String}:(Str.ofString a=Str.ofString b)↔a=b:=by
 constructor
 ·intro h;rw [Str.ofString_eq_toList,Str.ofString_eq_toList] at h;have h2:(a.toList.map Char.toNat).toArray=(b.toList.map Char.toNat).toArray:=congrArg Str.cps h;have h3:a.toList.map Char.toNat=b.toList.map Char.toNat:=by simpa using congrArg Array.toList h2
  exact String.toList_inj.mp (tK h3)
 ·intro h;rw [h]
mutual
def okD:D->Bool
 | .non | .bl _ | .int _=>true
 | .str x=>PyData.strOk x
 | .tup xs=>Mv xs
 | .lst xs=>Mv xs
 | .exc _ | .dct _ _ | .dcu _ _ | .dcf _ _ | .adr _ | .ins _ _ _=>false
def Mv:List D->Bool
 |[]=>true
 |x::xs=>okD x && Mv xs
end
mutual
def Eg:D->Nat
 | .non | .bl _ | .int _ | .str _=>0
 | .tup xs=>Ag xs+1
 | .lst xs=>Ag xs+1
 | .exc _ | .dct _ _ | .dcu _ _ | .dcf _ _ | .adr _ | .ins _ _ _=>0
def Ag:List D->Nat
 |[]=>0
 |x::xs=>max (Eg x) (Ag xs)
end
mutual
theorem KJ:∀d:D,okD d=true->∃p,toPy d=some p/\p.canLay0=true/\p.depth=Eg d/\PyData.eqv p p=true
 | .non,_=>⟨.none,by simp [toPy],by simp [PyData.canLay0],by simp [PyData.depth,Eg],by simp [PyData.eqv]⟩
 | .bl b,_=>⟨.bool b,by simp [toPy],by simp [PyData.canLay0],by simp [PyData.depth,Eg],by simp [PyData.eqv]⟩
 | .int b,_=>⟨.int b,by simp [toPy],by simp [PyData.canLay0],by simp [PyData.depth,Eg],by simp [PyData.eqv]⟩
 | .str b,h=>⟨.str b,by simp [toPy],by simpa [PyData.canLay0,okD] using h,by simp [PyData.depth,Eg],by simp [PyData.eqv]⟩
 | .tup xs,h=>by
  obtain ⟨ps,h1,h2,h3,h4⟩:=yj xs (by simpa [okD] using h);exact ⟨.tuple ps,by simp [toPy,h1],by simpa [PyData.canLay0] using h2,by simp [PyData.depth,Eg,h3],by simpa [PyData.eqv] using h4⟩
 | .lst xs,h=>by
  obtain ⟨ps,h1,h2,h3,h4⟩:=yj xs (by simpa [okD] using h);exact ⟨.list ps,by simp [toPy,h1],by simpa [PyData.canLay0] using h2,by simp [PyData.depth,Eg,h3],by simpa [PyData.eqv] using h4⟩
 | .exc _,h=>by simp [okD] at h
 | .dct _ _,h=>by simp [okD] at h
 | .dcu _ _,h=>by simp [okD] at h
 | .adr _,h=>by simp [okD] at h
 | .ins _ _ _,h=>by simp [okD] at h
 | .dcf _ _,h=>by simp [okD] at h
theorem yj:∀ds:List D,Mv ds=true->∃ps,uU ds=some ps/\PyData.canLayAll0 ps=true/\PyData.depthAll ps=Ag ds/\PyData.eqvAll ps ps=true
 |[],_=>⟨[],by simp [uU],by simp [PyData.canLayAll0],by simp [PyData.depthAll,Ag],by simp [PyData.eqvAll]⟩
 |d::ds,h=>by
  have h':okD d=true/\Mv ds=true:=by simpa [Mv] using h
  obtain ⟨p,h1,h2,h3,h4⟩:=KJ d h'.1;obtain ⟨ps,k1,k2,k3,k4⟩:=yj ds h'.2;exact ⟨p::ps,by simp [uU,h1,k1],by simp [PyData.canLayAll0,h2,k2],by simp [PyData.depthAll,Ag,h3,k3],by simp [PyData.eqvAll,h4,k4]⟩
end
theorem Hi {d:D}(h:okD d=true)(hd:Eg d<=64):pK d d=some true:=by
 obtain ⟨p,h1,h2,h3,h4⟩:=KJ d h;unfold pK;rw [h1]
 have:SeqAt.shaped p=true:=by unfold SeqAt.shaped;rw [h2,decide_eq_true (by omega)];rfl
 simp [this,h4]
@[simp] theorem aaJ (i j:Int):gEq (.int i) (.int j)=some (decide (i=j)):=rfl
@[simp] theorem aaI (i j:Str):gEq (.str i) (.str j)=some (decide (i=j)):=rfl
@[simp] theorem aaY (i j:Bool):gEq (.bl i) (.bl j)=some (decide (i=j)):=rfl
@[simp] theorem aaK (i j:Int):gNe (.int i) (.int j)=some (!decide (i=j)):=rfl
@[simp] theorem aaM (i j:Str):gNe (.str i) (.str j)=some (!decide (i=j)):=rfl
@[simp] theorem aaT (i j:Bool):gNe (.bl i) (.bl j)=some (!decide (i=j)):=rfl
theorem comp_map {h:Zba}{ft:Zaf}{fe:Zae}{m0:Me}(φ:D->D):∀ds:List D,(∀d∈ds,∃m1,h d m0=some m1/\ft m1=.ok true/\fe m1=.ok (φ d))->bV h ft fe m0 ds=.ok (ds.map φ)
 |[],_=>rfl
 |d::ds,H=>by
  obtain ⟨m1,e1,e2,e3⟩:=H d List.mem_cons_self;have ih:=comp_map φ ds λd hd=>H d (List.mem_cons_of_mem _ hd);unfold bV;simp only [e1,e2,e3,ih,List.map_cons]
def qD (d:Q2):D:=.tup [.int d.1,.int d.2]
mutual
inductive Gm where
 |fin (d:Q2)
 |deal (n:Str) (ws:Ws)
 |move (s:Int) (n:Str) (ws:Ws)
inductive Ws where
 |nil
 |cons (l:D) (g:Gm) (r:Ws)
end
mutual
def dG:Gm->D
 | .fin d=>.tup [.str "end",qD d]
 | .deal n ws=>.tup [.str "deal",.str n,.tup (dWs ws)]
 | .move s n ws=>.tup [.str "move",.int s,.str n,.tup (dWs ws)]
def dWs:Ws->List D
 | .nil=>[]
 | .cons l g r=>.tup [l,dG g]::dWs r
end
mutual
def dp:Gm->Nat
 | .fin _=>0
 | .deal _ ws=>dpW ws+1
 | .move _ _ ws=>dpW ws+1
def dpW:Ws->Nat
 | .nil=>0
 | .cons _ g r=>max (dp g) (dpW r)
end
def lB:Ws->Nat
 | .nil=>0
 | .cons _ _ r=>lB r+1
theorem xM:∀ws:Ws,(dWs ws).length=lB ws
 | .nil=>rfl
 | .cons l g r=>by show (dWs r).length+1=_;rw [xM r];rfl
mutual
def iB:Gm->Prop
 | .fin _=>True
 | .deal _ ws=>lB ws<=100/\qz ws
 | .move _ _ ws=>lB ws<=100/\qz ws
def qz:Ws->Prop
 | .nil=>True
 | .cons _ g r=>iB g/\qz r
end
theorem yr {f:Zad}{m:Me}{j:Int}(h:f m=.ok [.int j])(h1:-1000000000<=j)(h2:j<=1000000000):gU f m=.ok ((List.range j.toNat).map λ(i:Nat)=>D.int i):=by
 unfold gU;rw [h];show (if -(2 ^ 62)<=j/\j<2 ^ 62 then _ else _)=_;rw [if_pos ⟨by omega,by omega⟩]
open PySem PySem.NumText
def dg (n:Nat):List Nat:=(Nat.toDigits 10 n).map Char.toNat
def sg (i:Int):List Nat:=(if i<0 then [45] else [])++dg i.natAbs
def tx (l:List Nat):Str:=⟨l.toArray⟩
theorem dO (l:List Nat):(tx l).cps.toList=l:=rfl
theorem bR (l:List Nat):(tx l).length=l.length:=by show l.toArray.size=_;simp
theorem yK {x:Str}{l:List Nat}(h:x.cps.toList=l):x=tx l:=by
 cases x with
 |mk a=>subst h;unfold tx;simp
theorem mO (a b:List Nat):tx a++tx b=tx (a++b):=yK (by show (a.toArray++b.toArray).toList=_;simp)
theorem gJ {a b:List Nat}:tx a=tx b↔a=b:=⟨λh=>by have:=congrArg (λz:Str=>z.cps.toList) h;exact this,λh=>by rw [h]⟩
theorem o9:∀d:Nat,d<10->dg d=[48+d]:=by decide
theorem xq {n:Nat}(h:10<=n):dg n=dg (n / 10)++[48+n % 10]:=by
 have hm:n % 10<10:=Nat.mod_lt n (by decide);have t:Nat.toDigits 10 (n / 10)++Nat.toDigits 10 (n % 10)=Nat.toDigits 10 (10*(n / 10)+n % 10):=Nat.toDigits_append_toDigits (by decide) (by omega) hm;rw [Nat.div_add_mod] at t;have e:=o9 _ hm;unfold dg at e ⊢;rw [← t,List.map_append,e]
theorem tU (n:Nat):AllDigits (dg n):=by
 induction n using Nat.strongRecOn with
 |_ n ih=>
  by_cases h:n<10
  ·rw [o9 n h];intro c hc;rw [List.mem_singleton.mp hc];omega
  ·rw [xq (by omega)];intro c hc;rcases List.mem_append.mp hc with w | w
   ·exact ih (n / 10) (by omega) c w
   ·rw [List.mem_singleton.mp w];omega
theorem RG (n:Nat):dg n≠[]:=by
 by_cases h:n<10
 ·rw [o9 n h];exact List.cons_ne_nil _ _
 ·rw [xq (by omega)];simp
theorem Qy (n:Nat):digitsVal (dg n)=n:=by
 induction n using Nat.strongRecOn with
 |_ n ih=>
  by_cases h:n<10
  ·rw [o9 n h];show 0*10+(48+n - 48)=n;omega
  ·rw [xq (by omega),digitsVal_snoc,ih (n / 10) (by omega)];omega
theorem wu:∀(k n:Nat),n<10 ^ (k+1)->(dg n).length<=k+1
 |0,n,h=>by rw [o9 n (by simpa using h)];exact Nat.le_refl _
 |k+1,n,h=>by
  by_cases z:n<10
  ·rw [o9 n z];simp
  ·rw [xq (by omega),List.length_append]
   have:=wu k (n / 10) (by rw [Nat.pow_succ] at h;omega)
   simp
   omega
theorem J2 (n:Nat):1<=(dg n).length:=by
 have:=RG n
 cases h:dg n with
 |nil=>exact absurd h this
 |cons a b=>simp
theorem X6 (i:Int):Str.ofString (toString i)=tx (sg i):=by
 rw [Str.ofString_eq_toList];unfold tx sg dg;congr 2
 match i with
 | .ofNat m=>
  show (Nat.repr m).toList.map Char.toNat=_;rw [Nat.toList_repr];rfl
 | .negSucc m=>
  show ("-" ++ Nat.repr (m+1)).toList.map Char.toNat=_;rw [String.toList_append,Nat.toList_repr];rw [if_pos (Int.negSucc_lt_zero m)];rfl
theorem QB {i:Int}(h:i.natAbs<10 ^ 30):intText? (tx (sg i))=some i/\(tx (sg i)).length<=31:=by
 have hl:=wu 29 i.natAbs h;have hz:(tx (sg i)).length<=31:=by
  rw [bR];unfold sg;rw [List.length_append];split<;>simp<;>omega
 refine ⟨?_,hz⟩;by_cases n:i<0
 ·have e:sg i=45::dg i.natAbs:=by unfold sg;rw [if_pos n];rfl
  rw [intText_neg (x:=tx (sg i)) (cs:=dg i.natAbs) (by rw [dO,e]) (tU _) (RG _) (by omega),Qy];congr 1;omega
 ·have e:sg i=dg i.natAbs:=by unfold sg;rw [if_neg n];rfl
  rw [intText_digits (x:=tx (sg i)) (by rw [dO,e];exact tU _) (by rw [dO,e];exact RG _) (by omega),dO,e,Qy];congr 1;omega
theorem xR {x:Str}{c i:Nat}:StrLaws.At x ⟨#[c]⟩ x.length i↔x.cps.toList[i]? = some c:=StrLaws.subAt_one x c i
theorem Xw {l:List Nat}{c:Nat}(h:c∉l):Builtin.Str.occurrences (tx l) ⟨#[c]⟩ 0 (tx l).length 1=[]:=by
 rcases StrLaws.occ_head (tx l) ⟨#[c]⟩ 1 (Nat.le_refl 1) with ⟨h0,_⟩ | ⟨i,r,h0,hi,hn⟩
 ·exact h0
 ·have:=xR.mp hi
  exact absurd (List.mem_of_getElem? this) h
theorem Kh {l:List Nat}{c:Nat}(h:c∈l):(Builtin.Str.occurrences (tx l) ⟨#[c]⟩ 0 (tx l).length 1).isEmpty=false:=by
 rcases StrLaws.occ_head (tx l) ⟨#[c]⟩ 1 (Nat.le_refl 1) with ⟨h0,hn⟩ | ⟨i,r,h0,hi,hn⟩
 ·obtain ⟨j,hj⟩:=List.getElem?_of_mem h;exact absurd (xR.mpr hj) (hn j)
 ·rw [h0];rfl
theorem Za {a b:List Nat}{c:Nat}(h:c∉a):∃r,Builtin.Str.occurrences (tx (a++c::b)) ⟨#[c]⟩ 0 (tx (a++c::b)).length 1=a.length::r:=by
 rcases StrLaws.occ_head (tx (a++c::b)) ⟨#[c]⟩ 1 (Nat.le_refl 1) with ⟨h0,hn⟩ | ⟨i,r,h0,hi,hn⟩
 ·exact absurd (xR.mpr (show (a++c::b)[a.length]? = some c by simp)) (hn a.length)
 ·refine ⟨r,?_⟩;have e:i=a.length:=by
   by_cases z:i<a.length
   ·have:=xR.mp hi
    have w:(a++c::b)[i]? = some c:=this;rw [List.getElem?_append_left z] at w;exact absurd (List.mem_of_getElem? w) h
   ·by_cases y:a.length<i
    ·exact absurd (xR.mpr (show (a++c::b)[a.length]? = some c by simp)) (hn _ y)
    ·omega
  rw [h0,e]
end F
namespace Pk
open PySem L2 Hd F
def jh:Ws->List Gm
 | .nil=>[]
 | .cons _ g r=>g::jh r
def kids:Gm->List Gm
 | .fin _=>[]
 | .deal _ ws=>jh ws
 | .move _ _ ws=>jh ws
mutual
def szG:Gm->Nat
 | .fin _=>1
 | .deal _ ws=>szW ws+1
 | .move _ _ ws=>szW ws+1
def szW:Ws->Nat
 | .nil=>0
 | .cons _ g r=>szG g+szW r
end
theorem xJ (g:Gm):1<=szG g:=by cases g<;>simp [szG]
mutual
def plG:List Int->Gm->List (List Int×Gm)
 |w,.fin d=>[(w,.fin d)]
 |w,.deal n ws=>(w,.deal n ws)::plW w 0 ws
 |w,.move s n ws=>(w,.move s n ws)::plW w 0 ws
def plW:List Int->Nat->Ws->List (List Int×Gm)
 |_,_,.nil=>[]
 |w,i,.cons _ g r=>plG (w++[(i:Int)]) g++plW w (i+1) r
end
def pD (p:List Int×Gm):D:=.tup [.tup (p.1.map .int),dG p.2]
def bh (w:List Int)(g:Gm):List (List Int×Gm):=(kids g).zipIdx.map λp=>(w++[(p.2:Int)],p.1)
theorem Jd (w:List Int):∀(i:Nat) (ws:Ws),plW w i ws=(((jh ws).zipIdx i).map λp=>(w++[(p.2:Int)],p.1)).flatMap λp=>plG p.1 p.2
 |i,.nil=>rfl
 |i,.cons l g r=>by
  show plG (w++[(i:Int)]) g++plW w (i+1) r=_;rw [Jd w (i+1) r];rfl
theorem Xv (w:List Int)(g:Gm):plG w g=(w,g)::(bh w g).flatMap λp=>plG p.1 p.2:=by
 cases g with
 |fin d=>rfl
 |deal n ws=>show (w,Gm.deal n ws)::plW w 0 ws=_;rw [Jd];rfl
 |move s n ws=>show (w,Gm.move s n ws)::plW w 0 ws=_;rw [Jd];rfl
theorem wy:∀ws:Ws,szW ws=((jh ws).map szG).sum
 | .nil=>rfl
 | .cons l g r=>by show szG g+szW r=_;rw [wy r];rfl
theorem XC (g:Gm):szG g=((kids g).map szG).sum+1:=by
 cases g with
 |fin d=>rfl
 |deal n ws=>show szW ws+1=_;rw [wy];rfl
 |move s n ws=>show szW ws+1=_;rw [wy];rfl
theorem gD:∀ws:Ws,(jh ws).length=lB ws
 | .nil=>rfl
 | .cons l g r=>by show (jh r).length+1=_;rw [gD r];rfl
theorem t8:∀{ws:Ws} {g:Gm},qz ws->g∈jh ws->iB g
 | .cons l k r,g,h,hg=>by
  rcases List.mem_cons.mp hg with w | w
  ·rw [w];exact h.1
  ·exact t8 h.2 w
theorem MJ {g k:Gm}(h:iB g)(hk:k∈kids g):iB k/\(kids g).length<=100:=by
 cases g with
 |fin d=>cases hk
 |deal n ws=>exact ⟨t8 h.2 hk,by show (jh ws).length<=100;rw [gD];exact h.1⟩
 |move s n ws=>exact ⟨t8 h.2 hk,by show (jh ws).length<=100;rw [gD];exact h.1⟩
theorem yM {g:Gm}(h:iB g):(kids g).length<=100:=by
 cases g with
 |fin d=>exact Nat.zero_le _
 |deal n ws=>show (jh ws).length<=100;rw [gD];exact h.1
 |move s n ws=>show (jh ws).length<=100;rw [gD];exact h.1
theorem vZ:∀ws:Ws,bV (jt 2 (bN (hName 0) (bN (hName 1) jq))) cM (aH 1) [.un,.un] (dWs ws)=.ok ((jh ws).map dG)
 | .nil=>rfl
 | .cons l g r=>by
  have ih:=vZ r;have e:aH 1 [.fz l,.fz (dG g)]=.ok (dG g):=rfl;unfold dWs bV;simp [jt,bN,hName,jq,cM,e,ih,jh]
theorem Dj {Q:Zae}{g:Gm}(q:Q [.fz (dG g)]=.ok (.lst ((kids g).map dG))\/kids g=[]/\∃d,g=.fin d):aW 1 1 (fV Q) [dG g]=.ok (true,.lst ((kids g).map dG)):=by
 have x2:∀a b:D,atI [a,b] 0=some a:=λ_ _=>rfl;have x3:∀a b c:D,atI [a,b,c] 0=some a:=λ_ _ _=>rfl;have x4:∀a b c d:D,atI [a,b,c,d] 0=some a:=λ_ _ _ _=>rfl;cases g with
 |fin d=>simp [aW,fV,aM,gIf,aU,aD,ao,fC,gIx,dG,x2,iD,Me.let,Sl.let,fO,az,kids]
 |deal n ws=>
  rcases q with q | ⟨_,d,e⟩
  ·have q':=q;simp only [dG] at q';simp [aW,fV,aM,gIf,aU,aD,ao,fC,gIx,dG,x3,iD,Me.let,Sl.let,q',gNx]
  ·cases e
 |move s n ws=>
  rcases q with q | ⟨_,d,e⟩
  ·have q':=q;simp only [dG] at q';simp [aW,fV,aM,gIf,aU,aD,ao,fC,gIx,dG,x4,iD,Me.let,Sl.let,q',gNx]
  ·cases e
theorem wG {g:Gm}(h:iB g):eO [dG g]=.ok (true,.lst ((kids g).map dG)):=by
 have x3:∀a b c:D,atI [a,b,c] (-1)=some c:=λ_ _ _=>rfl;have x4:∀a b c d:D,atI [a,b,c,d] (-1)=some d:=λ_ _ _ _=>rfl;refine Dj ?_;cases g with
 |fin d=>exact .inr ⟨rfl,d,rfl⟩
 |deal n ws=>
  have hz:(dWs ws).length<=16777216:=by rw [xM];have:=h.1;omega
  left;simp [lD,bY,kW,aD,ao,fUn,tW,fC,gIx,dG,x3,cMe,hz,vZ,kids]
 |move s n ws=>
  have hz:(dWs ws).length<=16777216:=by rw [xM];have:=h.1;omega
  left;simp [lD,bY,kW,aD,ao,fUn,tW,fC,gIx,dG,x4,cMe,hz,vZ,kids]
theorem N5 (ks:List Gm):yG (ks.map dG)=ks.zipIdx.map λp=>D.tup [.int (p.2:Int),dG p.1]:=by
 unfold yG;rw [List.mapIdx_eq_zipIdx_map,List.zipIdx_map,List.map_map];rfl
theorem mH {α:Type}{h:Zba}{ft:Zaf}{fe:Zae}{m0:Me}{g f:α->D}:∀l:List α,(∀c∈l,∃m1,h (g c) m0=some m1/\ft m1=.ok true/\fe m1=.ok (f c))->bV h ft fe m0 (l.map g)=.ok (l.map f)
 |[],_=>rfl
 |d::ds,H=>by
  obtain ⟨m1,e1,e2,e3⟩:=H d List.mem_cons_self;have ih:=mH ds λd hd=>H d (List.mem_cons_of_mem _ hd);rw [List.map_cons];unfold bV;simp only [e1,e2,e3,ih,List.map_cons]
theorem Oe {w:List Int}{g:Gm}{a s1 s2 s4:Sl}(h:iB g)(hw:w.length<=1000):j5 [a,s1,s2,.fz (pD (w,g)),s4]=.ok (.lst ((bh w g).map pD)):=by
 have hb:=wG h;have hl:=yM h;have x0:∀a b:D,atI [a,b] 0=some a:=λ_ _=>rfl;have x1:∀a b:D,atI [a,b] 1=some b:=λ_ _=>rfl;have e:bV (jt 2 (bN (hName 0) (bN (hName 1) jq))) cM oX [.un,.un,.fz (pD (w,g))] ((kids g).zipIdx.map λp=>D.tup [.int (p.2:Int),dG p.1])=.ok ((kids g).zipIdx.map λp=>pD (w++[(p.2:Int)],p.1)):=mH _ λp hp=>by
  refine ⟨[.fz (.int (p.2:Int)),.fz (dG p.1),.fz (pD (w,g))],rfl,rfl,?_⟩;have hz:(w.map D.int).length+1<=16777216:=by rw [List.length_map];omega
  have hz':w.length+1<=16777216:=by omega
  simp [oX,aQ,aj,az,aD,ao,aH,fC,gIx,pD,x0,cN,hz']
 have hz:(kids g).length<=16777216:=by omega
 have e':((bh w g).map pD)=(kids g).zipIdx.map λp=>pD (w++[(p.2:Int)],p.1):=by unfold bh;rw [List.map_map];rfl
 rw [e'];simp only [pD] at e ⊢;simp [j5,bY,Yx,aj,az,fFn,aD,ao,fC,gIx,x1,hb,N5,cMe,Sl.bor,hz,e]
def szS (st:List (List Int×Gm)):Nat:=(st.map λp=>szG p.2).sum
theorem X4 (w:List Int)(g:Gm):szS (bh w g)+1=szG g:=by
 rw [XC];unfold szS bh;rw [List.map_map];congr 2
 have:((λp:List Int×Gm=>szG p.2) ∘ λp:Gm×Nat=>(w++[(p.2:Int)],p.1))=szG ∘ Prod.fst:=rfl
 rw [this,← List.map_map,List.zipIdx_map_fst]
theorem J0:∀st:List (List Int×Gm),st.length<=szS st
 |[]=>Nat.zero_le _
 |p::st=>by
  have:=J0 st
  have:=xJ p.2
  show st.length+1<=szG p.2+szS st;omega
theorem KZ (a b:List (List Int×Gm)):szS (a++b)=szS a+szS b:=by unfold szS;rw [List.map_append,List.sum_append]
theorem Es {t:Zaf}{b:Zab}{n:Nat}{m m':Me}{r:Res (Fl×Me)}(h1:t m=.ok true)(h2:b m=.ok (.nx,m'))(h3:wh t b n m'=some r):wh t b (n+1) m=some r:=by
 unfold wh;rw [h1,h2];exact h3
theorem CG {t:Zaf}{b:Zab}{m:Me}(h1:t m=.ok false):wh t b 1 m=some (.ok (.nx,m)):=by
 unfold wh;rw [h1]
theorem Vy {a s3 s4:Sl}{done st:List (List Int×Gm)}{w:List Int}{g:Gm}(h:iB g)(hw:w.length<=1000)(hz:done.length+st.length<=10000000):
  jY [a,.ow (.lst (done.map pD)),.ow (.lst ((((w,g)::st).map pD).reverse)),s3,s4]=.ok (.nx,[a,.ow (.lst ((done++[(w,g)]).map pD)),.ow (.lst (((bh w g++st).map pD).reverse)),.fz (pD (w,g)),.fz (.lst ((bh w g).map pD))]):=by
 have hl:=yM h;have hb:(bh w g).length=(kids g).length:=by unfold bh;simp
 have q:∀s1 s2 s4,j5 [a,s1,s2,.fz (pD (w,g)),s4]=.ok (.lst ((bh w g).map pD)):=λs1 s2 s4=>Oe h hw;have l1:((st.map pD).reverse++[pD (w,g)]).length - 1=(st.map pD).reverse.length:=by simp
 have g1:((st.map pD).reverse++[pD (w,g)])[((st.map pD).reverse++[pD (w,g)]).length - 1]? = some (pD (w,g)):=by rw [l1];simp
 have d1:((st.map pD).reverse++[pD (w,g)]).dropLast=(st.map pD).reverse:=List.dropLast_concat;have z1:done.length<16777216:=by omega
 have z2:st.length+(bh w g).length<=16777216:=by rw [hb];omega
 rw [List.map_cons,List.reverse_cons];generalize hS:(st.map pD).reverse=S at *;have lS:S.length=st.length:=by rw [← hS];simp
 have e2:((bh w g++st).map pD).reverse=S++((bh w g).map pD).reverse:=by rw [List.map_append,List.reverse_append,hS]
 rw [e2];have g1':(S++[pD (w,g)])[S.length]? = some (pD (w,g)):=by simp
 simp [jY,aM,Cz,yw,putL,fY,aH,bf,q,uY,aX,aj,az,ao,Ry,z1,lS,z2]
theorem Ua {w:List Int}{g:Gm}(h:iB g):∀p∈bh w g,iB p.2/\p.1.length=w.length+1:=λp hp=>by
 unfold bh at hp;obtain ⟨q,hq,rfl⟩:=List.mem_map.mp hp
 have:q.1∈kids g:=by have:=List.mem_map_of_mem (f:=Prod.fst) hq;rwa [List.zipIdx_map_fst] at this
 exact ⟨(MJ h this).1,by simp⟩
theorem Ug {g k:Gm}(hk:k∈kids g):dp k<dp g:=by
 have aux:∀{ws:Ws},k∈jh ws->dp k<=dpW ws:=by
  intro ws;induction ws using Ws.rec (motive_1:=λ_=>True) with
  |nil=>intro h;cases h
  |cons l g r _ ih=>
   intro h;show dp k<=max (dp g) (dpW r);rcases List.mem_cons.mp h with w | w
   ·rw [w];exact Nat.le_max_left _ _
   ·exact Nat.le_trans (ih w) (Nat.le_max_right _ _)
  |fin=>trivial
  |deal=>trivial
  |move=>trivial
 cases g with
 |fin d=>cases hk
 |deal n ws=>exact Nat.lt_succ_of_le (aux hk)
 |move s n ws=>exact Nat.lt_succ_of_le (aux hk)
theorem ZP {w:List Int}{g:Gm}:∀p∈bh w g,dp p.2<dp g:=λp hp=>by
 unfold bh at hp;obtain ⟨q,hq,rfl⟩:=List.mem_map.mp hp
 have:q.1∈kids g:=by have:=List.mem_map_of_mem (f:=Prod.fst) hq;rwa [List.zipIdx_map_fst] at this
 exact Ug this
theorem Wa (a:Sl):∀(N:Nat) (done st:List (List Int×Gm)) (s3 s4:Sl),szS st=N->(∀p∈st,iB p.2/\p.1.length+dp p.2<=100)->done.length+szS st<=10000000->
  ∃k s3' s4',wh kj jY k [a,.ow (.lst (done.map pD)),.ow (.lst ((st.map pD).reverse)),s3,s4]=some (.ok (.nx,[a,.ow (.lst ((done++st.flatMap λp=>plG p.1 p.2).map pD)),.ow (.lst []),s3',s4'])):=by
 intro N;induction N using Nat.strongRecOn with
 |_ N ih=>
  intro done st s3 s4 hN hs hz;cases st with
  |nil=>
   refine ⟨1,s3,s4,?_⟩;simp only [List.map_nil,List.reverse_nil,List.flatMap_nil,List.append_nil];exact CG (by simp [kj,aU,aX,eN,aj,az,ao,fC,gGt])
  |cons p st=>
   obtain ⟨w,g⟩:=p;have h1:iB g/\w.length+dp g<=100:=hs (w,g) (by simp);have sb:=X4 w g;have hsum:szS ((w,g)::st)=szG g+szS st:=rfl;have ls:=J0 st;have gp:=xJ g;obtain ⟨k,t3,t4,e⟩:=ih (szS (bh w g++st)) (by rw [KZ];omega) (done++[(w,g)]) (bh w g++st) (.fz (pD (w,g))) (.fz (.lst ((bh w g).map pD))) rfl (λp hp=>by
    rcases List.mem_append.mp hp with v | v
    ·have v1:=Ua h1.1 p v;have v2:=ZP p v;exact ⟨v1.1,by omega⟩
    ·exact hs p (by simp [v])) (by rw [KZ,List.length_append];simp;omega)
   refine ⟨k+1,t3,t4,?_⟩;have e3:done++((w,g)::st).flatMap (λp=>plG p.1 p.2)=done++[(w,g)]++(bh w g++st).flatMap λp=>plG p.1 p.2:=by
    rw [List.flatMap_cons,List.flatMap_append,Xv]
    simp
   rw [e3];refine Es ?_ (Vy h1.1 (by omega) (by omega)) e;simp [kj,aU,aX,eN,aj,az,ao,fC,gGt]
theorem Ib {L:Zab}{d:D}{ps:List D}{s3 s4:Sl}(e:L [.fz d,.ow (.lst []),.ow (.lst [.tup [.tup [],d]]),.un,.un]=.ok (.nx,[.fz d,.ow (.lst ps),.ow (.lst []),s3,s4])):aW 5 1 (nH L) [d]=.ok (true,.lst ps):=by
 simp [aW,nH,aM,iZ,fO,aj,az,aQ,aH,e,sG]
theorem places_eq {g:Gm}(h:iB g)(hd:dp g<=50)(hz:szG g<=10000000):lq [dG g]=.ok (true,.lst ((plG [] g).map pD)):=by
 obtain ⟨k,s3,s4,e⟩:=Wa (.fz (dG g)) _ [] [([],g)] .un .un rfl (λp hp=>by rw [List.mem_singleton.mp hp];exact ⟨h,by simp;omega⟩) (by show 0+(szG g+0)<=_;omega);have e2:=wg k e;simp only [List.nil_append,List.flatMap_cons,List.flatMap_nil,List.append_nil] at e2;exact Ib (s3:=s3) (s4:=s4) e2
def kw (w:List Int):List Kt:=w.map λi=>.k (.inl i)
theorem CJ:∀{v w:List Int},kw v=kw w->v=w
 |[],[],_=>rfl
 |[],_::_,h=>by cases h
 |_::_,[],h=>by cases h
 |a::v,b::w,h=>by
  have h:(Kt.k (.inl a):Kt)::kw v=Kt.k (.inl b)::kw w:=h;injection h with h1 h2
  injection h1 with h1
  injection h1 with h1
  rw [h1,CJ h2]
theorem WQ:∀w:List Int,qj (ktD 7) (w.map D.int)=some (kw w)
 |[]=>rfl
 |a::w=>by
  show ((ktD 7 (.int a)).bind λk=>(qj (ktD 7) (w.map D.int)).map λks=>k::ks)=_;rw [WQ w];rfl
theorem Sq (w:List Int):wj (.tup (w.map D.int))=some (kw w):=WQ w
theorem Qq {k:List Kt}:∀{ks:List (List Kt)} {ds:List D},k∉ks->dB ks ds k=none
 |[],_,_=>by simp [dB]
 |a::ks,[],_=>by simp [dB]
 |a::ks,d::ds,h=>by
  have h1:a≠k:=λe=>h (e ▸ List.mem_cons_self);have h2:k∉ks:=λe=>h (List.mem_cons_of_mem _ e);unfold dB;rw [if_neg h1,Qq h2]
theorem Hw {k k':List Kt}{d:D}:∀{ks:List (List Kt)} {ds:List D},ks.length=ds.length->k∈ks->dB ks (sO ks ds k d) k'=if k=k' then some d else dB ks ds k'
 |[],_,_,h=>by cases h
 |a::ks,[],h,_=>by simp at h
 |a::ks,x::ds,h,hk=>by
  have hl:ks.length=ds.length:=by simpa using h
  unfold sO dB;by_cases h1:a=k'
  ·rw [if_pos h1,if_pos h1];by_cases h2:a=k
   ·rw [if_pos h2,if_pos (h2 ▸ h1)]
   ·rw [if_neg h2,if_neg λe=>h2 (by rw [h1,e])]
  ·rw [if_neg h1,if_neg h1];by_cases h2:k∈ks
   ·exact Hw hl h2
   ·have h3:a=k:=by
     rcases List.mem_cons.mp hk with e | e
     ·exact e.symm
     ·exact absurd e h2
    have h4:k≠k':=λe=>h1 (by rw [h3,e]);rw [if_neg h4];have e:∀{ks:List (List Kt)} {ds:List D},k∉ks->ks.length=ds.length->sO ks ds k d=ds:=by
     intro ks;induction ks with
     |nil=>intro ds _ hl;cases ds with
      |nil=>rfl
      |cons _ _=>simp at hl
     |cons b ks ih=>intro ds hn hl;cases ds with
      |nil=>simp at hl
      |cons y ds=>
       unfold sO;rw [if_neg (λ(e:b=k)=>hn (e ▸ List.mem_cons_self)),ih (λe=>hn (List.mem_cons_of_mem _ e)) (by simpa using hl)]
    rw [e h2 hl]
theorem KC {k k':List Kt}{d:D}:∀{ks:List (List Kt)} {ds:List D},ks.length=ds.length->k∉ks->dB (ks++[k]) (ds++[d]) k'=if k=k' then some d else dB ks ds k'
 |[],[],_,_=>by simp [dB]
 |[],_::_,h,_=>by simp at h
 |a::ks,[],h,_=>by simp at h
 |a::ks,x::ds,h,hk=>by
  have ih:=KC (k:=k) (k':=k') (d:=d) (ks:=ks) (ds:=ds) (by simpa using h) λe=>hk (List.mem_cons_of_mem _ e);have hn:a≠k:=λe=>hk (e ▸ List.mem_cons_self);show dB (a::(ks++[k])) (x::(ds++[d])) k'=_;unfold dB;rw [ih];by_cases h1:a=k'
  ·rw [if_pos h1,if_neg λe=>hn (by rw [h1,e]),if_pos h1]
  ·rw [if_neg h1,if_neg h1]
theorem CT {k:List Kt}{ks:List (List Kt)}:ks.any (λx=>decide (x=k))=true↔k∈ks:=by
 rw [List.any_eq_true];constructor
 ·rintro ⟨x,hx,e⟩
  have:x=k:=by simpa using e
  rw [← this];exact hx
 ·intro h;exact ⟨k,h,by simp⟩
theorem Hq {k:List Kt}{d:D}:∀{ks:List (List Kt)} {ds:List D},ks.length=ds.length->(sO ks ds k d).length=ks.length
 |[],[],_=>rfl
 |[],_::_,h=>by simp at h
 |a::ks,[],h=>by simp at h
 |a::ks,x::ds,h=>by
  have:=Hq (k:=k) (d:=d) (ks:=ks) (ds:=ds) (by simpa using h)
  simp [sO,this]
theorem Dl {ks:List (List Kt)}{ds:List D}{k k':List Kt}{d:D}(hl:ks.length=ds.length):dB (qF ks ds k d).1 (qF ks ds k d).2 k'=if k=k' then some d else dB ks ds k':=by
 unfold qF;by_cases h:ks.any (λx=>decide (x=k))=true
 ·rw [if_pos h];exact Hw hl (CT.mp h)
 ·rw [if_neg h];exact KC hl λz=>h (CT.mpr z)
theorem T7 {ks:List (List Kt)}{ds:List D}{k:List Kt}{d:D}(hl:ks.length=ds.length):(qF ks ds k d).1.length=(qF ks ds k d).2.length/\(qF ks ds k d).1.length<=ks.length+1:=by
 unfold qF;by_cases h:ks.any (λx=>decide (x=k))=true
 ·rw [if_pos h];exact ⟨(Hq hl).symm,by simp⟩
 ·rw [if_neg h];exact ⟨by simp [hl],by simp⟩
theorem bF {h:Zba}{g:Zab}{d:D}{ds:List D}{m m1 m2:Me}(h1:h d m=some m1)(h2:g m1=.ok (.nx,m2)):bM h g (d::ds) m=bM h g ds m2:=by
 rw [bM,h1];simp only [h2]
abbrev Rc:=List D×List D
def rD2 (r:Rc):D:=.tup [.tup r.1,.tup r.2]
def rbm (s:Int)(n:Str)(r:Rc)(l:D):Rc:=if s=1 then (r.1++[.tup [.str n,l]],r.2) else (r.1,r.2++[.tup [.str n,l]])
def jr:Ws->List D
 | .nil=>[]
 | .cons l _ r=>l::jr r
def rbg:Gm->Rc->D->Rc
 | .move s n _,r,l=>rbm s n r l
 |_,r,_=>r
def wZ:Gm->Ws
 | .fin _=>.nil
 | .deal _ ws=>ws
 | .move _ _ ws=>ws
mutual
def prG:List Int->Rc->Gm->List (List Int×Gm×Rc)
 |w,r,.fin d=>[(w,.fin d,r)]
 |w,r,.deal n ws=>(w,.deal n ws,r)::prW w (λ_=>r) 0 ws
 |w,r,.move s n ws=>(w,.move s n ws,r)::prW w (rbm s n r) 0 ws
def prW:List Int->(D->Rc)->Nat->Ws->List (List Int×Gm×Rc)
 |_,_,_,.nil=>[]
 |w,f,i,.cons l g r=>prG (w++[(i:Int)]) (f l) g++prW w f (i+1) r
end
mutual
theorem Oz:∀(w:List Int) (r:Rc) (g:Gm),(prG w r g).map (λp=>(p.1,p.2.1))=plG w g
 |w,r,.fin d=>rfl
 |w,r,.deal n ws=>by
  show (w,Gm.deal n ws)::(prW w (λ_=>r) 0 ws).map _=(w,Gm.deal n ws)::plW w 0 ws;rw [Ii w _ 0 ws]
 |w,r,.move s n ws=>by
  show (w,Gm.move s n ws)::(prW w (rbm s n r) 0 ws).map _=(w,Gm.move s n ws)::plW w 0 ws;rw [Ii w _ 0 ws]
theorem Ii:∀(w:List Int) (f:D->Rc) (i:Nat) (ws:Ws),(prW w f i ws).map (λp=>(p.1,p.2.1))=plW w i ws
 |w,f,i,.nil=>rfl
 |w,f,i,.cons l g r=>by
  show (prG (w++[(i:Int)]) (f l) g++prW w f (i+1) r).map _=plG (w++[(i:Int)]) g++plW w (i+1) r;rw [List.map_append,Oz _ _ g,Ii w f (i+1) r]
end
def trD (p:List Int×Gm×Rc):D:=.tup [.tup (p.1.map D.int),dG p.2.1,rD2 p.2.2]
theorem Kd:∀(ws:Ws) (k:Nat) (l:D),(jr ws)[k]? = some l->∃g,(dWs ws)[k]? = some (.tup [l,g])
 | .nil,k,l,h=>by simp [jr] at h
 | .cons a g r,0,l,h=>by
  have:a=l:=by simpa [jr] using h
  exact ⟨dG g,by simp [dWs,this]⟩
 | .cons a g r,k+1,l,h=>by
  obtain ⟨x,e⟩:=Kd r k l (by simpa [jr] using h);exact ⟨x,by simpa [dWs] using e⟩
theorem vy:∀ws:Ws,(jr ws).length=lB ws
 | .nil=>rfl
 | .cons _ _ r=>by simp [jr,lB,vy r]
theorem ZK {g:Gm}{r:Rc}{k:Nat}{l:D}(hl:(jr (wZ g))[k]? = some l)(hg:iB g)(hr:r.1.length<=1000/\r.2.length<=1000)(hs:∀s n ws,g=.move s n ws->s=1\/s=2):
  cU [dG g,rD2 r,.int (k:Int)]=.ok (false,rD2 (rbg g r l)):=by
 have x30:∀a b c:D,atI [a,b,c] 0=some a:=λ_ _ _=>rfl;have x40:∀a b c d:D,atI [a,b,c,d] 0=some a:=λ_ _ _ _=>rfl;have x41:∀a b c d:D,atI [a,b,c,d] 1=some b:=λ_ _ _ _=>rfl;have x42:∀a b c d:D,atI [a,b,c,d] 2=some c:=λ_ _ _ _=>rfl;have x43:∀a b c d:D,atI [a,b,c,d] 3=some d:=λ_ _ _ _=>rfl;have x20:∀a b:D,atI [a,b] 0=some a:=λ_ _=>rfl;have x21:∀a b:D,atI [a,b] 1=some b:=λ_ _=>rfl;cases g with
 |fin d=>simp [wZ,jr] at hl
 |deal n ws=>simp [cU,eZ,eV,aW,aM,gIf,aU,aD,ao,fC,gIx,dG,x30,bz,aH,Me.let,Sl.let,rbg]
 |move s n ws=>
  obtain ⟨y,ey⟩:=Kd ws k l hl;have ez:=Cg ey;have z1:r.1.length+1<=16777216:=by omega
  have z2:r.2.length+1<=16777216:=by omega
  rcases hs s n ws rfl with rfl | rfl
  ·simp [cU,eZ,eV,aW,aM,gIf,aU,aD,ao,fC,gIx,dG,x40,x41,x42,x43,bz,aH,Me.let,Sl.let,rbg,gNx,bf,aQ,aj,az,ez,x20,x21,rD2,cN,z1,rbm]
  ·simp [cU,eZ,eV,aW,aM,gIf,aU,aD,ao,fC,gIx,dG,x40,x41,x42,x43,bz,aH,Me.let,Sl.let,rbg,gNx,bf,aQ,aj,az,ez,x20,x21,rD2,cN,z2,rbm]
theorem Zg (w:List Int)(j:Int):kw (w++[j])≠kw w:=λh=>by
 have:=CJ h
 have:=congrArg List.length this
 simp at this
theorem YT {w:List Int}{i j:Int}(h:i≠j):kw (w++[i])≠kw (w++[j]):=λe=>h (by simpa using CJ e)
theorem uD {g0 s2 s5:Sl}{ks:List (List Kt)}{ds:List D}{w:List Int}{g:Gm}{r:Rc}{k:Nat}{l:D}(hv:dB ks ds (kw w)=some (rD2 r))(hk:(jr (wZ g))[k]? = some l)(hg:iB g)(hr:r.1.length<=1000/\r.2.length<=1000)
  (hs:∀s n ws,g=.move s n ws->s=1\/s=2) (hz:ks.length<=10000000) (hw:w.length<=1000):
  cC [g0,.ow (.dcu ks ds),s2,.fz (.tup (w.map D.int)),.fz (dG g),.fz (.int (k:Int))]=.ok (.nx,[g0,.ow (.dcu (qF ks ds (kw (w++[(k:Int)])) (rD2 (rbg g r l))).1 (qF ks ds (kw (w++[(k:Int)])) (rD2 (rbg g r l))).2),s2,.fz (.tup (w.map D.int)),.fz (dG g),.fz (.int (k:Int))]):=by
 have e:=ZK hk hg hr hs;have z1:ks.length<16777216:=by omega
 have z2:w.length+1<=16777216:=by omega
 have kk:wj (.tup (w.map D.int++[.int (k:Int)]))=some (kw (w++[(k:Int)])):=by
  rw [← Sq];simp
 have kk2:wj (.tup (w.map D.int))=some (kw w):=Sq w;simp [cC,G4,fFn,aj,az,aH,aD,ao,Hh,dcK,kk2,hv,e,GR,aQ,cN,z2,kk,z1,tH]
theorem Hg {g0 s2:Sl}{w:List Int}{g:Gm}{r:Rc}(hg:iB g)(hr:r.1.length<=1000/\r.2.length<=1000)(hs:∀s n ws,g=.move s n ws->s=1\/s=2)(hw:w.length<=1000):
  ∀(c i:Nat) (ks:List (List Kt)) (ds:List D) (s5:Sl),i+c=(jr (wZ g)).length->ks.length=ds.length->dB ks ds (kw w)=some (rD2 r)->ks.length+c<=1000000->
   ∃ks' ds' s5',bM (hName 5) cC ((List.range' i c).map λ(k:Nat)=>D.int k) [g0,.ow (.dcu ks ds),s2,.fz (.tup (w.map D.int)),.fz (dG g),s5]=.ok (.nx,[g0,.ow (.dcu ks' ds'),s2,.fz (.tup (w.map D.int)),.fz (dG g),s5'])/\ks'.length=ds'.length/\ks'.length<=ks.length+c/\
    (∀j l,i<=j->(jr (wZ g))[j]? = some l->dB ks' ds' (kw (w++[(j:Int)]))=some (rD2 (rbg g r l)))/\(∀k',(∀j:Nat,i<=j->k'≠kw (w++[(j:Int)]))->dB ks' ds' k'=dB ks ds k')
 |0,i,ks,ds,s5,hc,hl,hv,hz=>⟨ks,ds,s5,rfl,hl,by omega,λj l h1 h2=>by
   have:=(List.getElem?_eq_some_iff.mp h2).1
   omega,λ_ _=>rfl⟩
 |c+1,i,ks,ds,s5,hc,hl,hv,hz=>by
  have hi:i<(jr (wZ g)).length:=by omega
  obtain ⟨l,el⟩:∃l,(jr (wZ g))[i]? = some l:=⟨_,List.getElem?_eq_getElem hi⟩;have st:=uD (g0:=g0) (s2:=s2) (s5:=s5) hv el hg hr hs (by omega) hw;have hv1:dB (qF ks ds (kw (w++[(i:Int)])) (rD2 (rbg g r l))).1 (qF ks ds (kw (w++[(i:Int)])) (rD2 (rbg g r l))).2 (kw w)=some (rD2 r):=by rw [Dl hl,if_neg (Zg w i)];exact hv
  obtain ⟨l1,l2⟩:=T7 (k:=kw (w++[(i:Int)])) (d:=rD2 (rbg g r l)) hl;obtain ⟨ks',ds',s5',e,a1,a2,a3,a4⟩:=Hg (g0:=g0) (s2:=s2) (w:=w) (g:=g) (r:=r) hg hr hs hw c (i+1) _ _ (.fz (.int (i:Int))) (by omega) l1 hv1 (by omega);refine ⟨ks',ds',s5',?_,a1,by omega,λj l' h1 h2=>?_,λk' h=>?_⟩
  ·rw [List.range'_succ,List.map_cons];rw [bF (m1:=[g0,.ow (.dcu ks ds),s2,.fz (.tup (w.map D.int)),.fz (dG g),.fz (.int (i:Int))]) rfl st];exact e
  ·by_cases q:i=j
   ·subst q;rw [a4 _ λj hj=>YT (by omega),Dl hl,if_pos rfl];rw [el] at h2;cases h2;rfl
   ·exact a3 j l' (by omega) h2
  ·rw [a4 k' λj hj=>h j (by omega),Dl hl,if_neg λq=>h i (Nat.le_refl _) q.symm]
mutual
def sdG:Gm->Prop
 | .fin _=>True
 | .deal _ ws=>sdW ws
 | .move s _ ws=>(s=1\/s=2)/\sdW ws
def sdW:Ws->Prop
 | .nil=>True
 | .cons _ g r=>sdG g/\sdW r
end
abbrev hPl:Zba:=jt 2 (bN (hName 3) (bN (hName 4) jq))
theorem Um (g:Gm):kids g=jh (wZ g):=by cases g<;>rfl
theorem zj {g0 s3 s4 s5:Sl}{ks:List (List Kt)}{ds found:List D}{w:List Int}{g:Gm}{r:Rc}(hl:ks.length=ds.length)(hv:dB ks ds (kw w)=some (rD2 r))(hg:iB g)(hr:r.1.length<=1000/\r.2.length<=1000)
  (hs:∀s n ws,g=.move s n ws->s=1\/s=2) (hz:ks.length<=100000) (hf:found.length<=100000) (hw:w.length<=1000):
  ∃ks' ds' s5',(hPl (pD (w,g)) [g0,.ow (.dcu ks ds),.ow (.lst found),s3,s4,s5]=some [g0,.ow (.dcu ks ds),.ow (.lst found),.fz (.tup (w.map D.int)),.fz (dG g),s5])/\
   bu [g0,.ow (.dcu ks ds),.ow (.lst found),.fz (.tup (w.map D.int)),.fz (dG g),s5]=.ok (.nx,[g0,.ow (.dcu ks' ds'),.ow (.lst (found++[trD (w,g,r)])),.fz (.tup (w.map D.int)),.fz (dG g),s5'])/\ks'.length=ds'.length/\ks'.length<=ks.length+lB (wZ g)/\
    (∀(j:Nat) (l:D),(jr (wZ g))[j]? = some l->dB ks' ds' (kw (w++[(j:Int)]))=some (rD2 (rbg g r l)))/\(∀k',(∀j:Nat,k'≠kw (w++[(j:Int)]))->dB ks' ds' k'=dB ks ds k'):=by
 have hb:=wG hg;have hk:=yM hg;have ek:(kids g).length=(jr (wZ g)).length:=by rw [Um,gD,vy]
 obtain ⟨ks',ds',s5',e,a1,a2,a3,a4⟩:=Hg (g0:=g0) (s2:=.ow (.lst (found++[trD (w,g,r)]))) (w:=w) (g:=g) (r:=r) hg hr hs hw (kids g).length 0 ks ds s5 (by omega) hl hv (by omega);refine ⟨ks',ds',s5',rfl,?_,a1,by rw [← vy,← ek];exact a2,λj l h=>a3 j l (Nat.zero_le _) h,λk' h=>a4 k' λj _=>h j⟩;have z1:found.length<16777216:=by omega
 have z3:((kids g).length:Int)<4611686018427387904:=by omega
 have kk2:wj (.tup (w.map D.int))=some (kw w):=Sq w;have eL:eY [g0,.ow (.dcu ks ds),.ow (.lst (found++[trD (w,g,r)])),.fz (.tup (w.map D.int)),.fz (dG g),s5]=.ok (.nx,[g0,.ow (.dcu ks' ds'),.ow (.lst (found++[trD (w,g,r)])),.fz (.tup (w.map D.int)),.fz (dG g),s5']):=by
  have e1:(aj (aX eN (aj (fFn eO (aj (aH 4) az)) az)) az) [g0,.ow (.dcu ks ds),.ow (.lst (found++[trD (w,g,r)])),.fz (.tup (w.map D.int)),.fz (dG g),s5]=.ok [.int ((kids g).length:Int)]:=by
   simp [aX,eN,fFn,aj,az,aH,hb]
  have e2:=yr e1 (by omega) (by omega);unfold eY g8;rw [e2];show bM (hName 5) cC ((List.range (kids g).length).map λ(k:Nat)=>D.int k) _=_;rw [List.range_eq_range'];exact e
 simp only [trD] at eL ⊢;simp [bu,aM,fY,aQ,aj,az,aH,aD,ao,Hh,dcK,kk2,hv,yw,putL,z1,eL]
theorem Ds (ws:Ws):(jh ws).length<=((jh ws).map szG).sum:=by
 induction jh ws with
 |nil=>exact Nat.zero_le _
 |cons g l ih=>have:=xJ g;simp;omega
mutual
theorem Et:∀(w:List Int) (g:Gm),(plG w g).length=szG g
 |w,.fin d=>rfl
 |w,.deal n ws=>by show (plW w 0 ws).length+1=szW ws+1;rw [Dq w 0 ws]
 |w,.move s n ws=>by show (plW w 0 ws).length+1=szW ws+1;rw [Dq w 0 ws]
theorem Dq:∀(w:List Int) (i:Nat) (ws:Ws),(plW w i ws).length=szW ws
 |w,i,.nil=>rfl
 |w,i,.cons l g r=>by show (plG (w++[(i:Int)]) g++plW w (i+1) r).length=szG g+szW r;rw [List.length_append,Et _ g,Dq w (i+1) r]
end
mutual
theorem Qk (g0:Sl):∀(g:Gm) (w:List Int) (r:Rc) (ks:List (List Kt)) (ds found:List D) (s3 s4 s5:Sl) (rest:List D),ks.length=ds.length->dB ks ds (kw w)=some (rD2 r)->iB g->sdG g->r.1.length+dp g<=1000->r.2.length+dp g<=1000->w.length+dp g<=1000->
  ks.length+szG g<=100001->found.length+szG g<=100000->
  ∃ks' ds' s3' s4' s5',bM hPl bu ((plG w g).map pD++rest) [g0,.ow (.dcu ks ds),.ow (.lst found),s3,s4,s5]=bM hPl bu rest [g0,.ow (.dcu ks' ds'),.ow (.lst (found++(prG w r g).map trD)),s3',s4',s5']/\ks'.length=ds'.length/\ks'.length+1<=ks.length+szG g/\
   (∀k',(∀u:List Int,u≠[]->k'≠kw (w++u))->dB ks' ds' k'=dB ks ds k')
 | .fin d,w,r,ks,ds,found,s3,s4,s5,rest,hl,hv,hg,hs,r1,r2,hw,hz,hf=>by
  have hsz:szG (.fin d)=1:=rfl;obtain ⟨ks',ds',s5',e1,e2,a1,a2,a3,a4⟩:=zj (g0:=g0) (s3:=s3) (s4:=s4) (s5:=s5) (found:=found) (g:=.fin d) hl hv hg ⟨by omega,by omega⟩ (λ_ _ _ z=>by cases z) (by omega) (by omega) (by omega);refine ⟨ks',ds',.fz (.tup (w.map D.int)),.fz (dG (.fin d)),s5',?_,a1,by simpa [wZ,lB,szG] using a2,λk' h=>a4 k' λj=>h [(j:Int)] (by simp)⟩;show bM hPl bu (pD (w,.fin d)::rest) _=_;rw [bF e1 e2];rfl
 | .deal n ws,w,r,ks,ds,found,s3,s4,s5,rest,hl,hv,hg,hs,r1,r2,hw,hz,hf=>by
  have hsz:szG (.deal n ws)=szW ws+1:=rfl;have hdp:dp (.deal n ws)=dpW ws+1:=rfl;have hlw:lB ws<=szW ws:=by rw [← gD,wy];exact Ds ws
  obtain ⟨ks',ds',s5',e1,e2,a1,a2,a3,a4⟩:=zj (g0:=g0) (s3:=s3) (s4:=s4) (s5:=s5) (found:=found) (g:=.deal n ws) hl hv hg ⟨by omega,by omega⟩ (λ_ _ _ z=>by cases z) (by omega) (by omega) (by omega);have a2:ks'.length<=ks.length+lB ws:=a2;obtain ⟨kt,dt,t3,t4,t5,e,b1,b2,b3⟩:=Jm g0 ws w (λ_=>r) 0 ks' ds' (found++[trD (w,.deal n ws,r)]) (.fz (.tup (w.map D.int))) (.fz (dG (.deal n ws))) s5' rest a1 (λj l h=>by rw [Nat.zero_add];exact a3 j l h) hg.2 hs (λl=>by omega) (λl=>by omega) (by omega) (by omega) (by rw [List.length_append,List.length_singleton];omega);refine ⟨kt,dt,t3,t4,t5,?_,b1,by omega,λk' h=>?_⟩
  ·show bM hPl bu (pD (w,.deal n ws)::((plW w 0 ws).map pD++rest)) _=_;rw [bF e1 e2,e];show bM _ _ _ [_,_,.ow (.lst (found++[trD (w,.deal n ws,r)]++(prW w (λ_=>r) 0 ws).map trD)),_,_,_]=bM _ _ _ [_,_,.ow (.lst (found++(trD (w,.deal n ws,r)::(prW w (λ_=>r) 0 ws).map trD))),_,_,_];rw [List.append_assoc];rfl
  ·rw [b3 k' λj u hu=>h _ (by simp),a4 k' λj=>h [(j:Int)] (by simp)]
 | .move s n ws,w,r,ks,ds,found,s3,s4,s5,rest,hl,hv,hg,hs,r1,r2,hw,hz,hf=>by
  have hsz:szG (.move s n ws)=szW ws+1:=rfl;have hdp:dp (.move s n ws)=dpW ws+1:=rfl;have hlw:lB ws<=szW ws:=by rw [← gD,wy];exact Ds ws
  obtain ⟨ks',ds',s5',e1,e2,a1,a2,a3,a4⟩:=zj (g0:=g0) (s3:=s3) (s4:=s4) (s5:=s5) (found:=found) (g:=.move s n ws) hl hv hg ⟨by omega,by omega⟩ (λ_ _ _ z=>by cases z;exact hs.1) (by omega) (by omega) (by omega);have a2:ks'.length<=ks.length+lB ws:=a2;have rl:∀l,(rbm s n r l).1.length<=r.1.length+1/\(rbm s n r l).2.length<=r.2.length+1:=λl=>by
   unfold rbm;split<;>simp
  obtain ⟨kt,dt,t3,t4,t5,e,b1,b2,b3⟩:=Jm g0 ws w (rbm s n r) 0 ks' ds' (found++[trD (w,.move s n ws,r)]) (.fz (.tup (w.map D.int))) (.fz (dG (.move s n ws))) s5' rest a1 (λj l h=>by rw [Nat.zero_add];exact a3 j l h) hg.2 hs.2 (λl=>by have:=(rl l).1;omega) (λl=>by have:=(rl l).2;omega) (by omega) (by omega) (by rw [List.length_append,List.length_singleton];omega);refine ⟨kt,dt,t3,t4,t5,?_,b1,by omega,λk' h=>?_⟩
  ·show bM hPl bu (pD (w,.move s n ws)::((plW w 0 ws).map pD++rest)) _=_;rw [bF e1 e2,e];show bM _ _ _ [_,_,.ow (.lst (found++[trD (w,.move s n ws,r)]++(prW w (rbm s n r) 0 ws).map trD)),_,_,_]=bM _ _ _ [_,_,.ow (.lst (found++(trD (w,.move s n ws,r)::(prW w (rbm s n r) 0 ws).map trD))),_,_,_];rw [List.append_assoc];rfl
  ·rw [b3 k' λj u hu=>h _ (by simp),a4 k' λj=>h [(j:Int)] (by simp)]
theorem Jm (g0:Sl):∀(ws:Ws) (w:List Int) (f:D->Rc) (i:Nat) (ks:List (List Kt)) (ds found:List D) (s3 s4 s5:Sl) (rest:List D),ks.length=ds.length->(∀(j:Nat) (l:D),(jr ws)[j]? = some l->dB ks ds (kw (w++[((i+j:Nat):Int)]))=some (rD2 (f l)))->qz ws->sdW ws->
  (∀l,(f l).1.length+dpW ws<=1000)->(∀l,(f l).2.length+dpW ws<=1000)->w.length+1+dpW ws<=1000->ks.length+szW ws<=100000+lB ws->found.length+szW ws<=100000->
  ∃ks' ds' s3' s4' s5',bM hPl bu ((plW w i ws).map pD++rest) [g0,.ow (.dcu ks ds),.ow (.lst found),s3,s4,s5]=bM hPl bu rest [g0,.ow (.dcu ks' ds'),.ow (.lst (found++(prW w f i ws).map trD)),s3',s4',s5']/\ks'.length=ds'.length/\ks'.length+lB ws<=ks.length+szW ws/\
   (∀k',(∀(j:Nat) (u:List Int),u≠[]->k'≠kw (w++((i+j:Nat):Int)::u))->dB ks' ds' k'=dB ks ds k')
 | .nil,w,f,i,ks,ds,found,s3,s4,s5,rest,hl,hv,hg,hs,r1,r2,hw,hz,hf=>⟨ks,ds,s3,s4,s5,by simp [plW,prW],hl,by simp [lB,szW],λ_ _=>rfl⟩
 | .cons l g r,w,f,i,ks,ds,found,s3,s4,s5,rest,hl,hv,hg,hs,r1,r2,hw,hz,hf=>by
  have hsz:szW (.cons l g r)=szG g+szW r:=rfl;have hdp:dpW (.cons l g r)=max (dp g) (dpW r):=rfl;have hlw:lB (.cons l g r)=lB r+1:=rfl;have hl2:lB r<=szW r:=by rw [← gD,wy];exact Ds r
  have hp:=xJ g;have q1:=r1 l;have q2:=r2 l;obtain ⟨ks',ds',t3,t4,t5,e,a1,a2,a3⟩:=Qk g0 g (w++[(i:Int)]) (f l) ks ds found s3 s4 s5 ((plW w (i+1) r).map pD++rest) hl (hv 0 l rfl) hg.1 hs.1 (by omega) (by omega) (by rw [List.length_append,List.length_singleton];omega) (by omega) (by omega);have pl:(prG (w++[(i:Int)]) (f l) g).length=szG g:=by rw [← List.length_map (f:=λp=>(p.1,p.2.1)),Oz];exact Et _ g
  obtain ⟨kt,dt,u3,u4,u5,e',b1,b2,b3⟩:=Jm g0 r w f (i+1) ks' ds' (found++(prG (w++[(i:Int)]) (f l) g).map trD) t3 t4 t5 rest a1 (λj l' h=>by
   rw [a3 _ λu hu z=>?_,← hv (j+1) l' (by simpa [jr] using h),show i+(j+1)=i+1+j by omega]
   have:=CJ z
   simp at this;omega) hg.2 hs.2 (λl=>by have:=r1 l;omega) (λl=>by have:=r2 l;omega) (by omega) (by omega) (by rw [List.length_append,List.length_map,pl];omega)
  refine ⟨kt,dt,u3,u4,u5,?_,b1,by omega,λk' h=>?_⟩
  ·show bM _ _ ((plG (w++[(i:Int)]) g++plW w (i+1) r).map pD++rest) _=_;rw [List.map_append,List.append_assoc,e,e'];show _=bM _ _ _ [_,_,.ow (.lst (found++(prG (w++[(i:Int)]) (f l) g++prW w f (i+1) r).map trD)),_,_,_];rw [List.map_append,List.append_assoc]
  ·rw [b3 k' λj u hu=>by have:=h (j+1) u hu;rw [show i+(j+1)=i+1+j by omega] at this;exact this];refine a3 k' λu hu=>?_
   have:=h 0 u hu
   simpa using this
end
theorem U8 {L:Zab}{d:D}{ps:List D}{a s3 s4 s5:Sl}(e:L [.fz d,.ow (.dcu [[]] [rD2 ([],[])]),.ow (.lst []),.un,.un,.un]=.ok (.nx,[.fz d,a,.ow (.lst ps),s3,s4,s5])):aW 6 1 (dR L) [d]=.ok (true,.lst ps):=by
 have k0:wj (.tup [])=some []:=rfl;simp only [rD2] at e;simp [aW,dR,aM,iZ,IW,aQ,az,aj,k0,fO,e,sG]
theorem Yz {g:Gm}(h:iB g)(hs:sdG g)(hd:dp g<=50)(hz:szG g<=10000):cP [dG g]=.ok (true,.lst ((prG [] ([],[]) g).map trD)):=by
 have e:=places_eq h hd (by omega);obtain ⟨ks',ds',s3',s4',s5',e2,_⟩:=Qk (.fz (dG g)) g [] ([],[]) [[]] [rD2 ([],[])] [] .un .un .un [] rfl (by simp [dB,kw]) h hs (by simp;omega) (by simp;omega) (by simp;omega) (by simp;omega) (by simp;omega);refine U8 (a:=.ow (.dcu ks' ds')) (s3:=s3') (s4:=s4') (s5:=s5') ?_;have e1:jA (fFn lq (aj (aH 0) az)) [.fz (dG g),.ow (.dcu [[]] [rD2 ([],[])]),.ow (.lst []),.un,.un,.un]=.ok ((plG [] g).map pD):=by
  simp [jA,fFn,aj,az,aH,e]
 unfold iC g8;rw [e1];rw [List.append_nil] at e2;exact e2
def W7 (r:Rc)(s:Int):List D:=if s=1 then r.1 else r.2
def pC (s:Int)(n:Str)(ws:Ws)(r:Rc):D:=.tup [.int s,.str n,.tup (jr ws),.tup (W7 r s)]
theorem BJ:∀ws:Ws,bV (jt 2 (bN (hName 0) (bN (hName 1) jq))) cM (aH 0) [.un,.un] (dWs ws)=.ok (jr ws)
 | .nil=>rfl
 | .cons l g r=>by
  have ih:=BJ r;have e:aH 0 [.fz l,.fz (dG g)]=.ok l:=rfl;unfold dWs bV;simp [jt,bN,hName,jq,cM,e,ih,jr]
theorem O5 {s:Int}{n:Str}{ws:Ws}(h:lB ws<=100):mV [dG (.move s n ws)]=.ok (false,.tup (jr ws)):=by
 have x4:∀a b c d:D,atI [a,b,c,d] 3=some d:=λ_ _ _ _=>rfl;have hz:(jr ws).length<=16777216:=by rw [vy];omega
 have hz2:(dWs ws).length<=16777216:=by rw [xM];omega
 have e:qw [.fz (dG (.move s n ws))]=.ok (.lst (jr ws)):=by
  simp [qw,bY,kW,aD,ao,fC,gIx,dG,x4,cMe,BJ,hz,hz2]
 simp [mV,tV,uA,aW,bz,aX,aj,az,Me.let,Sl.let,e,jB,hz]
theorem YM {s:Int}{n:Str}{ws:Ws}{r:Rc}(h:lB ws<=100)(hs:s=1\/s=2):o7 [dG (.move s n ws),rD2 r]=.ok (false,pC s n ws r):=by
 have e:=O5 (s:=s) (n:=n) h;have x1:∀a b c d:D,atI [a,b,c,d] 1=some b:=λ_ _ _ _=>rfl;have x2:∀a b c d:D,atI [a,b,c,d] 2=some c:=λ_ _ _ _=>rfl;have y0:∀a b:D,atI [a,b] 0=some a:=λ_ _=>rfl;have y1:∀a b:D,atI [a,b] 1=some b:=λ_ _=>rfl;simp only [dG] at e;rcases hs with rfl | rfl
 ·simp [o7,vg,uI,aW,bz,Me.let,Sl.let,aQ,aj,az,aD,ao,fC,gIx,dG,x1,x2,fFn,aH,e,rD2,F.v5,y0,y1,pC,W7]
 ·simp [o7,vg,uI,aW,bz,Me.let,Sl.let,aQ,aj,az,aD,ao,fC,gIx,dG,x1,x2,fFn,aH,e,rD2,F.v5,y0,y1,pC,W7]
abbrev Tb:=List (List Kt)×List D
def kn (s:Int)(n:Str):List Kt:=[.k (.inl s),.k (.inr n)]
def tst (T:Tb)(p:List Int×Gm×Rc):Tb:=match p.2.1 with
 | .move s n ws=>if (dB T.1 T.2 (kn s n)).isSome then T else (T.1++[kn s n],T.2++[pC s n ws p.2.2])
 |_=>T
def tbl (l:List (List Int×Gm×Rc)):Tb:=l.foldl tst ([],[])
theorem Vb (T:Tb)(p:List Int×Gm×Rc):(tst T p).1.length<=T.1.length+1:=by
 unfold tst;split
 ·split<;>simp
 ·omega
def okP (p:List Int×Gm×Rc):Prop:=match p.2.1 with
 | .move s _ ws=>(s=1\/s=2)/\lB ws<=100
 |_=>True
theorem Qu {g0 s2 s3 s4:Sl}{T:Tb}{p:List Int×Gm×Rc}(hp:okP p)(hz:T.1.length<=100000):∃m1,jt 3 (bN (hName 2) (bN (hName 3) (bN (hName 4) jq))) (trD p) [g0,.ow (.dcu T.1 T.2),s2,s3,s4]=some m1/\
  fJ m1=.ok (.nx,[g0,.ow (.dcu (tst T p).1 (tst T p).2),.fz (.tup (p.1.map D.int)),.fz (dG p.2.1),.fz (rD2 p.2.2)]):=by
 refine ⟨[g0,.ow (.dcu T.1 T.2),.fz (.tup (p.1.map D.int)),.fz (dG p.2.1),.fz (rD2 p.2.2)],rfl,?_⟩;obtain ⟨w,g,r⟩:=p;have x20:∀a b:D,atI [a,b] 0=some a:=λ_ _=>rfl;have x30:∀a b c:D,atI [a,b,c] 0=some a:=λ_ _ _=>rfl;have x40:∀a b c d:D,atI [a,b,c,d] 0=some a:=λ_ _ _ _=>rfl;have x41:∀a b c d:D,atI [a,b,c,d] 1=some b:=λ_ _ _ _=>rfl;have x42:∀a b c d:D,atI [a,b,c,d] 2=some c:=λ_ _ _ _=>rfl;cases g with
 |fin d=>simp [fJ,gIf,aU,aD,ao,fC,gIx,dG,x20,gNx,tst]
 |deal n ws=>simp [fJ,gIf,aU,aD,ao,fC,gIx,dG,x30,gNx,tst]
 |move s n ws=>
  have hp:(s=1\/s=2)/\lB ws<=100:=hp;have e:=YM (n:=n) (r:=r) hp.2 hp.1;simp only [dG] at e;have kk:wj (.tup [.int s,.str n])=some (kn s n):=rfl;have z1:T.1.length<16777216:=by omega
  by_cases q:(dB T.1 T.2 (kn s n)).isSome=true
  ·simp [fJ,gIf,aU,aD,ao,fC,gIx,dG,x40,x41,x42,Ui,GR,aQ,aj,az,fFn,aH,e,kk,z1,tst,q,tH]
  ·simp [fJ,gIf,aU,aD,ao,fC,gIx,dG,x40,x41,x42,Ui,GR,aQ,aj,az,fFn,aH,e,kk,z1,tst,q,tH]
theorem Fx {g0:Sl}:∀(l:List (List Int×Gm×Rc)) (T:Tb) (s2 s3 s4:Sl),(∀p∈l,okP p)->T.1.length+l.length<=100000->∃s2' s3' s4',bM (jt 3 (bN (hName 2) (bN (hName 3) (bN (hName 4) jq)))) fJ (l.map trD) [g0,.ow (.dcu T.1 T.2),s2,s3,s4]=.ok (.nx,[g0,.ow (.dcu (l.foldl tst T).1 (l.foldl tst T).2),s2',s3',s4'])
 |[],T,s2,s3,s4,_,_=>⟨s2,s3,s4,rfl⟩
 |p::l,T,s2,s3,s4,hp,hz=>by
  have hz':T.1.length+(l.length+1)<=100000:=hz;obtain ⟨m1,e1,e2⟩:=Qu (g0:=g0) (s2:=s2) (s3:=s3) (s4:=s4) (T:=T) (hp p List.mem_cons_self) (by omega)
  have:=Vb T p
  obtain ⟨a,b,c,e⟩:=Fx l (tst T p) (.fz (.tup (p.1.map D.int))) (.fz (dG p.2.1)) (.fz (rD2 p.2.2)) (λq hq=>hp q (List.mem_cons_of_mem _ hq)) (by omega);exact ⟨a,b,c,by rw [List.map_cons,bF e1 e2,e];rfl⟩
theorem tab_run {L:Zab}{d:D}{ks:List (List Kt)}{ds:List D}{s2 s3 s4:Sl}(e:L [.fz d,.ow (.dcu [] []),.un,.un,.un]=.ok (.nx,[.fz d,.ow (.dcu ks ds),s2,s3,s4])):aW 5 1 (qu L) [d]=.ok (true,.lst ds):=by
 simp [aW,qu,aM,iZ,GK,e,iD,Me.let,Sl.let,Ik,ao]
mutual
theorem WT:∀(w:List Int) (r:Rc) (g:Gm),iB g->sdG g->∀p∈prG w r g,okP p
 |w,r,.fin d,_,_,p,hp=>by
  have:p=(w,.fin d,r):=by simpa [prG] using hp
  rw [this];exact True.intro
 |w,r,.deal n ws,h,hs,p,hp=>by
  rcases List.mem_cons.mp (show p∈(w,Gm.deal n ws,r)::prW w (λ_=>r) 0 ws from hp) with e | e
  ·rw [e];exact True.intro
  ·exact HH w _ 0 ws h.2 hs p e
 |w,r,.move s n ws,h,hs,p,hp=>by
  rcases List.mem_cons.mp (show p∈(w,Gm.move s n ws,r)::prW w (rbm s n r) 0 ws from hp) with e | e
  ·rw [e];exact ⟨hs.1,h.1⟩
  ·exact HH w _ 0 ws h.2 hs.2 p e
theorem HH:∀(w:List Int) (f:D->Rc) (i:Nat) (ws:Ws),qz ws->sdW ws->∀p∈prW w f i ws,okP p
 |w,f,i,.nil,_,_,p,hp=>by cases hp
 |w,f,i,.cons l g r,h,hs,p,hp=>by
  rcases List.mem_append.mp (show p∈prG (w++[(i:Int)]) (f l) g++prW w f (i+1) r from hp) with e | e
  ·exact WT _ _ g h.1 hs.1 p e
  ·exact HH w f (i+1) r h.2 hs.2 p e
end
theorem Sd (w:List Int)(r:Rc)(g:Gm):(prG w r g).length=szG g:=by rw [← List.length_map (f:=λp=>(p.1,p.2.1)),Oz];exact Et _ g
theorem table_eq {g:Gm}(h:iB g)(hs:sdG g)(hd:dp g<=50)(hz:szG g<=10000):qe [dG g]=.ok (true,.lst (tbl (prG [] ([],[]) g)).2):=by
 have e:=Yz h hs hd hz;obtain ⟨a,b,c,e2⟩:=Fx (g0:=.fz (dG g)) (prG [] ([],[]) g) ([],[]) .un .un .un (WT _ _ g h hs) (by rw [Sd];simp;omega);refine tab_run (ks:=(tbl (prG [] ([],[]) g)).1) (s2:=a) (s3:=b) (s4:=c) ?_;have e1:jA (fFn cP (aj (aH 0) az)) [.fz (dG g),.ow (.dcu [] []),.un,.un,.un]=.ok ((prG [] ([],[]) g).map trD):=by
  simp [jA,fFn,aj,az,aH,e]
 unfold uZ g8;rw [e1];exact e2
end Pk
namespace F
open PySem L2 Hd
def rq (r:Rat):Q2:=(r.num,(r.den:Int))
def rD (r:Rat):D:=qD (rq r)
theorem yl (r:Rat):rD r=.tup [.int r.num,.int r.den]:=rfl
theorem lJ (r:Rat):1<=(r.den:Int):=by have:=r.den_pos;omega
theorem Jp (r:Rat):gI r.num r.den=1:=by
 unfold gI
 have:=r.reduced
 unfold Nat.Coprime at this;show ((Int.gcd r.num (r.den:Int):Nat):Int)=1;unfold Int.gcd;simp [this]
theorem JC {t b:Int}(hb:b≠0):(lt t b,lb t b)=rq (Rat.divInt t b):=by
 have h:=Rat.num_divInt_den (Rat.divInt t b);have hd:((Rat.divInt t b).den:Int)≠0:=by have:=lJ (Rat.divInt t b);omega
 have h2:=(Rat.divInt_eq_divInt_iff hd hb).mp h;obtain ⟨z1,z2⟩:=Yc hb (lJ (Rat.divInt t b)) (Jp (Rat.divInt t b)) (t:=t) h2.symm;exact Prod.ext z1 z2
theorem Pn (r:Rat):Rat.divInt r.num r.den=r:=Rat.num_divInt_den r
theorem WX (a b:Rat):Rat.divInt (a.num*b.den+b.num*a.den) (a.den*b.den)=a+b:=by
 have ha:=lJ a;have hb:=lJ b;rw [← Rat.divInt_add_divInt _ _ (by omega) (by omega),Pn,Pn]
def Sz (k:Nat)(r:Rat):Prop:=r.num.natAbs<2 ^ k/\r.den<2 ^ k
theorem IK {t b:Int}{k:Nat}(hb:b≠0)(h1:t.natAbs<2 ^ k)(h2:b.natAbs<2 ^ k):Sz k (Rat.divInt t b):=by
 have e:=JC (t:=t) hb;have e1:=congrArg Prod.fst e;have e2:=congrArg Prod.snd e;have e1:lt t b=(Rat.divInt t b).num:=e1;have e2:lb t b=((Rat.divInt t b).den:Int):=e2;have l1:=ZR (t:=t) hb;have l2:=aae (t:=t) hb;rw [e1] at l1;rw [e2] at l2;exact ⟨by omega,by omega⟩
theorem Xb {a b:Rat}{k l:Nat}(ha:Sz k a)(hb:Sz l b):Sz (k+l+1) (a+b):=by
 rw [← WX];have pa:=lJ a;have pb:=lJ b;have h1:(a.num*b.den).natAbs<2 ^ (k+l):=DQ ha.1 (by simpa using hb.2);have h2:(b.num*a.den).natAbs<2 ^ (k+l):=by rw [Nat.add_comm];exact DQ hb.1 (by simpa using ha.2)
 have h3:((a.den:Int)*b.den).natAbs<2 ^ (k+l):=DQ (by simpa using ha.2) (by simpa using hb.2);refine IK ?_ (Yp h1 h2) (vC h3 (by omega));exact Int.mul_ne_zero (by omega) (by omega)
theorem J7:Sz 1 0:=⟨by decide,by decide⟩
theorem Ky {k:Nat}{r:Rat}(h:Sz k r)(hk:k<=4000):Bq r.num/\Bq (r.den:Int):=⟨J9 (vC h.1 (by omega)),J9 (vC (by simpa using h.2) (by omega))⟩
theorem Yt {k l:Nat}{a b:Rat}(h:Sz k a)(g:Sz l b)(hk:k+l<=4000):Bq ((a.den:Int)*b.den):=J9 (vC (DQ (by simpa using h.2) (by simpa using g.2)) (by omega))
theorem QJ (a b:Rat):(a.den:Int)*b.den≠0:=Int.mul_ne_zero (by have:=lJ a;omega) (by have:=lJ b;omega)
end F
namespace Pk
open PySem L2 Hd F
theorem VG (x y:Sl):∀(n:Nat) (a b:Int) (z:Sl),b.toNat=n->0<=a->0<=b->∃k z',wh iz ik k [x,y,.fz (.int a),.fz (.int b),z] =
  some (.ok (.nx,[x,y,.fz (.int (gI a b)),.fz (.int 0),z'])):=by
 intro n;induction n using Nat.strongRecOn with
 |_ n ih=>
  intro a b z hn ha hb;by_cases h0:b=0
  ·subst h0;refine ⟨1,z,?_⟩;rw [J4 ha];exact CG rfl
  ·have hb':0<b:=by omega
   have hm:=Int.emod_lt_of_pos a hb';have hm0:=Int.emod_nonneg a h0;obtain ⟨k,z',e⟩:=ih (a % b).toNat (by omega) b (a % b) (.fz (.int (a % b))) rfl hb hm0;rw [J5 ha hb'] at e;refine ⟨k+1,z',Es (m':=[x,y,.fz (.int b),.fz (.int (a % b)),.fz (.int (a % b))]) ?_ ?_ e⟩
   ·simp [iz,aU,ao,fC,h0]
   ·simp [ik,aM,bf,aD,ao,aH,iy,mdI,h0,hb']
theorem gK (a b:Int):cR [.int a,.int b]=.ok (false,.int (gI a b)):=by
 obtain ⟨k,z',e⟩:=VG (.fz (.int a)) (.fz (.int b)) _ (if a<0 then -a else a) (if b<0 then -b else b) .un rfl (by split<;>omega) (by split<;>omega);rw [XJ] at e;have e2:=wg k e;simp [cR,aW,jD,jQ,mX,aM,bf,aX,aj,az,ao,V9,e2,bz,Me.let,Sl.let,aH]
theorem Wl {i:Int}{k:Nat}(h:i.natAbs<2 ^ k)(hk:k<=4000:=by decide):Bq i:=J9 (vC h (by omega))
theorem rE {t b:Int}(hb:b≠0)(hB:Bq b):fj [.int t,.int b]=.ok (false,.tup [.int (lt t b),.int (lb t b)]):=by
 have hd:=K3 (t:=t) hb;have hB':Bq (dv t b):=by
  have h1:=Wv (a:=t) hb;have h2:=Sv t b;unfold Bq at hB ⊢;omega
 have e1:dvI t (dv t b)=lt t b:=by
  unfold dvI lt;split
  ·rw [Int.fdiv_eq_ediv_of_nonneg t (by omega)]
  ·rfl
 have e2:dvI b (dv t b)=lb t b:=by
  unfold dvI lb;split
  ·rw [Int.fdiv_eq_ediv_of_nonneg b (by omega)]
  ·rfl
 by_cases h:b<0
 ·have e:dv t b=-gI t b:=if_pos h;rw [e] at e1 e2 hd hB';have hg:gI t b≠0:=by omega
  simp [hg,fj,aW,vd,uK,aM,bf,fFn,aj,az,aH,ao,gK,gIf,aU,fC,gLt,h,fUn,tW,bz,Me.let,Sl.let,aQ,aD,vB,hB',e1,e2]
 ·have e:dv t b=gI t b:=if_neg h;rw [e] at e1 e2 hd hB';have hg:gI t b≠0:=by omega
  simp [hg,fj,aW,vd,uK,aM,bf,fFn,aj,az,aH,ao,gK,gIf,aU,fC,gLt,h,gNx,bz,Me.let,Sl.let,aQ,aD,vB,hB',e1,e2,hd]
theorem ix0 {a b:D}:atI [a,b] 0=some a:=rfl
theorem ix1 {a b:D}:atI [a,b] 1=some b:=rfl
theorem JF {t b:Int}(hb:b≠0)(hB:Bq b):fj [.int t,.int b]=.ok (false,rD (Rat.divInt t b)):=by
 rw [rE hb hB];have e:=JC (t:=t) hb;show _=Res.ok (false,qD (rq (Rat.divInt t b)));rw [← e];rfl
theorem Rq {a b:Rat}{k l:Nat}(ha:Sz k a)(hb:Sz l b)(hk:k+l<=4000):o5 [rD a,rD b]=.ok (false,rD (a+b)):=by
 obtain ⟨a1,a2⟩:=Ky ha (by omega);obtain ⟨b1,b2⟩:=Ky hb (by omega);have e:=JF (t:=a.num*b.den+b.num*a.den) (QJ a b) (Yt ha hb hk);rw [WX] at e;simp [o5,aW,CK,De,bz,Me.let,Sl.let,fFn,aj,az,aD,ao,fC,gIx,yl,ix0,ix1,lO,cN,a1,a2,b1,b2];rw [e];simp [yl]
theorem Nt {a b:Rat}{k l:Nat}(ha:Sz k a)(hb:Sz l b)(hk:k+l<=4000):uE [rD a,rD b]=.ok (false,.bl (decide (a.num*b.den<b.num*a.den))):=by
 obtain ⟨a1,a2⟩:=Ky ha (by omega);obtain ⟨b1,b2⟩:=Ky hb (by omega);simp [uE,aW,BW,Dn,bz,Me.let,Sl.let,qG,aj,az,aD,ao,fC,gIx,yl,ix0,ix1,lO,a1,a2,b1,b2,gLt]
theorem Fw {a:Sl}(k:Nat):∀(l:List Rat) (q:Rat) (j:Nat) (s2:Sl),Sz j q->(∀x∈l,Sz k x)->j+l.length*(k+1)<=2000->k<=2000->
  ∃s2',bM (hName 2) wA (l.map rD) [a,.fz (rD q),s2]=.ok (.nx,[a,.fz (rD (q+l.sum)),s2'])
 |[],q,j,s2,_,_,_,_=>⟨s2,by simp [bM,Rat.add_zero]⟩
 |x::l,q,j,s2,hq,hl,hj,hk=>by
  have hx:=hl x List.mem_cons_self;have hj':j+(l.length+1)*(k+1)<=2000:=hj;rw [Nat.add_mul] at hj';have e:=Rq hq hx (by omega);obtain ⟨s2',e'⟩:=Fw k l (q+x) (j+k+1) (.fz (rD x)) (Xb hq hx) (λy hy=>hl y (List.mem_cons_of_mem _ hy)) (by omega) hk;refine ⟨s2',?_⟩;rw [List.map_cons,bF (m1:=[a,.fz (rD q),.fz (rD x)]) (m2:=[a,.fz (rD (q+x)),.fz (rD x)]) rfl (by simp [wA,bf,fFn,aj,az,aH,e]),e',List.sum_cons,Rat.add_assoc]
theorem NT {l:List Rat}{k:Nat}(hl:∀x∈l,Sz k x)(hj:1+l.length*(k+1)<=2000)(hk:k<=2000):uJ [.lst (l.map rD)]=.ok (false,rD l.sum):=by
 obtain ⟨s2',e⟩:=Fw (a:=.fz (.lst (l.map rD))) k l 0 1 .un J7 hl hj hk;have e0:rD 0=.tup [.int 0,.int 1]:=rfl;rw [Rat.zero_add,e0] at e;simp [uJ,aW,Dt,Dd,Bk,aM,bf,fC,g8,jA,aH,ao,e,bz,Me.let,Sl.let]
theorem An {α:Type}{f:α->D}{b:α->Bool}:∀l:List α,(∀x∈l,f x=.bl (b x))->pG (l.map f)=some (l.map b)
 |[],_=>rfl
 |x::l,h=>by
  have ih:=An l λy hy=>h y (List.mem_cons_of_mem _ hy);simp [pG,h x List.mem_cons_self,ih]
def sdD:D->Int
 | .tup [.int s,_,_,_]=>s
 |_=>0
def wdD:D->Nat
 | .tup [_,_,.tup ws,_]=>ws.length
 |_=>0
def K8 (d:D):Prop:=∃s n ws r,d=pC s n ws r
theorem wV {h:Zba}{ft:Zaf}{fe:Zae}{m0:Me}(P:D->Bool):∀ds:List D,(∀d∈ds,∃m1,h d m0=some m1/\ft m1=.ok (P d)/\fe m1=.ok d)->bV h ft fe m0 ds=.ok (ds.filter P)
 |[],_=>rfl
 |d::ds,H=>by
  obtain ⟨m1,e1,e2,e3⟩:=H d List.mem_cons_self;have ih:=wV P ds λd hd=>H d (List.mem_cons_of_mem _ hd);unfold bV;rw [List.filter_cons];by_cases q:P d=true
  ·simp only [e1,e2,q,e3,ih,if_pos]
  ·have q':P d=false:=by simpa using q
   simp only [e1,e2,q',ih]
   simp
theorem KQ:∀(l:List (List Int×Gm×Rc)) (T:Tb) (d:D),d∈(l.foldl tst T).2->d∈T.2\/∃p∈l,∃s n ws,p.2.1=.move s n ws/\d=pC s n ws p.2.2
 |[],T,d,h=>.inl h
 |p::l,T,d,h=>by
  rcases KQ l (tst T p) d h with e | ⟨q,hq,e⟩
  ·unfold tst at e;split at e
   ·rename_i s n ws ep;split at e
    ·exact .inl e
    ·rcases List.mem_append.mp e with e | e
     ·exact .inl e
     ·exact .inr ⟨p,List.mem_cons_self,s,n,ws,ep,by simpa using e⟩
   ·exact .inl e
  ·exact .inr ⟨q,List.mem_cons_of_mem _ hq,e⟩
theorem BR {l:List (List Int×Gm×Rc)}{d:D}(h:d∈(tbl l).2):K8 d:=by
 rcases KQ l ([],[]) d h with e | ⟨p,_,s,n,ws,_,e⟩
 ·cases e
 ·exact ⟨s,n,ws,p.2.2,e⟩
theorem J6 {g:Gm}{s:Int}(h:iB g)(hs:sdG g)(hd:dp g<=50)(hz:szG g<=10000):iJ [dG g,.int s]=.ok (true,.lst ((tbl (prG [] ([],[]) g)).2.filter λd=>decide (sdD d=s))):=by
 have e:=table_eq h hs hd hz;have ec:bV (hName 0) (aU gEq (aD gIx (ao 0) (fC (.int 0))) (ao 1)) (aH 0) [.un,.fz (.int s)] (tbl (prG [] ([],[]) g)).2=.ok ((tbl (prG [] ([],[]) g)).2.filter λd=>decide (sdD d=s)):=wV _ _ λd hd=>by
  obtain ⟨a,n,ws,r,rfl⟩:=BR hd;refine ⟨[.fz (pC a n ws r),.fz (.int s)],rfl,?_,rfl⟩;have x0:∀a b c d:D,atI [a,b,c,d] 0=some a:=λ_ _ _ _=>rfl;simp [aU,aD,ao,fC,gIx,pC,x0,sdD];exact decide_eq_decide.mpr Iff.rfl
 have z1:(tbl (prG [] ([],[]) g)).2.length<=16777216:=by
  have:∀(l:List (List Int×Gm×Rc)) (T:Tb),(l.foldl tst T).2.length<=T.2.length+l.length:=by
   intro l;induction l with
   |nil=>intro T;simp
   |cons p l ih=>
    intro T
    have:=ih (tst T p)
    have q:(tst T p).2.length<=T.2.length+1:=by
     unfold tst;split
     ·split<;>simp
     ·omega
    simp only [List.foldl_cons,List.length_cons];omega
  have:=this (prG [] ([],[]) g) ([],[])
  rw [Sd] at this;simp at this;have e:tbl (prG [] ([],[]) g)=(prG [] ([],[]) g).foldl tst ([],[]):=rfl;rw [e];omega
 have eq:qX [.fz (dG g),.fz (.int s)]=.ok (.lst ((tbl (prG [] ([],[]) g)).2.filter λd=>decide (sdD d=s))):=by
  simp [qX,bY,jA,fFn,aj,az,aH,e,cMe,Sl.bor,ec,z1]
 simp [iJ,vR,vW,aW,iD,Me.let,Sl.let,eq]
theorem Lq {α:Type}{f:α->D}{l:List α}(h:∀x∈l,f x=.bl true):Hn [.lst (l.map f)]=some (.bl true):=by
 have:=An (b:=λ_=>true) l h
 show (pG (l.map f)).map (λbs=>D.bl (bs.all id))=_;rw [this]
 simp
end Pk
namespace Lw
open PySem L2 Hd F Pk
section
def iU:Zab:=
 (aM (gIf (aU gLt (ao 1) (aX eN (aj (ao 0) az))) (bz (aD gIx (ao 0) (ao 1))) gNx)
 (bz (fC (.int 0))))
def iQ:Zab:=
 iU
def cY:Zac:=aW 2 2 iQ
end
section
variable {e:En}{A:Addr×Addr}{a r dep:Nat}{N:Nd}{m:Int×Int}{rc:Rc}
end
section
variable {e:En}{A:Addr×Addr}{a r dep:Nat}{N:Nd}{m:Int×Int}{rc:Rc}{x y:Int}
end
theorem cell_eq (ns:List Int)(k:Nat)(hz:ns.length<=1000):∃v:Int,cY [.lst (ns.map D.int),.int (k:Int)]=.ok (false,.int v):=by
 by_cases h:k<ns.length
 ·have e1:atI (ns.map D.int) (k:Int)=some (.int ns[k]):=Cg (by rw [List.getElem?_map,List.getElem?_eq_getElem h];rfl);have h':(k:Int)<(ns.length:Int):=by omega
  exact ⟨ns[k],by simp [cY,iQ,iU,aW,aM,gIf,aU,ao,aX,eN,aj,az,gLt,h,h',bz,Me.let,Sl.let,aD,gIx,e1]⟩
 ·have h':¬(k:Int)<(ns.length:Int):=by omega
  exact ⟨0,by simp [cY,iQ,iU,aW,aM,gIf,aU,ao,aX,eN,aj,az,gLt,h,h',bz,Me.let,Sl.let,gNx,fC]⟩
def ss:List Nat:=[97,98,99,100,101,102,103,104,105,106,107,108,109,110,111,112,113,114,115,116,117,118,119,120,121,122,48,49,50,51,52,53,54,55,56,57]
theorem Xa:Str.ofString "abcdefghijklmnopqrstuvwxyz0123456789" = tx ss:=by decide +kernel
theorem Zu:ss.Nodup:=by decide
def sgn (i:Int):Nat:=ss.getD i.toNat 0
theorem La {i:Int}(h:0<=i/\i<36):sgn i∈ss:=by
 have hl:i.toNat<ss.length:=by show i.toNat<36;omega
 unfold sgn;rw [List.getD_eq_getElem?_getD,List.getElem?_eq_getElem hl];exact List.getElem_mem hl
theorem JV {i j:Int}(h:0<=i/\i<36)(h':0<=j/\j<36)(e:sgn i=sgn j):i=j:=by
 have hl:i.toNat<ss.length:=by show i.toNat<36;omega
 have hl':j.toNat<ss.length:=by show j.toNat<36;omega
 unfold sgn at e;rw [List.getD_eq_getElem?_getD,List.getElem?_eq_getElem hl,List.getD_eq_getElem?_getD,List.getElem?_eq_getElem hl'] at e
 have:=(List.getElem_inj (h₀:=hl) (h₁:=hl') Zu).mp e
 omega
theorem WD {i:Int}(h:0<=i/\i<36):gIx (.str "abcdefghijklmnopqrstuvwxyz0123456789") (.int i)=some (.str (tx [sgn i])):=by
 show gIx (.str (Str.ofString "abcdefghijklmnopqrstuvwxyz0123456789")) _=_;rw [Xa];have hl:i.toNat<ss.length:=by show i.toNat<36;omega
 have e:atI ss i=some (sgn i):=by
  have:=Cg (xs:=ss) (j:=i.toNat) (List.getElem?_eq_getElem hl)
  rw [show ((i.toNat:Nat):Int)=i by omega] at this;rw [this];unfold sgn;rw [List.getD_eq_getElem?_getD,List.getElem?_eq_getElem hl];rfl
 show (if (tx ss).length<=sizeLine then (atI (tx ss).cps.toList i).map λc=>D.str ⟨#[c]⟩ else none)=_;rw [if_pos (by rw [bR];decide),dO,e];rfl
end Lw
namespace F
open PySem PySem.Spec PyProof.Rows L2 Hd
section
variable {X:Cx}{E:XK}{e o:Expr}{g:Zae}{c f:Str}{fs:List Str}{pos pos' np:Pos}
end
section
variable {X:Cx}{E:XK}{j k:Nat}{c m:Str}{ps:List Str}{Φ:Zac}{apos pos:Pos}{o e:Expr}{es:List Expr}{f0:Zae}{fs:Zad}{pl:Sem Bool}
end
section
variable {P:Program}{w:World}{K:W.Frag}{mg:Zp}{base:Heap}
end
section
variable {X:Cx}{E:XK}{jj k:Nat}{c m x:Str}{ps:List Str}{Φ:List D->D->Addr×D->Res (D×D×D)}{apos pos np:Pos}{e:Expr}{es:List Expr}{fs:Zad}{pl:Sem Bool}
end
section
variable {X:Cx}{E:XK}{e:Expr}{g:Zae}{k:Zab}{c f x kn vn:Str}{fs:List Str}{pos pos' pos2 pos3 spos np np2 kp vp:Pos}{rest:List Stmt}
end
section
variable {X:Cx}{E:XK}{e:Expr}{g:Zae}{c f x:Str}{fs:List Str}{pos pos' np:Pos}
end
section
variable {P:Program}{w:World}{K:W.Frag}{mg:Zp}{base:Heap}
end
section
variable {G:Gx}{O0 M0:Zaa}{H0 H H':Hp}{ow:Os}{σ:L2.St}{m:Me}
end
section
variable {X:Cx}{E:XK}{jj k:Nat}{c f y:Str}{ps:List Str}{Φ:List D->Res (List Str×List D×D)}{py pos cpos np:Pos}{e:Expr}{es:List Expr}{fs:Zad}{rest:List Stmt}{kk:Zab}
end
end F
namespace Hd
open PySem L2
end Hd
namespace F
open PySem L2 Hd
section
variable {X:Cx}{E:XK}{es:List Expr}{b:Expr}{fs:Zad}{fa fb:Zae}{pos:Pos}
end
open PySem PySem.Spec PyProof.Rows L2 Hd
section
variable {G:Gx}{O:Zaa}{H0 H H' H1:Hp}
end
section
variable {G:Gx}{O0 M0:Zaa}{H0 H H':Hp}{ow:Os}{σ:L2.St}{m:Me}
end
section
variable {X:Cx}{E:XK}{is:List Nat}{e:Expr}{es:List Expr}{x:Str}{np pos pos':Pos}{fa:Zae}{fs:Zad}
end
section
variable {X:Cx}{E:XK}{j k:Nat}{c m:Str}{ps:List Str}{Φ:Zac}{apos pos:Pos}{o e:Expr}{es:List Expr}{f0:Zae}{fs:Zad}{pl:Sem Bool}
end
section
variable {X:Cx}{E:XK}{jj k:Nat}{x y:Str}{ps:List Str}{Φ:Zac}{py pos cpos np:Pos}{e:Expr}{es:List Expr}{fs:Zad}{rest:List Stmt}{kk:Zab}
end
section
variable {X:Cx}{E:XK}{j k:Nat}{x:Str}{ps:List Str}{Φ:Zac}{p pos:Pos}{e:Expr}{es:List Expr}{fa:Zae}{fs:Zad}
end
section
variable {X:Cx}{E:XK}{b e:Expr}{fb f:Zae}{pos apos cpos:Pos}
end
section
variable {X:Cx}{E:XK}{b e:Expr}{fb f:Zae}{pos apos cpos:Pos}
end
section
variable {X:Cx}{E:XK}{e:Expr}{f:Zae}{p pos:Pos}
end
section
variable {X:Cx}
end
section
variable {X:Cx}{E:XK}{b e ke:Expr}{fb f fk:Zae}{pos spos:Pos}
end
section
variable {G:Gx}{O:Zaa}{H0 H H' H1:Hp}
end
section
variable {G:Gx}{O0 M0:Zaa}{H0 H H':Hp}{ow:Os}{σ:L2.St}{m:Me}
end
section
variable {X:Cx}{E:XK}{e:Expr}{es:List Expr}{fa:Zae}{fs:Zad}
end
section
variable {X:Cx}{E:XK}{y:Str}{py pos lp:Pos}{es:List Expr}{fs:Zad}{rest:List Stmt}{kk:Zab}
end
section
variable {X:Cx}
end
section
variable {pr:Program}{wo:World}{Ar:Around}{Ex:Zs}{st:Shared}
end
section
variable {pr:Program}{wo:World}{Ar:Around}{Ex:Zs}{st:Shared}
end
section
variable {X:Cx}
end
end F
namespace Pk
open PySem L2 Hd F
section
def zH:Zab:=
 (bz (vH (jo "int" (ao 0)) (Uh (jo "bool" (ao 0)))))
def zu:Zab:=
 zH
def ql:Zac:=aW 1 1 zu
def t7 (φ_is_whole:Zac)(φ_common_divisor:Zac):Zab:=
 (aM (gIf (gP (cJ (fTv (jo "tuple" (ao 0)))) (aU gNe (aX eN (aj (ao 0) az)) (fC (.int 2)))) (bz (fC (.bl false))) gNx)
 (aM (gIf (gP (cJ (fTv (fFn φ_is_whole (aj (aD gIx (ao 0) (fC (.int 0))) az)))) (cJ (fTv (fFn φ_is_whole (aj (aD gIx (ao 0) (fC (.int 1))) az))))) (bz (fC (.bl false))) gNx)
 (bz (vH (qG gGe (aD gIx (ao 0) (fC (.int 1))) (fC (.int 1))) (qG gEq (fFn φ_common_divisor (aj (aD gIx (ao 0) (fC (.int 0))) (aj (aD gIx (ao 0) (fC (.int 1))) az))) (fC (.int 1)))))))
def ur:Zab:=
 (t7 ql cR)
def mW:Zac:=aW 1 1 ur
def Dr (φ_lowest:Zac):Zab:=
 (bz (fFn φ_lowest (aj (aD lO (aD gIx (ao 0) (fC (.int 0))) (aD gIx (ao 1) (fC (.int 0)))) (aj (aD lO (aD gIx (ao 0) (fC (.int 1))) (aD gIx (ao 1) (fC (.int 1)))) az))))
def Dk:Zab:=
 (Dr fj)
def lN:Zac:=aW 2 2 Dk
def gH:Zae:=
 (vH (fFn mW (aj (aH 0) az)) (Uh (fFn uE (aj (aH 0) (aj (fC (.tup [(.int 0),(.int 1)])) az)))))
def gO:Zae:=
 (bY 1 [] (kW (aH 0)) (hName 0) cM gH)
def iR (φ_total:Zac)(l_2:Zae):Zab:=
 (aM (gIf (gP (cJ (fTv (jo "tuple" (ao 0)))) (aU gNe (aX eN (aj (ao 0) az)) (ao 1))) (bz (fC (.bl false))) gNx)
 (aM (gIf (cJ (fTv (aX Hn (aj l_2 az)))) (bz (fC (.bl false))) gNx)
 (bz (qG gEq (fFn φ_total (aj (aX Ou (aj (ao 0) az)) az)) (fC (.tup [(.int 1),(.int 1)]))))))
def iM:Zab:=
 (iR uJ gO)
def dq:Zac:=aW 2 2 iM
def ig:Zae:=
 (vH (qG UJ (aD gIx (ao 0) (fC (.int 1))) (ao 1)) (fFn dq (aj (aD qy (ao 1) (aD gIx (ao 0) (fC (.int 1)))) (aj (aX eN (aj (aD gIx (ao 0) (fC (.int 2))) az)) az))))
def lH:Zae:=
 (bY 1 [1] (jA (ao 0)) (hName 0) cM ig)
def oF (l_2:Zae):Zab:=
 (aM (gIf (gP (cJ (fTv (jo "dict" (ao 1)))) (aU gNe (aX eN (aj (ao 1) az)) (aX eN (aj (ao 0) az)))) (bz (fC (.bl false))) gNx)
 (bz (aX Hn (aj l_2 az))))
def oV:Zab:=
 (oF lH)
def gY:Zac:=aW 2 2 oV
def vY (φ_rows_of:Zac)(φ_is_plan_for:Zac):Zab:=
 (bz (fFn φ_is_plan_for (aj (fFn φ_rows_of (aj (aH 0) (aj (aH 1) az))) (aj (aH 2) az))))
def vN:Zab:=
 (vY iJ gY)
def o8:Zac:=aW 3 3 vN
def jL (φ_is_plan:Zac):Zab:=
 (gIf (cJ (fTv (fFn φ_is_plan (aj (aH 0) (aj (aH 1) (aj (aH 2) az)))))) qO gNx)
def jG:Zab:=
 (jL o8)
def cT:Zac:=aW 3 3 jG
end
theorem aas (a b c d:Int):gEq (.tup [.int a,.int b]) (.tup [.int c,.int d])=some (decide (a=c) && decide (b=d)):=by
 have s:∀x y:Int,SeqAt.shaped (.tuple [.int x,.int y])=true:=λ_ _=>rfl;simp [gEq,pK,toPy,uU,s,PyData.eqv,PyData.eqvAll];rfl
theorem aaD (x y:Rat):gEq (rD x) (rD y)=some (decide (x=y)):=by
 show gEq (.tup [.int x.num,.int x.den]) (.tup [.int y.num,.int y.den])=_;rw [aas];congr 1;by_cases h:x=y
 ·subst h;simp
 ·rw [decide_eq_false h];cases e:(decide (x.num=y.num) && decide ((x.den:Int)=y.den)) with
  |false=>rfl
  |true=>
   simp at e;exact absurd (Rat.ext e.1 (by exact_mod_cast e.2)) h
def nmR:D->Str
 | .tup [_,.str n,_,_]=>n
 |_=>⟨#[]⟩
theorem JG {x:Rat}:mW [rD x]=.ok (false,.bl true):=by
 have x0:∀a b:D,atI [a,b] 0=some a:=λ_ _=>rfl;have x1:∀a b:D,atI [a,b] 1=some b:=λ_ _=>rfl;have w:∀i:Int,ql [.int i]=.ok (false,.bl true):=λ_=>rfl;have e:=gK x.num x.den;rw [Jp] at e;have g1:=lJ x;have l2:eN [.tup [.int x.num,.int x.den]]=some (.int 2):=rfl;have it:jo "tuple" (ao 0) [.fz (.tup [.int x.num,.int x.den])]=.ok (.bl true):=rfl;rw [yl];simp [mW,aW,ur,t7,aM,gIf,gP,cJ,fTv,it,aU,aX,aj,az,ao,l2,fC,gNe,gNx,fFn,aD,gIx,x0,x1,w,bz,Me.let,Sl.let,vH,qG,gGe,g1,e]
theorem Qa {S:Nat}(hS:S<=100){l:List Rat}{c:Nat}(h1:l.length=c)(h2:∀x∈l,0<=x.num/\Sz S x)(h3:l.sum=1)(h4:l.length<=6):dq [.tup (l.map rD),.int c]=.ok (false,.bl true):=by
 have et:=NT (k:=S) (λx hx=>(h2 x hx).2) (by have:l.length*(S+1)<=6*101:=Nat.mul_le_mul h4 (by omega);omega) (by omega);rw [h3] at et;have ec:bV (hName 0) cM gH [.un] (l.map rD)=.ok (l.map λ_=>.bl true):=mH l λx hx=>by
  refine ⟨[.fz (rD x)],rfl,rfl,?_⟩;have eu:=Nt (h2 x hx).2 J7 (by omega);have e0:rD 0=.tup [.int 0,.int 1]:=rfl;have q:¬(x.num*(0:Rat).den<(0:Rat).num*x.den):=by
   have:=(h2 x hx).1
   show ¬(x.num*1<0*(x.den:Int));omega
  rw [e0,decide_eq_false q] at eu;have er:=JG (x:=x);simp [gH,vH,Uh,fFn,aj,az,fC,aH,eu,er,fTv]
 have z1:l.length<=16777216:=by omega
 have eq:gO [.fz (.tup (l.map rD)),.fz (.int c)]=.ok (.lst (l.map λ_=>.bl true)):=by
  simp [gO,bY,kW,aH,cMe,ec,z1]
 have ea:=Lq (f:=λ_:Rat=>D.bl true) (l:=l) λ_ _=>rfl;have e1:rD 1=.tup [.int 1,.int 1]:=rfl;have eg:gEq (rD 1) (.tup [.int 1,.int 1])=some true:=by rw [← e1,aaD];simp
 have ln:eN [.tup (l.map rD)]=some (.int c):=by simp [eN,h1]
 have it:jo "tuple" (ao 0) [.fz (.tup (l.map rD)),.fz (.int c)]=.ok (.bl true):=rfl;have gl:Ou [.tup (l.map rD)]=some (.lst (l.map rD)):=rfl;simp [dq,iM,iR,aW,aM,gIf,gP,cJ,fTv,it,aU,aX,aj,az,ao,ln,gNe,gNx,eq,ea,bz,Me.let,Sl.let,qG,fFn,gl,et,fC,eg]
abbrev rowsOf (g:Gm)(s:Int):List D:=(tbl (prG [] ([],[]) g)).2.filter λd=>decide (sdD d=s)
end Pk
namespace Lw
open PySem L2 Hd F Pk
section
end
end Lw
namespace F
open PySem PySem.Spec PyProof.Rows L2 Hd
section
variable {X:Cx}{E:XK}{e ke:Expr}{f fk:Zae}{fa:Me->Res (D×Me)}{x:Str}{np apos cpos pos spos:Pos}
end
section
variable {X:Cx}
variable {E:XK}{a b:Expr}{pos:Pos}{fa fb:Zae}
end
section
variable {A:Type}{p:List A->Prop}
theorem xb1 (h:∀a,p [a])(us:List A)(e:us.length=1):p us:=by
 cases us with
 |nil=>cases e
 |cons a t=>cases t with
  |nil=>exact h a
  |cons _ _=>cases e
theorem xb0 {n:Nat}(h:∀a t,t.length=n->p (a::t))(us:List A)(e:us.length=n+1):p us:=by
 cases us with
 |nil=>cases e
 |cons a t=>exact h a t (Nat.succ.inj e)
theorem xb2 (h:∀a b,p [a,b]):∀us:List A,us.length=2->p us:=xb0 λa=>xb1 (p:=λt=>p (a::t)) (h a)
theorem xb3 (h:∀a b c,p [a,b,c]):∀us:List A,us.length=3->p us:=xb0 λa=>xb2 (p:=λt=>p (a::t)) (h a)
end
structure QD (K:W.Frag)(x:Str)(st:Stmt):Prop where
 ex:∃f fd,Fun K x x st f fd/\W.nsIn K mainGlobals x=some (some (.ref f))
section
variable {P:Program}{w:World}{K:W.Frag}{mg:Zp}{base h:Heap}{x q c:Str}{st:Stmt}{ps:List Str}{C f:Addr}{oc:Value}{od an:Option Addr}{osl:Array (Option Value)}{kV doc pm cdv ct:Value}{k:Nat}{sp:Sp}
theorem qd (a:W.nsIn K mainGlobals x=some (some (.ref f)))(l:K.lookup f=some ⟨oc,od,.func (W.fnOf x x (pP st) (mq st) (aJ st) .none kV doc pm an cdv ct),osl⟩)(c:W.codeIn K cdv x=true)(k:W.keepIn K (.ref f)=true):QD K x st:=⟨f,_,Yd l c k,a⟩
theorem QD.df (Q:QD K x st)(X:K.In h)(G:h.Ns mainGlobals mg)(hb:∀(kV doc pm:Value) (an:Option Addr) (cdv ct:Value) (us:List Value),us.length=ps.length->bindArgs (W.fnOf x x (pP st) (mq st) (aJ st) .none kV doc pm an cdv ct) ⟨us,[]⟩=pure (ps.zip us)):Df K mg x st ps:=by
 obtain ⟨f,fd,F,a⟩:=Q.ex;exact ⟨f,fd,F,F.binds hb,W.mg_of X G a⟩
end
section
variable {X:Cx}{E:XK}{e a b tg iter:Expr}{body:List Stmt}{f fa fb:Zae}{fi:Zad}{g:Zab}{h:Zba}{pos pos':Pos}{i:Nat}{x:Str}
end
section
variable {P:Program}{w:World}{K:W.Frag}{mg:Zp}{base:Heap}{x:Str}{st:Stmt}{N ps:List Str}{k:Nat}{g:Zab}{i j:Int}
end
section
variable {X:Cx}{E:XK}{e tg:Expr}{f:Zae}
end
section
variable {X:Cx}{pins:Zl}{σ:L2.St}{H:Hp}{s:Shared}
end
end F
namespace Pk
open PySem L2 Hd F
section
end
end Pk
namespace F
open PySem PySem.Spec PyProof.Rows L2 Hd
section
variable {X:Cx}{tg:Expr}
end
section
variable {X:Cx}
end
section
variable {X:Cx}{E:XK}{a:Expr}{fa:Zae}{y:Str}{pos p py:Pos}
end
end F
namespace Hd
open PySem PySem.Spec PyProof.Rows L2
section
variable {X:Cx}{i j k:Nat}{x:Str}{ps:List Str}{sp:Sp}{p pos:Pos}{e:Expr}{es:List Expr}{t:TA}{f:Addr}{fd:FuncData}
end
end Hd
namespace F
open PySem PySem.Spec PyProof.Rows L2 Hd
section
variable {X:Cx}{E:XK}{i j k l:Nat}{x y z:Str}{ps qs:List Str}{p pos cpos:Pos}{e:Expr}{es:List Expr}{fs:Zad}{Φ Ψ:Zac}{a b:Addr}
end
section
variable {X:Cx}{tg:Expr}
end
def Sw (a:Addr)(kvs:List (Key×V))(H H':Hp):Prop:=(∀b,b≠a->H' b=H b)/\Rd H a (.dK kvs)/\Rd H' a (.dK kvs)
section
variable {G:Gx}{O:Zaa}{H H':Hp}{a:Addr}{kvs:List (Key×V)}
theorem zz (w:Sw a kvs H H'){b:Addr}{u:HO}(e:H b=some u)(n:u≠.dK kvs)(n':∀o,u≠.frz o (.dK kvs)):H' b=some u:=by
 by_cases q:b=a
 ·subst q;rcases w.2.1 with z | ⟨o,z⟩
  ·exact absurd (Option.some.inj (e.symm.trans z)) n
  ·exact absurd (Option.some.inj (e.symm.trans z)) (n' o)
 ·rw [w.1 b q];exact e
theorem Z8 (w:Sw a kvs H H'){b:Addr}{k:List (Key×V)}(e:Rd H b (.dK k)):Rd H' b (.dK k):=by
 by_cases q:b=a
 ·subst q
  have:k=kvs:=by
   rcases w.2.1 with z | ⟨o,z⟩<;>rcases e with e | ⟨o',e⟩<;>cases e.symm.trans z<;>rfl
  rw [this];exact w.2.2
 ·exact e.imp (λe=>by rw [w.1 b q];exact e) λ⟨o,e⟩=>⟨o,by rw [w.1 b q];exact e⟩
theorem Yn {K:W.Frag}(w:Sw a kvs H H'){b:Addr}{xs:List V}(h:SqU K H b xs):SqU K H' b xs:=h.imp (λe=>zz w e (λz=>nomatch z) λ_ z=>nomatch z) id
theorem Yb {K:W.Frag}(w:Sw a kvs H H'){b:Addr}{xs:List V}(h:LstAt K O H b xs):LstAt K O H' b xs:=h.imp (λ⟨n,e⟩=>⟨n,e.imp (λe=>zz w e (λz=>nomatch z) λ_ z=>nomatch z) λ⟨o,e⟩=>⟨o,zz w e (λz=>nomatch z) λ_ z=>nomatch z⟩⟩) id
mutual
theorem DV.sw (w:Sw a kvs H H'):∀{v:V} {d:D},DV G O H v d->DV G O H' v d
 |_,_,.non=>.non
 |_,_,.bl b=>.bl b
 |_,_,.int i=>.int i
 |_,_,.str x=>.str x
 |_,_,.adr a=>.adr a
 |_,_,.exc h e=>.exc h (zz w e (λz=>nomatch z) λ_ z=>nomatch z)
 |_,_,.tup h hs=>.tup (Yn w h) (DVs.sw w hs)
 |_,_,.lst h hs=>.lst (Yb w h) (DVs.sw w hs)
 |_,_,.dct n e x y hs=>.dct n (Z8 w e) x y (DVs.sw w hs)
 |_,_,.dcu n e x y hs=>.dcu n (zz w e (λz=>nomatch z) λ_ z=>nomatch z) x y (DVs.sw w hs)
 |_,_,.dcf e x y hs=>.dcf (zz w e (λz=>nomatch z) λ_ z=>nomatch z) x y (DVs.sw w hs)
 |_,_,.ins n c e x y hs=>.ins n c (zz w e (λz=>nomatch z) λ_ z=>nomatch z) x y (DVs.sw w hs)
theorem DVs.sw (w:Sw a kvs H H'):∀{vs:List V} {ds:List D},DVs G O H vs ds->DVs G O H' vs ds
 |_,_,.nil=>.nil
 |_,_,.cons h hs=>.cons (DV.sw w h) (DVs.sw w hs)
end
theorem OV.sw (w:Sw a kvs H H'){c:Addr}{d:D}(n:c≠a)(h:OV G O H c d):OV G O H' c d:=by
 have e:=w.1 c n;cases d with
 |lst ds=>obtain ⟨xs,h1,h2⟩:=h;exact ⟨xs,e.trans h1,h2.sw w⟩
 |dct ks ds=>obtain ⟨k,vs,h1,h2,h3,h4⟩:=h;exact ⟨k,vs,e.trans h1,h2,h3,h4.sw w⟩
 |dcu ks ds=>obtain ⟨k,vs,h1,h2,h3,h4⟩:=h;exact ⟨k,vs,e.trans h1,h2,h3,h4.sw w⟩
 |ins c ns ds=>obtain ⟨C,dx,k,vs,h0,h1,h2,h3,h4⟩:=h;exact ⟨C,dx,k,vs,h0,e.trans h1,h2,h3,h4.sw w⟩
 |_=>exact h
theorem dW.sw {O0 M0:Zaa}{H0 H0':Hp}{ow:Os}{σ:L2.St}{m:Me}(R:dW G O0 M0 H0 ow σ H m)(w:Sw a kvs H H')(na:¬Ow O0 ow a)(h0:∀b,H0 b=none->H0' b=none)(kp:Kp M0 H0' H'):dW G O0 M0 H0' ow σ H' m:=by
 have ne:∀i c,ow i=some c->c≠a:=λi c e z=>na (.inr ⟨i,z ▸ e⟩);refine ⟨⟨R.len,kp,λb z q=>?_,λb z=>?_,R.no0,R.inj,R.out,λi sl e=>?_⟩,R.nb⟩
 ·by_cases e:b=a
  ·subst e;exact Ra w.2.2 q
  ·rw [w.1 b e] at q;exact R.m0 b z q
 ·rw [w.1 b λe=>na (e ▸ z)];exact R.mutk b z
 ·have sl0:=R.slot i sl e;cases sl with
  |un=>exact sl0
  |fz d=>obtain ⟨w1,x,w2,w3⟩:=sl0;exact ⟨w1,x,w2,w3.sw w⟩
  |ow d=>obtain ⟨c,w1,w2,w3,w4⟩:=sl0;exact ⟨c,w1,h0 _ w2,w3,w4.sw w (ne i c w1)⟩
  |io d=>obtain ⟨c,w1,w2,w3,w4⟩:=sl0;exact ⟨c,w1,w2,w3,w4.sw w (ne i c w1)⟩
  |bw d=>exact (R.nb i d e).elim
  |hd t c d=>obtain ⟨w1,w2,w3,w4⟩:=sl0;exact ⟨w1,λz=>h0 _ (w2 z),w3,w4.sw w (ne i c w1)⟩
end
section
variable {X:Cx}{pins:Zl}{s:Shared}{σ:L2.St}{H:Hp}{a:Addr}{kvs:List (Key×V)}{o:Obj}
theorem RK (I:Inv X pins σ H s)(e:H a=some (.dK kvs)):∃o,Inv X pins σ (L2.upd H a (.frz o (.dK kvs))) s:=by
 have ok:=I.hok a _ e;obtain ⟨z,y,xs,r,o,es,ep,h1,rest⟩:=id ok;refine ⟨o,I.write (x:=a) (e:=a) (t':=s.toks) (h':=s.heap) (by rw [e];exact True.intro) (.inl rfl) (λb u _ q=>q) ⟨o,h1⟩ ⟨h1,?_⟩⟩;refine ok.stay (λ_ _ _ q=>q) (λb q=>?_) λb ys q=>?_
 ·rw [bc (yH q e (λz=>nomatch z))];exact q
 ·rw [bc (yH q e (λz=>nomatch z))];exact q
theorem Gv (I:Inv X pins σ H s)(e:H a=some (.frz o (.dK kvs)))(nf:∀o u,X.H₀ a≠some (.frz o u)):Inv X pins σ (L2.upd H a (.dK kvs)) s:=by
 have nn:∀b,H b=none->b≠a:=λb n z=>by rw [z,e] at n;cases n
 have ot:∀b u,H b=some u->(∀o,u≠.frz o (.dK kvs))->L2.upd H a (.dK kvs) b=some u:=λb u q n=>by
  have:b≠a:=λz=>by rw [z,e] at q;exact n o (Option.some.inj q).symm
  rw [bc this];exact q
 refine ⟨I.ok,I.os,I.bare,⟨I.base.keep,I.base.slot,λb u q n x=>?_,I.base.there,λb xs q=>?_,λb u t q=>?_,λb ps q=>?_⟩,I.loc,I.cell,?_,λx c q=>?_,λp q=>?_,λb u q=>?_,I.len⟩
 ·have z:=I.base.free b u q n x;rw [bc (nn b z)];exact z
 ·exact ot b _ (I.base.tups b xs q) λ_ z=>nomatch z
 ·have:b≠a:=λz=>nf u t (z ▸ q)
  rw [bc this];exact I.base.frzs b u t q
 ·obtain ⟨m,z⟩:=I.base.tbls b ps q;exact ⟨m,ot b _ z λ_ z=>nomatch z⟩
 ·rw [bc (nn _ I.free)];exact I.free
 ·rw [bc (nn _ (I.freeC x c q))];exact I.freeC x c q
 ·obtain ⟨p1,p2,p3⟩:=I.pin p q;exact ⟨p1,by rw [bc (nn _ p2)];exact p2,p3⟩
 ·have st:∀b u,cD X.prog X.w H s.heap b u->cD X.prog X.w (L2.upd H a (.dK kvs)) s.heap b u:=λb u k=>k.stay (λ_ _ _ q=>q) (λc q=>ot c _ q λ_ z=>nomatch z) λc ys q=>ot c _ q λ_ z=>nomatch z
  by_cases z:b=a
  ·subst z;rw [aV] at q;cases q;exact st _ _ (I.hok _ _ e).2
  ·rw [bc z] at q;exact st _ _ (I.hok b u q)
def RM (a:Addr)(o:Obj)(kvs:List (Key×V))(W:Ends):Ends:=⟨λσ H=>H a=some (.frz o (.dK kvs))/\W.nx σ (L2.upd H a (.dK kvs)),λv H=>H a=some (.frz o (.dK kvs))/\W.rt v (L2.upd H a (.dK kvs)),λ_ _=>False,λ_ _=>False⟩
theorem TY {W:Ends}(nf:∀o u,X.H₀ a≠some (.frz o u)){f:Flow}{s':Shared}(h:SP X pins (RM a o kvs W) f s'):SP X pins W f s':=by
 cases f with
 |next=>obtain ⟨σ',H',I,e,q⟩:=h;exact ⟨σ',_,Gv I e nf,q⟩
 |brk=>obtain ⟨σ',H',I,q⟩:=h;exact q.elim
 |cont=>obtain ⟨σ',H',I,q⟩:=h;exact q.elim
 |ret u=>obtain ⟨v,σ',H',I,r,e,q⟩:=h;exact ⟨v,σ',_,Gv I e nf,r,q⟩
end
def noX (r:Res (Fl×Me)):Res (Fl×Me):=match r with
 | .ok (.nx,m)=>.ok (.nx,m)
 | .ok (.rt false d,m)=>.ok (.rt false d,m)
 |_=>.stuck
def Rp (fd:List Key->List D->List D)(i:Nat)(h:Zba)(g:Zab):Zab:=λm=>match m[i]? with
 |some (.fz (.dct ks ds))=>noX (bM h g (fd ks ds) m)
 |_=>.stuck
def RC (i:Nat)(J:Addr->Obj->List (Key×V)->It):TI:=λσ H R=>∃a o kvs,σ[i]? = some (some (.ref a))/\H a=some (.frz o (.dK kvs))/\∀H1,aL H H1->R (J a o kvs) H1
def Lg (G:Gx)(fd:List Key->List D->List D)(J:Addr->Obj->List (Key×V)->It):Prop:=∀(O:Zaa) (H:Hp) (a:Addr) (o:Obj) (kvs:List (Key×V)) (ds:List D),(∀b,O b->fH (H b))->H a=some (.frz o (.dK kvs))->DVs G O H (kvs.map (·.2)) ds->tZ G (J a o kvs) (fd (kvs.map (·.1)) ds) (λO' H2=>Ev O H O' H2)
theorem FZ {X:Cx}{E:XK}{k:Nat}{h:Zba}{g:Zab}{O0 M0:Zaa}{H0 H H1:Hp}{ow:Os}{σ:L2.St}{m:Me}{W:Ends}{ds:List D}{J:It}(R:dW (gx X) O0 M0 H0 ow σ H m)(q:Ss (gx X) E O0 M0 H0 ow H W (bM h g ds m))(g1:aL H H1)(it:tZ (gx X) J ds (λO' H2=>Ev (Ow O0 ow) H1 O' H2)):
  ∃V:Nat->Nat->L2.St->Hp->Prop,(∃n,V 0 n σ H1)/\∀(i n:Nat) (σ:L2.St) (H:Hp),V i n σ H->
   (J.stop i H/\W.nx σ H)\/(J.go i H/\∃N:L2.St->Hp->Prop,(∀σ' H',N σ' H'->∃n',n'<n/\V (i+1) n' σ' H')/\∀x H',J.yld i H x H'->tG (gx X) k h x σ H' λ(σ2:L2.St) H2=>tS (gx X) E g { W with nx:=N,ct:=N,bk:=W.nx } σ2 H2):=by
 have R1:=R.mono g1;have q1:=Ss.go q (Go.refl g1);generalize hr:bM h g ds m=r at *;refine ⟨λi n σ' H'=>∃ow' m',dW (gx X) O0 M0 H0 ow' σ' H' m'/\Go O0 ow H1 ow' H'/\n=ds.length-i/\i<=ds.length/\bM h g (ds.drop i) m'=r,⟨_,ow,m,R1,Go.refl (aL.refl _),rfl,Nat.zero_le _,hr⟩,?_⟩;rintro i n σ2 H2 ⟨ow2,m2,R2,g2,rfl,hi,e2⟩;obtain ⟨i1,i2,i3⟩:=it _ H2 g2.ev;by_cases hlt:i<ds.length
 ·refine .inr ⟨i1 i hlt,λσ' H'=>∃ow' m',dW (gx X) O0 M0 H0 ow' σ' H' m'/\Go O0 ow H1 ow' H'/\bM h g (ds.drop (i+1)) m'=r,λσ' H' ⟨ow',m',R',g',e'⟩=>⟨ds.length-(i+1),by omega,ow',m',R',g',rfl,hlt,e'⟩,λx H3 y=>?_⟩;obtain ⟨s3,d,hd,dv⟩:=i2 i x H3 hlt y;have ed:ds.drop i=d::ds.drop (i+1):=by
   rw [List.drop_eq_getElem_cons hlt];rw [List.getElem?_eq_getElem hlt] at hd;cases hd;rfl
  rw [ed] at e2;unfold bM at e2;cases eh:h d m2 with
  |none=>rw [eh] at e2;subst e2;exact q1.elim
  |some m3=>
   rw [eh] at e2;refine ⟨O0,M0,H0,ow2,m2,d,m3,(R2.mono s3).toRel,dv,eh,λow' σ' R' g' nb _=>?_⟩;have G3:=(g2.trans (Go.refl s3)).trans g';refine ⟨O0,M0,H0,ow',m3,⟨R',nb R2.nb⟩,?_⟩;cases eg:g m3 with
   |exc c=>simp only [eg] at e2;subst e2;exact q1
   |stuck=>simp only [eg] at e2;subst e2;exact q1
   |ok a=>
    obtain ⟨f4,m4⟩:=a;simp only [eg] at e2;cases f4 with
    |nx=>exact λow4 σ4 H4 R4 g4=>⟨ow4,m4,R4,G3.trans g4,e2⟩
    |ct=>exact λow4 σ4 H4 R4 g4=>⟨ow4,m4,R4,G3.trans g4,e2⟩
    |bk=>subst e2;exact λow4 σ4 H4 R4 g4=>q1 ow4 σ4 H4 R4 (G3.trans g4)
    |rt fr v=>subst e2;exact λv ow4 σ4 H4 R4 g4=>q1 v ow4 σ4 H4 R4 (G3.trans g4)
 ·have e:i=ds.length:=by omega
  subst e;rw [List.drop_length] at e2;unfold bM at e2;subst e2;exact .inl ⟨i3,q1 ow2 σ2 H2 R2 g2⟩
section
variable {G:Gx}{E:XK}{O0 M0:Zaa}{H0 H:Hp}{ow:Os}{a:Addr}{o:Obj}{kvs:List (Key×V)}{W:Ends}
def Ia (H0:Hp)(a:Addr)(o:Obj)(kvs:List (Key×V)):Hp:=λb=>if b=a then (H0 a).map λ_=>.frz o (.dK kvs) else H0 b
theorem Bd {b:Addr}:Ia H0 a o kvs b=none↔H0 b=none:=by
 unfold Ia;split
 ·rename_i e;subst e;simp
 ·rfl
theorem GX {ow':Os}{H':Hp}(e:H a=some (.dK kvs))(g:Go O0 ow (L2.upd H a (.frz o (.dK kvs))) ow' H'):Go O0 ow H ow' (L2.upd H' a (.dK kvs)):=by
 refine ⟨λb u q n=>?_,λi c q=>?_,λb n=>?_⟩
 ·by_cases z:b=a
  ·subst z;rw [aV];exact e.symm.trans q
  ·rw [bc z];exact g.keep b u (by rw [bc z];exact q) n
 ·refine (g.new i c q).imp id λw=>?_;by_cases z:c=a
  ·subst z;rw [aV] at w;cases w
  ·rw [bc z] at w;exact w
 ·by_cases z:b=a
  ·subst z;rw [aV];exact λw=>nomatch w
  ·rw [bc z];exact g.dom b (by rw [bc z];exact n)
theorem yo {ow':Os}{σ':L2.St}{H':Hp}{m':Me}(na:¬Ow O0 ow a)(k0:∀u,H0 a=some u->¬M0 a->u=.dK kvs)(g:Go O0 ow (L2.upd H a (.frz o (.dK kvs))) ow' H')(R:dW G O0 M0 (Ia H0 a o kvs) ow' σ' H' m'):
  H' a=some (.frz o (.dK kvs))/\Sw a kvs H' (L2.upd H' a (.dK kvs))/\dW G O0 M0 H0 ow' σ' (L2.upd H' a (.dK kvs)) m':=by
 have e:=g.keep a _ aV na;have w:Sw a kvs H' (L2.upd H' a (.dK kvs)):=⟨λb n=>bc n,.inr ⟨o,e⟩,.inl aV⟩;refine ⟨e,w,R.sw w (λz=>?_) (λb z=>Bd.mp z) λb u q n=>?_⟩
 ·rcases z with z | ⟨i,z⟩
  ·exact na (.inl z)
  ·rcases g.new i a z with y | y
   ·exact na y
   ·rw [aV] at y;cases y
 ·by_cases z:b=a
  ·subst z;rw [aV,k0 u q n]
  ·rw [bc z];exact R.keep b u (by unfold Ia;rw [if_neg z];exact q) n
theorem RJ {r:Res (Fl×Me)}(e:H a=some (.dK kvs))(na:¬Ow O0 ow a)(k0:∀u,H0 a=some u->¬M0 a->u=.dK kvs)(q:Ss G E O0 M0 H0 ow H W (noX r)):Ss G E O0 M0 (Ia H0 a o kvs) ow (L2.upd H a (.frz o (.dK kvs))) (RM a o kvs W) r:=by
 cases r with
 |exc c=>exact q.elim
 |stuck=>exact q.elim
 |ok x=>
  obtain ⟨f,m'⟩:=x;cases f with
  |bk=>exact q.elim
  |ct=>exact q.elim
  |nx=>
   intro ow' σ' H' R' g';obtain ⟨h1,w,h2⟩:=yo na k0 g' R';exact ⟨h1,q ow' σ' _ h2 (GX e g')⟩
  |rt fr d=>
   cases fr with
   |true=>exact q.elim
   |false=>
    intro v ow' σ' H' R' g' dv _;obtain ⟨h1,w,h2⟩:=yo na k0 g' R';exact ⟨h1,q v ow' σ' _ h2 (GX e g') (dv.sw w) λz=>by cases z⟩
theorem Xu {r:Res (Fl×Me)}(q:Ss G E O0 M0 H0 ow H W (noX r)):Ss G E O0 M0 H0 ow H W r:=by
 cases r with
 |exc c=>exact q.elim
 |stuck=>exact q.elim
 |ok x=>
  obtain ⟨f,m'⟩:=x;cases f with
  |bk=>exact q.elim
  |ct=>exact q.elim
  |nx=>exact q
  |rt fr d=>
   cases fr with
   |true=>exact q.elim
   |false=>exact q
end
theorem Qx {X:Cx}{E:XK}{tg iter:Expr}{body:List Stmt}{i k:Nat}{fd:List Key->List D->List D}{J:Addr->Obj->List (Key×V)->It}{h:Zba}{g:Zab}{pos:Pos}(hp:PassesOwn (model X.prog X.w) X.A X.env X.xe)(hc:X.calm=true)(hi:PI X tg iter (RC i J))(hJ:Lg (gx X) fd J)(hg:FG X k tg h)(hb:FSs X E body g)
  (hs:∀x,foldedSetIterable iter X.env x=pure x:=by intro _;rfl):FS X E (.For tg iter body [] pos) (Rp fd i h g):=by
 intro pins s σ H W I ⟨O0,M0,H0,ow,m,R,q⟩;unfold Rp at q;split at q
 ·rename_i ks ds z;obtain ⟨h1,x,h2,h3⟩:=R.slot i _ z;cases h3 with
  | @dct a kvs _ vs _ na rd e1 e2 hv=>
   subst e1 e2;rcases rd with e | ⟨o,e⟩
   ·obtain ⟨o,I1⟩:=RK I e;have nf:∀o u,X.H₀ a≠some (.frz o u):=λo u z=>by
     have:=I.base.frzs a o u z
     rw [e] at this;cases this
    have w:Sw a kvs H (L2.upd H a (.frz o (.dK kvs))):=⟨λb n=>bc n,.inl e,.inr ⟨o,aV⟩⟩;have k0:∀u,H0 a=some u->¬M0 a->u=.dK kvs:=λu q n=>Option.some.inj ((R.keep a u q n).symm.trans e);have R1:dW (gx X) O0 M0 (Ia H0 a o kvs) ow σ (L2.upd H a (.frz o (.dK kvs))) m:=R.sw w na (λb z=>Bd.mpr z) λb u q n=>by
     unfold Ia at q;by_cases z:b=a
     ·subst z;rw [if_pos rfl] at q;rw [aV];cases q0:H0 b with
      |none=>rw [q0] at q;cases q
      |some y=>rw [q0] at q;exact q
     ·rw [if_neg z] at q;rw [bc z];exact R.keep b u q n
    exact thn (Iu hp hc hi hg hb hs pins s σ _ (RM a o kvs W) I1 ⟨a,o,kvs,h2,aV,λH1 g1=>FZ R1 (RJ e na k0 q) g1 (hJ _ H1 a o kvs ds (R1.mono g1).mutk (g1 _ _ aV) ((hv.sw w).mono g1))⟩) λf s' q=>TY nf q
   ·exact Iu hp hc hi hg hb hs pins s σ _ W I ⟨a,o,kvs,h2,e,λH1 g1=>FZ R (Xu q) g1 (hJ _ H1 a o kvs ds (R.mono g1).mutk (g1 _ _ e) (hv.mono g1))⟩
 ·exact q.elim
theorem Nh {k:Key}{u:Value}(h:vA k u=true):RelV (kV k) u:=by
 rcases bU h with ⟨i,t,rfl,rfl⟩ | ⟨x,t,rfl,rfl⟩
 ·exact ⟨t,rfl⟩
 ·exact ⟨t,rfl⟩
theorem aaf {X:Cx}{pins:Zl}{σ:L2.St}{H:Hp}{s:Shared}{a:Addr}{o:Obj}{kvs:List (Key×V)}(I:Inv X pins σ H s)(e:H a=some (.frz o (.dK kvs))):
  (a == sysModules)=false/\∃es ep,s.heap.get? a=some o/\o.ExactDict/\o.data=.dict es ep/\Vals (kvs.map λp=>kV p.1) (es.toList.map (·.key)):=by
 obtain ⟨ho,hz,hd,vs,kv,o',es,ep,h1,h2,h3,_,h5,h6⟩:=I.hok a _ e;cases ho.symm.trans h1;refine ⟨hd,es,ep,ho,h2,h3,?_⟩;clear h6 h3 e hz;generalize es.toList=l at h5;induction kv generalizing l with
 |nil=>cases h5;exact .nil
 |cons h _ ih=>
  cases h5 with
  |cons k1 k2 k3=>exact .cons (by dsimp only;rw [h.1];exact Nh k1) (ih _ k3)
theorem IV {G:Gx}:Lg G (λks _=>ks.map keyV) (λa o kvs=>Itk a o (.dK kvs) (kvs.map λp=>kV p.1)):=by
 intro O H a o kvs ds m e hv O' H2 ev;have e2:H2 a=some (.frz o (.dK kvs)):=ev.2 _ _ e (jR m e vq);refine ⟨λi hi=>⟨e2,by simpa using hi⟩,λi x H' hi y=>?_,e2,by simp⟩;obtain ⟨rfl,y⟩:=y;rw [List.getElem?_map] at y;cases q:kvs[i]? with
 |none=>rw [q] at y;cases y
 |some p=>
  rw [q] at y;cases y;exact ⟨aL.refl _,keyV p.1,by simp [q],Kq p.1⟩
theorem Vu {X:Cx}{tg:Expr}{i:Nat}{x:Str}{np:Pos}(hN:X.N[i]? = some x)(hv:Vis X.env.scope x)(hd:(x == ("__debug__" : Str))=false:=by decide)(hcd:(x == ("__classdict__" : Str))=false:=by decide):
  PI X tg (.Name x np) (RC i λa o kvs=>Itk a o (.dK kvs) (kvs.map λp=>kV p.1)):=by
 intro pins s σ H R I ⟨a,o,kvs,h1,h2,q⟩;refine thn (oh hN hv hd hcd pins s σ H (λv H'=>v=.ref a/\H'=H) I ⟨.ref a,h1,rfl,rfl⟩) λv s1 ⟨x,H1,I1,r1,e1,e2⟩=>?_;subst e1 e2;cases r1;obtain ⟨y,es,ep,ho,k2,k3,kk⟩:=aaf I1 h2;have fp:∀b∈[s1.heap.objs.size],sy X pins H1 b:=λb hb=>by
  cases List.mem_singleton.mp hb;exact I1.Ga (Nat.le_refl _) (I1.hok.fresh (Nat.le_refl _))
 refine Q5 y ho k2 k3 ?_;have st:(s1.heap.push { cls:=.type "dict_keyiterator",data:=.fields #[.ref a,.int 0 0,.int es.size 0,.int ep 0] }).IsKeyIter s1.heap.objs.size a 0 es.size ep:=⟨_,Heap.get?_push_size _ rfl,rfl,rfl⟩;exact ⟨s1.heap.objs.size,[s1.heap.objs.size],(λi h=>h.IsKeyIter s1.heap.objs.size a i es.size ep),_,H1,rfl,I1.kept (t':=s1.toks) λb o e=>Heap.get?_push_of_some _ e,My _ a o _ es ep _ k3 kk,st,fp,q _ (aL.refl _)⟩
section
variable {prog:Program}{w:World}{κ:Type}[DecidableEq κ]{kn:HeapKind prog w κ}{A:Around}{E:Zs}{s:Shared}
end
section
variable {X:Cx}{pins:Zl}{σ:L2.St}{H:Hp}{s:Shared}
end
def Y0 (K:W.Frag)(a:Addr)(n:Nat):It:=⟨λi H=>i<n/\∃xs x,SqL K H a xs/\xs[n - 1-i]? = some x,λi H x H'=>H'=H/\∀xs,SqL K H a xs->xs[n - 1-i]? = some x,λi _=>i=n⟩
theorem Tc {P:Program}{w:World}{K:W.Frag}{tg:Expr}(a it:Addr)(n:Nat):Turn P w K tg (Y0 K a n) [it] it (λi h=>h.IsRevIter it a ((n:Int) - 1-(i:Int))) where
 mem:=by simp
 obj:=λi h st b hb=>by
  have e:b=it:=by simpa using hb
  subst e;obtain ⟨o,e,c,d⟩:=st;exact ⟨o,e,λv z=>by rw [d] at z;cases z⟩
 keep:=λi h h' st k=>st.at λo e=>k it (by simp) o e
 item:=by
  intro X hP hw hK hc i pins s σ H E I hf st hg;subst hP hw hK;obtain ⟨lt,xs,x,hq,hx⟩:=hg;obtain ⟨its,rv,p,hz⟩:=I.list hq;obtain ⟨u,hu,ru⟩:=rv.get hx;obtain ⟨f0,f1,f2,f3,f4,f5⟩:=hf it (by simp);have e1:(n:Int) - 1-(i:Int)=((n - 1-i:Nat):Int):=by omega
  rw [e1] at st;refine wpAny_pyNext_rev_item st p.isList (x:=u) (by simpa using hu) λh' st' sb=>?_;have I1:Inv X pins σ H { s with heap:=h' }:=I.turned (t':=s.toks) (λb o hb e=>(sb.2 b hb).trans e) f0 f1 f3 f4 f5;rw [show ((n - 1-i:Nat):Int) - 1=(n:Int) - 1-((i+1:Nat):Int) by omega] at st';obtain ⟨o,e,c,d⟩:=id st';exact ⟨u,rfl,Ay (s:={ s with heap:=h' }) e c d (by decide) ⟨x,H,I1,ru,⟨rfl,λys hy=>by rw [I.yx hy hq];exact hx⟩,st',λb hb=>(hf b hb).1⟩⟩
 done:=by
  intro X hP hw hK hc i pins s σ H E I hf st hg;subst hP hw hK;obtain ⟨f0,f1,f2,f3,f4,f5⟩:=hf it (by simp);have hg:i=n:=hg;subst hg;rw [show (i:Int) - 1-(i:Int)=-1 by omega] at st;exact wpAny_pyNext_rev_end (I.ok.hd hc) st λh' eb=>⟨rfl,I.turned (t':=s.toks) (λb o hb e=>eb b o hb e) f0 f1 f3 f4 f5⟩
 self:=λ_ _ _ _ _ st h=>wpAny_pyIter_revIter st h
section
variable {X:Cx}{tg:Expr}
def aaX (K:W.Frag)(ta:TA):TI:=λσ H R=>ta σ H λvs H1=>∃a xs,vs=[.ref a]/\SqL K H1 a xs/\R (Y0 K a xs.length) H1
theorem X5 {e:Expr}{ta:TA}{p pos:Pos}(hg:Gl X "reversed")(hm:X.mg "reversed" = none)(ha:PA X [e] ta)(hs:starEach [e] X.env=[(false,eval e X.env)]:=by rfl):PI X tg (.Call (.Name "reversed" p) [e] [] pos) (aaX X.K ta):=by
 intro pins s σ H R I h;refine wpAny_Call_Name_kw (qZ I hg hm SX (PyProof.Rows.callWith_type1 (thn (ha pos pins s σ H _ I h) λus s1 hE=>xq2 hE λvs H1 I1 r1 q1=>?_) hs rfl));obtain ⟨l,xs,rfl,hq,q⟩:=q1;obtain ⟨u,rfl,rx⟩:=vals1 r1;cases rx;obtain ⟨its,rv,pl,hz⟩:=I1.list hq;have hlen:=rv.length;have st:(s1.heap.push (revObj l ((its.toArray.size:Int) - 1))).IsRevIter s1.heap.objs.size l ((xs.length:Int) - 1-((0:Nat):Int)):=⟨_,Heap.get?_push_size _ rfl,rfl,by simp [revObj,hlen]⟩;refine call_reversed_list pl.isList ?_;refine wpAny_pyIter_revIter (s:={ s1 with heap:=s1.heap.push (revObj l ((its.toArray.size:Int) - 1)) }) st ?_;refine ⟨s1.heap.objs.size,[s1.heap.objs.size],_,_,H1,rfl,I1.kept (t':=s1.toks) λb o e=>Heap.get?_push_of_some _ e,Tc l _ xs.length,st,λb hb=>?_,q⟩;have e:b=s1.heap.objs.size:=by simpa using hb
 subst e;exact I1.Ga (Nat.le_refl _) (I1.hok.fresh (Nat.le_refl _))
def Ko (f:Zad):Zad:=λm=>(f m).bind λd=>match d with
 |[.lst ds]=>.ok ds.reverse
 |_=>.stuck
theorem Yq {α:Type}{l:List α}{i:Nat}{x:α}(h:i<l.length)(e:l[l.length - 1-i]? = some x):l.reverse[i]? = some x:=by
 rw [List.getElem?_reverse h];exact e
theorem XM {G:Gx}{O:Zaa}{H:Hp}{a:Addr}{xs:List V}{ds:List D}(m:∀b,O b->fH (H b))(hl:LstAt G.K O H a xs)(hd:DVs G O H xs ds):tZ G (Y0 G.K a xs.length) ds.reverse (λO' H2=>Ev O H O' H2):=by
 intro O' H2 ev;have hq:SqL G.K H2 a xs:=(qI ev.2 hl).sq;have hd2:=hd.go m ev;have hlen:=cg hd;refine ⟨λi hi=>?_,λi x H' hi y=>?_,by show ds.reverse.length=xs.length;simp [hlen]⟩
 ·rw [List.length_reverse] at hi;exact ⟨by omega,xs,xs[xs.length - 1-i]'(by omega),hq,by simp⟩
 ·rw [List.length_reverse] at hi;obtain ⟨e,y⟩:=y;subst e;obtain ⟨d,h1,h2⟩:=p7 hd2 (y xs hq);exact ⟨aL.refl _,d,Yq hi (by rw [← hlen];exact h1),h2⟩
theorem Zd {E:XK}{fs:Zad}{e:Expr}{p pos:Pos}(hg:Gl X "reversed")(hm:X.mg "reversed" = none)(ha:FAE X E [e] fs)(hs:starEach [e] X.env=[(false,eval e X.env)]:=by rfl):FI X E tg (.Call (.Name "reversed" p) [e] [] pos) (Ko fs):=
 mz (X5 hg hm ha hs) λσ H R hE=>xq5 hE λO0 M0 H0 ow m Re q=>⟨O0,M0,H0,ow,m,Re,q.bind.imp (aL.refl _) λds q vs H' g hv=>by
  cases hv with
  |nil=>exact q.elim
  | @cons v vs d ds h1 h2=>
   cases h2 with
   |cons _ _=>cases d<;>exact q.elim
   |nil=>
    cases d with
    |lst ds=>
     cases h1 with
     |lst hl hd=>exact ⟨_,_,rfl,hl.sq,q _ H' g (XM (Re.mono g).mutk hl hd)⟩
    |_=>exact q.elim⟩
end
end F
namespace K70
open PySem L2 Hd F Pk Lw
section
def mD:Zab:=
 (aM (bf 1 (aX zT (aj (aD gIx (ao 0) (fC (.int 0))) az)))
 (aM (gIf (aU gEq (aD gIx (ao 0) (fC (.int 1))) (fC (.int 1))) (bz (aH 1)) gNx)
 (aM (bf 2 (aX zT (aj (aD gIx (ao 0) (fC (.int 1))) az)))
 (bz (Cw (Ho (fUn MK (ao 1)) (Ho (fC (.str "/")) (Ho (fUn MK (ao 2)) YJ))))))))
def lY:Zab:=
 mD
def dC:Zac:=aW 3 1 lY
def lE:Zae:=
 (qG gIn (ao 0) (fC (.str "0123456789")))
def lF:Zae:=
 (bY 1 [] (Qz (aH 0)) (hName 0) cM lE)
def jT (l_2:Zae):Zab:=
 (bz (vH (zM gLe gLe (fC (.int 1)) (aX eN (aj (ao 0) az)) (fC (.int 30))) (aX Hn (aj l_2 az))))
def sU:Zab:=
 (jT lF)
def gR:Zac:=aW 1 1 sU
def fK (φ_lowest:Zac)(φ_show_ratio:Zac)(φ_are_figures:Zac):Zab:=
 (aM (gIf (cJ (fTv (jo "str" (ao 0)))) qO gNx)
 (aM (bf 1 (iI "str" uq (ao 0) (aj (fC (.str "/")) az)))
 (aM (bf 2 (aD gIx (ao 1) (fC (.int 0))))
 (aM (bf 3 (fIf (aU gEq (aD gIx (ao 1) (fC (.int 1))) (fC (.str "/"))) (aD gIx (ao 1) (fC (.int 2))) (fC (.str "1"))))
 (aM (bf 4 (fIf (fTv (iI "str" rZ (ao 2) (aj (fC (.str "-")) az))) (fSl (ao 2) (fO1 (fC (.int 1))) fO0) (aH 2)))
 (aM (gIf (gP (cJ (fTv (fFn φ_are_figures (aj (aH 4) az)))) (gP (cJ (fTv (fFn φ_are_figures (aj (aH 3) az)))) (aU gEq (aX zX (aj (ao 3) az)) (fC (.int 0))))) qO gNx)
 (aM (bf 5 (fFn φ_lowest (aj (aX zX (aj (ao 2) az)) (aj (aX zX (aj (ao 3) az)) az))))
 (aM (gIf (aU gNe (fFn φ_show_ratio (aj (aH 5) az)) (ao 0)) qO gNx)
 (bz (aH 5))))))))))
def vD:Zab:=
 (fK fj dC gR)
def ji:Zac:=aW 6 1 vD
def rF:Zae:=
 (qG gIn (ao 0) (fC (.str "abcdefghijklmnopqrstuvwxyz0123456789")))
def qW:Zae:=
 (bY 1 [] (Qz (aH 0)) (hName 0) cM rF)
def rK (l_2:Zae):Zab:=
 (aM (gIf (cJ (fTv (jo "str" (ao 0)))) (bz (fC (.bl false))) gNx)
 (bz (vH (zM gLe gLe (fC (.int 1)) (aX eN (aj (ao 0) az)) (fC (.int 8))) (aX Hn (aj l_2 az)))))
def Br:Zab:=
 (rK qW)
def rT:Zac:=aW 1 1 Br
def nD:Zab:=
 (bz (aD cN (fSl (ao 0) fO0 (fO1 (fUn tW (fC (.int 1))))) (aQ (aj (aX jB (aj (ao 1) az)) az))))
def nQ:Zab:=
 nD
def dm:Zac:=aW 2 2 nQ
def fP:Zae:=
 (fFn dC (aj (aH 0) az))
def gZ:Zae:=
 (iI "str" qQ (fC (.str " ")) (aj (aD cN (fO (aj (aD gIx (ao 0) (fC (.int 1))) az)) (bY 1 [] (kW (aD qy (ao 1) (aD gIx (ao 0) (fC (.int 1))))) (hName 0) cM fP)) az))
def tD:Zae:=
 (bY 1 [2] (jA (fFn iJ (aj (aH 0) (aj (aH 1) az)))) (hName 0) cM gZ)
def nP (φ_refuse_no_plan:Zac)(l_3:Zae):Zab:=
 (aM (gEx (fFn φ_refuse_no_plan (aj (aH 0) (aj (aH 1) (aj (aH 2) az)))))
 (aM (bf 3 l_3)
 (bz (iI "str" qQ (fC (.str "; ")) (aj (ao 3) az)))))
def wF:Zab:=
 (nP cT tD)
def c7:Zac:=aW 4 3 wF
def gF:Zae:=
 (fFn ji (aj (aH 0) az))
def vm:Zae:=
 (bY 1 [] (jA (fSl (ao 1) (fO1 (fC (.int 1))) fO0)) (hName 0) cM gF)
def pL (φ_is_name:Zac)(l_2:Zae):Zab:=
 (aM (bf 1 (iI "str" tX (ao 0) (aj (fC (.str " ")) az)))
 (aM (gIf (gP (cJ (fTv (fFn φ_is_name (aj (aD gIx (ao 1) (fC (.int 0))) az)))) (aU gEq (aX eN (aj (ao 1) az)) (fC (.int 1)))) qO gNx)
 (bz (aQ (aj (aD gIx (ao 1) (fC (.int 0))) (aj (aX jB (aj l_2 az)) az))))))
def yE:Zab:=
 (pL rT vm)
def pY:Zac:=aW 2 1 yE
def cX:Zae:=
 (fFn pY (aj (aH 0) az))
def oR:Zae:=
 (bY 1 [] (jA (iI "str" tX (ao 0) (aj (fC (.str "; ")) az))) (hName 0) cM cX)
def iK (l_2:Zae):Zab:=
 (bz (fIf (aU gEq (ao 0) (fC (.str ""))) (fO az) l_2))
def wX:Zab:=
 (iK oR)
def fZ:Zac:=aW 1 1 wX
def nM (φ_refuse_no_plan:Zac)(φ_read_rows:Zac):Zab:=
 (aM (gIf (cJ (fTv (jo "str" (ao 2)))) qO gNx)
 (aM (bf 3 (fFn φ_read_rows (aj (aH 2) az)))
 (aM (iZ 4 (aX tR (aj (ao 3) az)))
 (aM (gIf (aU gLt (aX eN (aj (ao 4) az)) (aX eN (aj (ao 3) az))) qO gNx)
 (aM (gEx (ye φ_refuse_no_plan (aj (ao 0) (aj (ao 1) (aj (ao 4) az)))))
 (sG 4))))))
def wU:Zab:=
 (nM cT fZ)
def dJ:Zac:=aW 5 3 wU
def eU:Zae:=
 (aQ (aj (fFn lN (aj (aH 2) (aj (aH 0) az))) (aj (aH 1) az)))
def m5:Zae:=
 (bY 2 [0] (kW (aD gIx (ao 1) (fC (.int 2)))) (jt 2 (bN (hName 0) (bN (hName 1) jq))) cM eU)
def mj (l_2:Zae):Zab:=
 (aM (gIf (aU gNe (aD gIx (ao 1) (fC (.int 0))) (fC (.str "deal"))) (iD (fO (aj (aQ (aj (aH 0) (aj (aH 1) az))) az))) gNx)
 (iD l_2))
def lQ:Zab:=
 (mj m5)
def cW:Zac:=aW 2 2 lQ
def gA:Zab:=
 (G4 1 (aH 3) (fFn o5 (aj (HN (ao 1) (ao 3) (fC (.tup [(.int 0),(.int 1)]))) (aj (aH 2) az))))
def pq:Zab:=
 (g8 (jA (aH 0)) (jt 2 (bN (hName 2) (bN (hName 3) jq))) gA)
def gB:Zae:=
 (aQ (aj (aH 1) (aj (aH 0) az)))
def jO:Zae:=
 (bY 2 [] (Y4 (aH 1)) (jt 2 (bN (hName 0) (bN (hName 1) jq))) cM gB)
def m7 (l_2:Zab)(l_4:Zae):Zab:=
 (aM (iZ 1 GK)
 (aM l_2
 (VL 1 (iD l_4))))
def mY:Zab:=
 (m7 pq jO)
def gn:Zac:=aW 4 1 mY
def lG:Zab:=
 (uY 1 (HW cW (aj (aH 2) (aj (aH 3) az))))
def lK:Zab:=
 (g8 (kW (aD gIx (ao 0) (fC (.int 2)))) (jt 2 (bN (hName 2) (bN (hName 3) jq))) lG)
def oN (φ_with_ways:Zac)(φ_put_together:Zac)(l_2:Zab):Zab:=
 (aM (iZ 1 (fO az))
 (aM l_2
 (Vm 1 (aM (iZ 1 (HW φ_put_together (aj (aH 1) az)))
 (bz (fIf (aU gEq (aX eN (aj (ao 1) az)) (fC (.int 1))) (aD gIx (aD gIx (ao 1) (fC (.int 0))) (fC (.int 1))) (fFn φ_with_ways (aj (aH 0) (aj (aH 1) az)))))))))
def oE:Zab:=
 (oN dm gn lK)
def fQ:Zac:=aW 4 1 oE
def jE (Φ:Zac):Zae:=
 (aQ (aj (aH 0) (aj (fFn Φ (aj (aH 1) az)) az)))
def uy (Φ:Zac):Zae:=
 (bY 2 [] (kW (aD gIx (ao 0) (fUn tW (fC (.int 1))))) (jt 2 (bN (hName 0) (bN (hName 1) jq))) cM (jE Φ))
def rJ (φ_with_ways:Zac)(φ_folded_deal:Zac)(φ_folded:Zac)(l_2:Zae):Zab:=
 (aM (gIf (aU gEq (aD gIx (ao 0) (fC (.int 0))) (fC (.str "end"))) (bz (aH 0)) gNx)
 (aM (bf 1 (fFn φ_with_ways (aj (aH 0) (aj l_2 az))))
 (bz (fIf (aU gEq (aD gIx (ao 0) (fC (.int 0))) (fC (.str "deal"))) (fFn φ_folded_deal (aj (aH 1) az)) (aH 1)))))
def cA:Nat->Zac
 |0=>λ_=>.stuck
 |n+1=>aW 2 1
   (rJ dm fQ (cA n) (uy (cA n)))
def jz:Zae:=
 (aD iy (aD lO (aD cN (aD cN (aD cN (aD iy (fFn cY (aj (aH 1) (aj (aH 0) az))) (fC (.int 1000000007))) (aD lO (aD lO (fC (.int 53)) (ao 0)) (ao 0))) (aD lO (fC (.int 23)) (ao 0))) (fC (.int 6))) (fC (.int 45991))) (fC (.int 1000003)))
def jw:Zae:=
 (bY 1 [0] (gU (aj (fC (.int 40)) az)) (hName 0) cM jz)
def jc (l_2:Zae):Zab:=
 (iD l_2)
def qY:Zab:=
 (jc jw)
def jf:Zac:=aW 1 1 qY
def gh:Zab:=
 (bf 8 (aD cN (ao 8) (aD gIx (ao 3) (aD iy (aD cN (aD cN (aD vB (ao 0) (aD cN (ao 9) (fC (.int 1)))) (aD lO (ao 9) (ao 9))) (aD lO (aD cN (ao 7) (fC (.int 1))) (aX zX (aj (qG gEq (ao 9) (ao 5)) az)))) (fC (.int 36))))))
def mQ:Zab:=
 (g8 (gU (aj (ao 4) az)) (hName 9) gh)
def jd:Zab:=
 (aM (bf 8 (fC (.str "")))
 (aM mQ
 (fY 6 (aH 8))))
def rH:Zab:=
 (g8 (gU (aj (ao 2) az)) (hName 7) jd)
def lX (l_4:Zab):Zab:=
 (aM (bf 3 (fC (.str "abcdefghijklmnopqrstuvwxyz0123456789")))
 (aM (bf 4 (aD cN (fC (.int 1)) (aD iy (ao 0) (fC (.int 8)))))
 (aM (bf 5 (aD iy (ao 1) (ao 4)))
 (aM (iZ 6 (fO az))
 (aM l_4
 (sG 6))))))
def uV:Zab:=
 (lX rH)
def jm:Zac:=aW 10 3 uV
def kO:Zae:=
 (aQ (aj (aD v5 (aD iy (aD gIx (ao 1) (aD cN (aD cN (aD cN (fC (.int 8)) (aD lO (fC (.int 4)) (ao 3))) (aD lO (fC (.int 2)) (ao 2))) (ao 0))) (fC (.int 15))) (fC (.int 7))) (aj (fC (.int 1)) az)))
def j9:Zae:=
 (bY 1 [0,9,7] (gU (aj (fC (.int 2)) az)) (hName 0) cM kO)
def oH:Zab:=
 (aM (bf 10 j9)
 (aM (bf 11 (aD gIx (ao 3) (aD gIx (fO (aj (fC (.int 0)) (aj (aH 9) (aj (aH 7) az)))) (aD iy (aD gIx (ao 0) (fC (.int 16))) (fC (.int 3))))))
 (aM (bf 12 (aQ (aj (fC (.str "move")) (aj (aD v5 (fC (.int 3)) (ao 1)) (aj (aH 11) (aj (aQ (aj (aQ (aj (aD gIx (ao 4) (fC (.int 2))) (aj (aQ (aj (fC (.str "end")) (aj (aD gIx (ao 10) (fC (.int 0))) az))) az))) (aj (aQ (aj (aD gIx (ao 4) (fC (.int 3))) (aj (aQ (aj (fC (.str "end")) (aj (aD gIx (ao 10) (fC (.int 1))) az))) az))) az))) az))))))
 (aM (gIf (sS (aU gEq (ao 9) (fC (.int 1))) (aU gEq (aD iy (aD gIx (ao 0) (fC (.int 17))) (fC (.int 2))) (fC (.int 1)))) (bf 12 (aQ (aj (fC (.str "end")) (aj (aD gIx (ao 10) (fC (.int 0))) az)))) gNx)
 (fY 8 (aQ (aj (aD gIx (ao 4) (ao 9)) (aj (aH 12) az))))))))
def o4:Zab:=
 (g8 (gU (aj (fC (.int 2)) az)) (hName 9) oH)
def oO:Zab:=
 (aM (iZ 8 (fO az))
 (aM o4
 (fY 6 (aQ (aj (aQ (aj (aD gIx (fO (aj (aH 5) (aj (aD v5 (fC (.int 5)) (ao 5)) az))) (ao 7)) (aj (fC (.int 5)) az))) (aj (aQ (aj (fC (.str "move")) (aj (aH 1) (aj (aD gIx (ao 2) (aD lO (ao 7) (aD iy (aD gIx (ao 0) (fC (.int 18))) (fC (.int 2))))) (aj (aX jB (aj (ao 8) az)) az))))) az))))))
def kJ:Zab:=
 (g8 (gU (aj (fC (.int 2)) az)) (hName 7) oO)
def nG (φ__law_names:Zac)(l_6:Zab):Zab:=
 (aM (bf 1 (aD cN (fC (.int 1)) (aD iy (aD gIx (ao 0) (fC (.int 0))) (fC (.int 2)))))
 (aM (bf 2 (fFn φ__law_names (aj (aD gIx (ao 0) (fC (.int 1))) (aj (aD gIx (ao 0) (fC (.int 2))) (aj (fC (.int 2)) az)))))
 (aM (bf 3 (fFn φ__law_names (aj (aD gIx (ao 0) (fC (.int 3))) (aj (aD gIx (ao 0) (fC (.int 4))) (aj (fC (.int 2)) az)))))
 (aM (bf 4 (fFn φ__law_names (aj (aD gIx (ao 0) (fC (.int 5))) (aj (aD gIx (ao 0) (fC (.int 6))) (aj (fC (.int 4)) az)))))
 (aM (bf 5 (aD cN (fC (.int 1)) (aD iy (aD gIx (ao 0) (fC (.int 7))) (fC (.int 4)))))
 (aM (iZ 6 (fO az))
 (aM l_6
 (bz (aQ (aj (fC (.str "deal")) (aj (fC (.str "coin")) (aj (aX jB (aj (ao 6) az)) az))))))))))))
def wL:Zab:=
 (nG jm kJ)
def nZ:Zac:=aW 15 1 wL
def oW (Φ:Zac):Zae:=
 (bY 1 [2] (jA (fFn Φ (aj (aH 4) (aj (aH 1) az)))) (hName 0) (aU NQ (ao 0) (ao 1)) (aH 0))
def j6 (Φ:Zac):Zab:=
 (bf 2 (aD cN (ao 2) (oW Φ)))
def oJ (Φ:Zac):Zab:=
 (g8 (kW (aD gIx (ao 0) (fUn tW (fC (.int 1))))) (jt 2 (bN (hName 3) (bN (hName 4) jq))) (j6 Φ))
def fD (l_3:Zab):Zab:=
 (aM (gIf (aU gEq (aD gIx (ao 0) (fC (.int 0))) (fC (.str "end"))) (iD (fO az)) gNx)
 (aM (bf 2 (fO az))
 (aM (gIf (sS (aU gEq (aD gIx (ao 0) (fC (.int 0))) (fC (.str "move"))) (aU gEq (aD gIx (ao 0) (fC (.int 1))) (ao 1))) (bf 2 (fO (aj (aD gIx (ao 0) (fC (.int 2))) az))) gNx)
 (aM l_3
 (bz (aH 2))))))
def cF:Nat->Zac
 |0=>λ_=>.stuck
 |n+1=>aW 5 2
   (fD (oJ (cF n)))
def jH:Zaf:=
 (aU gGt (ao 1) (fC (.int 0)))
def jF:Zab:=
 (aM (bf 2 (aD iy (ao 0) (ao 1)))
 (aM (bf 0 (aH 1))
 (bf 1 (aH 2))))
def ph:Zab:=
 (oG jH jF)
def mZ (l_3:Zab):Zab:=
 (aM l_3
 (bz (aH 0)))
def ni:Zab:=
 (mZ ph)
def fB:Zac:=aW 3 2 ni
def ie (φ__law_divisor:Zac):Zab:=
 (aM (bf 1 (aD cN (fC (.int 1)) (aD iy (ao 0) (fC (.int 12)))))
 (aM (gIf (aU gEq (aD iy (ao 0) (fC (.int 5))) (fC (.int 4))) (bf 1 (aD cN (aD cN (aD W4 (fC (.int 10)) (fC (.int 10))) (fC (.int 1))) (ao 0))) gNx)
 (aM (bf 2 (aD iy (aD lO (aD vB (ao 0) (fC (.int 12))) (fC (.int 9973))) (aD cN (ao 1) (fC (.int 1)))))
 (aM (bf 3 (fFn φ__law_divisor (aj (aH 1) (aj (aH 2) az))))
 (bz (aQ (aj (aQ (aj (aD vB (ao 2) (ao 3)) (aj (aD vB (ao 1) (ao 3)) az))) (aj (aQ (aj (aD vB (aD v5 (ao 1) (ao 2)) (ao 3)) (aj (aD vB (ao 1) (ao 3)) az))) az))))))))
def sZ:Zab:=
 (ie fB)
def j8:Zac:=aW 4 1 sZ
def eF:Zab:=
 (aM (gIf (aU gEq (aD gIx (ao 0) (fC (.int 1))) (fC (.int 1))) (bz (aX zT (aj (aD gIx (ao 0) (fC (.int 0))) az))) gNx)
 (bz (aD cN (aD cN (aX zT (aj (aD gIx (ao 0) (fC (.int 0))) az)) (fC (.str "/"))) (aX zT (aj (aD gIx (ao 0) (fC (.int 1))) az)))))
def eE:Zab:=
 eF
def cH:Zac:=aW 1 1 eE
def fU:Zae:=
 (fFn cH (aj (aH 0) az))
def jU:Zae:=
 (iI "str" qQ (fC (.str " ")) (aj (aD cN (fO (aj (aH 0) az)) (bY 1 [] (kW (aD qy (ao 1) (ao 0))) (hName 0) cM fU)) az))
def sH:Zae:=
 (bY 1 [1] (jA (ao 0)) (hName 0) cM jU)
def nT (l_3:Zae):Zab:=
 (aM (bf 2 l_3)
 (bz (iI "str" qQ (fC (.str "; ")) (aj (ao 2) az))))
def wH:Zab:=
 (nT sH)
def nR:Zac:=aW 3 2 wH
def mJ:Zab:=
 (gIf (gP (cJ (fTv (jo "tuple" (ao 3)))) (gP (fTv (jo "bool" (aD gIx (ao 3) (fC (.int 0))))) (fTv (jo "bool" (aD gIx (ao 3) (fC (.int 1))))))) (bz (fC (.bl false))) gNx)
def rn:Zab:=
 (g8 (kW (aD qy (ao 0) (ao 2))) (hName 3) mJ)
def f9:Zab:=
 (aM (gIf (cJ (fTv (jo "tuple" (aD qy (ao 0) (ao 2))))) (bz (fC (.bl false))) gNx)
 rn)
def yQ:Zab:=
 (Rp (λks _=>ks.map keyV) 0 (hName 2) f9)
def my (l_4:Zab):Zab:=
 (aM (gIf (gP (cJ (fTv (jo "dict" (ao 0)))) (aU BV (ao 0) (ao 1))) (bz (fC (.bl false))) gNx)
 (aM l_4
 (bz (fC (.bl true)))))
def uG:Zab:=
 (my yQ)
def fL:Zac:=aW 4 2 uG
def oY:Zab:=
 (yU 4 (aD gIx (ao 3) (ao 5)) (fFn j8 (aj (aD cN (aD vB (ao 2) (aD cN (ao 5) (fC (.int 1)))) (aD lO (fC (.int 7)) (ao 5))) az)))
def jW:Zab:=
 (g8 (gU (aj (aX eN (aj (ao 3) az)) az)) (hName 5) oY)
def oK:Zab:=
 (yU 6 (aH 7) (aD qy (ao 4) (ao 7)))
def j4:Zab:=
 (g8 (Ko (aj (aH 3) az)) (hName 7) oK)
def kI:Zae:=
 (aD gIx (ao 1) (aD iy (aD cN (ao 0) (ao 2)) (aX eN (aj (ao 1) az))))
def jV:Zae:=
 (bY 1 [3,2] (gU (aj (aX eN (aj (ao 3) az)) az)) (hName 0) cM kI)
def oU:Zab:=
 (aM (iZ 11 (HW dJ (aj (aH 0) (aj (aH 1) (aj (aH 10) az)))))
 (aM (gIf (gP (cJ (fTv (ye fL (aj (ao 11) (aj (ao 4) az))))) (aU gNe (ye c7 (aj (ao 0) (aj (ao 1) (aj (ao 11) az)))) (ao 8))) (bz (fC (.bl false))) gNx)
 (yU 11 (fC (.str "none")) (aQ az))))
def sJ:Zab:=
 (g8 (kW (aQ (aj (aH 8) (aj (aH 9) (aj (aH 8) az))))) (hName 10) oU)
def n6 (φ_show_plan:Zac)(φ__law_seen:Zac)(φ__law_text:Zac)(l_2:Zab)(l_4:Zab)(l_6:Zae)(l_8:Zab):Zab:=
 (aM (bf 3 (fFn φ__law_seen (aj (aH 0) (aj (aH 1) az))))
 (aM (iZ 4 sW)
 (aM l_2
 (aM (iZ 6 sW)
 (aM l_4
 (aM (bf 8 (ye φ__law_text (aj (ao 3) (aj (ao 4) az))))
 (aM (gIf (gP (aU gNe (ye φ_show_plan (aj (ao 0) (aj (ao 1) (aj (ao 6) az)))) (ao 8)) (gP (aU BV (ao 6) (ao 4)) (aU gNe (ye φ_show_plan (aj (ao 0) (aj (ao 1) (aj (ao 6) az)))) (ao 8)))) (bz (fC (.bl false))) gNx)
 (aM (bf 9 (ye φ__law_text (aj l_6 (aj (ao 4) az))))
 (aM l_8
 (bz (fC (.bl true))))))))))))
def wR:Zab:=
 (n6 c7 (cF 30) nR jW j4 jV sJ)
def kY:Zac:=aW 12 3 wR
def lR (φ_show_plan:Zac)(φ_read_plan:Zac)(φ_folded:Zac)(φ__law_alike:Zac):Zab:=
 (aM (bf 0 (aQ (aj (fC (.str "deal")) (aj (fC (.str "e")) (aj (aQ (aj (aQ (aj (aQ (aj (fC (.int 1)) (aj (fC (.int 51)) az))) (aj (aQ (aj (fC (.str "end")) (aj (aQ (aj (fC (.int 1)) (aj (fC (.int 1)) az))) az))) az))) (aj (aQ (aj (aQ (aj (fC (.int 50)) (aj (fC (.int 51)) az))) (aj (aQ (aj (fC (.str "end")) (aj (aQ (aj (fC (.int 2)) (aj (fC (.int 1)) az))) az))) az))) az))) az)))))
 (aM (bf 1 (aQ (aj (fC (.str "move")) (aj (fC (.int 1)) (aj (fC (.str "s")) (aj (aQ (aj (aQ (aj (fC (.str "a")) (aj (aQ (aj (fC (.str "end")) (aj (aQ (aj (fC (.int 3)) (aj (fC (.int 1)) az))) az))) az))) (aj (aQ (aj (fC (.str "b")) (aj (aQ (aj (fC (.str "end")) (aj (aQ (aj (fC (.int 4)) (aj (fC (.int 1)) az))) az))) az))) az))) az))))))
 (aM (bf 2 (fFn φ_folded (aj (aQ (aj (fC (.str "deal")) (aj (fC (.str "d")) (aj (aQ (aj (aQ (aj (aQ (aj (fC (.int 1)) (aj (fC (.int 52)) az))) (aj (aH 0) az))) (aj (aQ (aj (aQ (aj (fC (.int 51)) (aj (fC (.int 52)) az))) (aj (aH 1) az))) az))) az)))) az)))
 (aM (gIf (gP (aU gNe (fFn φ_show_plan (aj (aH 2) (aj (fC (.int 1)) (aj (Ax [((fC (.str "s")),(aQ (aj (aQ (aj (fC (.int 1)) (aj (fC (.int 3)) az))) (aj (aQ (aj (fC (.int 2)) (aj (fC (.int 3)) az))) az))))]) az)))) (fC (.str "s 1/3 2/3"))) (aU gNe (fFn φ_show_plan (aj (aH 2) (aj (fC (.int 2)) (aj sW az)))) (fC (.str "")))) (bz (fC (.bl false))) gNx)
 (bz (vH (fFn φ__law_alike (aj (fFn φ_read_plan (aj (aH 2) (aj (fC (.int 1)) (aj (fC (.str "s 0 1")) az)))) (aj (Ax [((fC (.str "s")),(aQ (aj (aQ (aj (fC (.int 0)) (aj (fC (.int 1)) az))) (aj (aQ (aj (fC (.int 1)) (aj (fC (.int 1)) az))) az))))]) az))) (qG HQ (fFn φ_read_plan (aj (aH 2) (aj (fC (.int 2)) (aj (fC (.str "")) az)))) sW)))))))
def uC:Zab:=
 (lR c7 dJ (cA 12) fL)
def lU:Zac:=aW 3 0 uC
def LK (φ_show_plan:Zac)(φ_read_plan:Zac)(φ__law_numbers:Zac)(φ__law_game:Zac)(φ__law_told:Zac)(φ__law_cards:Zac):Zab:=
 (aM (bf 1 (fFn φ__law_numbers (aj (aH 0) az)))
 (aM (bf 2 (fFn φ__law_game (aj (aH 1) az)))
 (aM (gIf (gP (cJ (fTv (fFn φ__law_told (aj (aH 2) (aj (fC (.int 1)) (aj (aD gIx (ao 1) (fC (.int 20))) az)))))) (cJ (fTv (fFn φ__law_told (aj (aH 2) (aj (fC (.int 2)) (aj (aD gIx (ao 1) (fC (.int 21))) az))))))) (bz (fC (.bl false))) gNx)
 (aM (bf 3 (aD gIx (aD gIx (aD gIx (aD gIx (ao 2) (fC (.int 2))) (fC (.int 0))) (fC (.int 1))) (fC (.int 1))))
 (aM (bf 4 (aQ (aj (fC (.str "move")) (aj (aH 3) (aj (fC (.str "alone")) (aj (aQ (aj (aQ (aj (aD cN (fC (.str "a")) (aX zT (aj (aD iy (aD gIx (ao 1) (fC (.int 22))) (fC (.int 9))) az))) (aj (aQ (aj (fC (.str "end")) (aj (aQ (aj (aD iy (aD gIx (ao 1) (fC (.int 23))) (fC (.int 9))) (aj (fC (.int 1)) az))) az))) az))) az)) az))))))
 (aM (bf 5 (fFn φ_read_plan (aj (aH 4) (aj (aD v5 (fC (.int 3)) (ao 3)) (aj (fC (.str "")) az)))))
 (aM (gIf (gP (aU BV (ao 5) sW) (gP (cJ (fTv (jo "dict" (ao 5)))) (aU gNe (fFn φ_show_plan (aj (aH 4) (aj (aD v5 (fC (.int 3)) (ao 3)) (aj sW az)))) (fC (.str ""))))) (bz (fC (.bl false))) gNx)
 (bz (fFn φ__law_cards az)))))))))
def Ww:Zab:=
 (LK c7 dJ jf nZ kY lU)
def Wt:Zac:=aW 6 1 Ww
end
end K70
namespace F
open PySem PySem.NumText Hd
def jl (s:List Nat):List (List Nat)->List Nat
 |[]=>[]
 |[a]=>a
 |a::b::r=>a++s++jl s (b::r)
theorem Eu (s:List Nat):∀l:List (List Nat),Str.join (tx s) (l.map tx)=tx (jl s l)
 |[]=>rfl
 |[a]=>rfl
 |a::b::r=>by
  have ih:=Eu s (b::r);show tx a++tx s++Str.join (tx s) ((b::r).map tx)=_;rw [ih,mO,mO];rfl
def CZ (l:List (List Nat)):Nat:=(l.map List.length).sum
theorem Ma (s:List Nat):∀(l:List (List Nat)) (n:Nat),(l.map tx).foldl (λn z=>n+z.length+(tx s).length) n=n+CZ l+l.length*s.length
 |[],n=>by simp [CZ]
 |a::r,n=>by
  rw [List.map_cons,List.foldl_cons,Ma s r,bR,bR];simp [CZ,Nat.add_mul];omega
theorem aaa {s:List Nat}{l:List (List Nat)}(h:CZ l+l.length*s.length<=16777216):JoinOk (tx s) (l.map tx)=true:=by
 unfold JoinOk;rw [List.foldl_toArray,Ma];simp [Builtin.Str.tooLong]
 have:sizeLine=16777216:=rfl
 omega
theorem JM:∀l:List (List Nat),Gu (l.map λa=>D.str (tx a))=some (l.map tx)
 |[]=>rfl
 |a::r=>by simp [Gu,JM r]
theorem Mj {s:List Nat}{l:List (List Nat)}(h:CZ l+l.length*s.length<=16777216):qQ (.str (tx s)) [.lst (l.map λa=>D.str (tx a))]=some (.str (tx (jl s l))):=by
 have e:Txt.join (tx s) (l.map tx)=tx (jl s l):=(StrLaws.glued_eq_join _ _).trans (Eu s l);simp [qQ,JM,aaa h,e]
theorem Kz {c:Nat}:∀{a a' b b':List Nat},c∉a->c∉a'->a++c::b=a'++c::b'->a=a'/\b=b'
 |[],[],_,_,_,_,e=>⟨rfl,by simpa using e⟩
 |[],x::_,_,_,_,h,e=>by
  have:c=x:=by simpa using congrArg List.head? e
  exact absurd (by rw [this];simp) h
 |x::_,[],_,_,h,_,e=>by
  have:x=c:=by simpa using congrArg List.head? e
  exact absurd (by rw [this];simp) h
 |x::a,y::a',b,b',h,h',e=>by
  have e2:x=y/\a++c::b=a'++c::b':=by simpa using e
  obtain ⟨r1,r2⟩:=Kz (a:=a) (a':=a') (λz=>h (List.mem_cons_of_mem _ z)) (λz=>h' (List.mem_cons_of_mem _ z)) e2.2;exact ⟨by rw [e2.1,r1],r2⟩
theorem JZ {c:Nat}:∀{ps qs:List (List Nat)},ps≠[]->qs≠[]->(∀p∈ps,c∉p)->(∀q∈qs,c∉q)->jl [c] ps=jl [c] qs->ps=qs
 |[],_,h,_,_,_,_=>absurd rfl h
 |_,[],_,h,_,_,_=>absurd rfl h
 |[a],[b],_,_,_,_,e=>by rw [show a=b from e]
 |[a],b::b'::r,_,_,h1,_,e=>by
  exfalso;refine h1 a (by simp) ?_;rw [show a=b++[c]++jl [c] (b'::r) from e]
  simp
 |a::a'::r,[b],_,_,_,h2,e=>by
  exfalso;refine h2 b (by simp) ?_;rw [← show a++[c]++jl [c] (a'::r)=b from e]
  simp
 |a::a'::r,b::b'::t,_,_,h1,h2,e=>by
  have e1:a++c::jl [c] (a'::r)=b++c::jl [c] (b'::t):=by
   have:a++[c]++jl [c] (a'::r)=b++[c]++jl [c] (b'::t):=e
   simpa using this
  obtain ⟨x,y⟩:=Kz (h1 a (by simp)) (h2 b (by simp)) e1
  have:=JZ (ps:=a'::r) (qs:=b'::t) (by simp) (by simp) (λp hp=>h1 p (List.mem_cons_of_mem _ hp)) (λq hq=>h2 q (List.mem_cons_of_mem _ hq)) y
  rw [x,this]
theorem Sy (x y:Str):Txt.split x y≠[]:=by
 unfold Txt.split;split
 ·simp
 ·split
  ·simp
  ·unfold Builtin.Str.partsBetween;cases Builtin.Str.occurrences x y 0 x.length (x.length+1)<;>simp
theorem Pz {c:Nat}{qs:List (List Nat)}(h0:qs≠[])(hq:∀q∈qs,c∉q):Txt.split (tx (jl [c] qs)) (tx [c])=qs.map tx:=by
 have hf:=StrLaws.split_free (tx (jl [c] qs)) c;have hj:=StrLaws.join_split (tx (jl [c] qs)) (tx [c]);have hn:=Sy (tx (jl [c] qs)) (tx [c]);have conv:∀zs:List Str,∃ps:List (List Nat),zs=ps.map tx:=by
  intro zs;induction zs with
  |nil=>exact ⟨[],rfl⟩
  |cons z zs ih=>obtain ⟨ps,e⟩:=ih;exact ⟨z.cps.toList::ps,by rw [e,List.map_cons,← yK (x:=z) rfl]⟩
 obtain ⟨ps,e⟩:=conv (Txt.split (tx (jl [c] qs)) (tx [c]))
 rw [e] at hj hn ⊢;rw [Eu] at hj;have free:∀p∈ps,c∉p:=λp hp=>hf (tx p) (by
  show tx p∈Txt.split _ (tx [c]);rw [e];exact List.mem_map.mpr ⟨p,hp,rfl⟩)
 rw [JZ (λz=>hn (by rw [z];rfl)) h0 free hq (gJ.mp hj)]
theorem vJ (s sub:Str)(hi lim:Nat):∀(l r:List Nat) (st:Array Nat×Nat),(∀i∈l,Builtin.Str.subAt s sub i=false)->forIn (l++r) st (StrLaws.occBody s sub hi lim)=forIn r st (StrLaws.occBody s sub hi lim)
 |[],_,_,_=>rfl
 |a::l,r,st,h=>by
  have ha:=h a (by simp);rw [List.cons_append,List.forIn_cons]
  have:StrLaws.occBody s sub hi lim a st=pure (ForInStep.yield st):=by
   unfold StrLaws.occBody;rw [if_neg (by rw [ha];simp)]
  rw [this];exact vJ s sub hi lim l r st λi hi'=>h i (List.mem_cons_of_mem _ hi')
theorem DP {l:List Nat}{c d i:Nat}(h:l[i]?≠some c):Builtin.Str.subAt (tx l) (tx [c,d]) i=false:=by
 rw [StrLaws.subAt_eq,dO,dO,bR];cases e:l.drop i with
 |nil=>simp
 |cons a r=>
  have:l[i]? = some a:=by
   have:=congrArg List.head? e
   rw [List.head?_drop] at this;simpa using this
  have hne:a≠c:=λz=>h (by rw [this,z]);cases r<;>simp [hne]
theorem Wb {l:List Nat}{c d:Nat}(h:c∉l)(lim:Nat):Builtin.Str.occurrences (tx l) (tx [c,d]) 0 (tx l).length lim=[]:=by
 rw [StrLaws.occ_eq]
 have:=vJ (tx l) (tx [c,d]) (tx l).length lim (List.range' 0 ((tx l).length+1 - 0)) [] (#[],0) λi _=>DP λz=>h (List.mem_of_getElem? z)
 rw [List.append_nil] at this;rw [this];rfl
theorem Tf {a b:List Nat}{c d:Nat}(ha:c∉a)(hb:c∉b)(hd:d≠c)(lim:Nat)(hl:0<lim):Builtin.Str.occurrences (tx (a++c::d::b)) (tx [c,d]) 0 (tx (a++c::d::b)).length lim=[a.length]:=by
 rw [StrLaws.occ_eq];have hr:List.range' 0 ((tx (a++c::d::b)).length+1 - 0)=List.range' 0 a.length++a.length::List.range' (a.length+1) (b.length+2):=by
  rw [bR];have e1:(a++c::d::b).length+1 - 0=a.length+(b.length+2+1):=by simp;omega
  rw [e1,← List.range'_append_1,Nat.zero_add,List.range'_succ]
 have n1:∀i∈List.range' 0 a.length,Builtin.Str.subAt (tx (a++c::d::b)) (tx [c,d]) i=false:=λi hi=>DP λz=>by
  have hi':i<a.length:=by simpa using hi
  rw [List.getElem?_append_left hi'] at z;exact ha (List.mem_of_getElem? z)
 have n2:∀i∈List.range' (a.length+1) (b.length+2),Builtin.Str.subAt (tx (a++c::d::b)) (tx [c,d]) i=false:=λi hi=>DP λz=>by
  have hi':a.length+1<=i:=(List.mem_range'_1.mp hi).1;obtain ⟨k,rfl⟩:=Nat.exists_eq_add_of_le hi';rw [List.getElem?_append_right (by omega),show a.length+1+k-a.length=k+1 by omega] at z;cases k with
  |zero=>simp at z;exact hd z
  |succ k=>simp at z;exact hb (List.mem_of_getElem? z)
 have at1:Builtin.Str.subAt (tx (a++c::d::b)) (tx [c,d]) a.length=true:=by
  rw [StrLaws.subAt_eq,dO,dO,bR,List.drop_left]
  simp
 rw [hr,vJ _ _ _ _ _ _ _ n1,List.forIn_cons]
 have:StrLaws.occBody (tx (a++c::d::b)) (tx [c,d]) (tx (a++c::d::b)).length lim a.length (#[],0)=pure (ForInStep.yield (#[a.length],a.length+2)):=by
  unfold StrLaws.occBody;rw [if_pos ⟨⟨⟨by simpa using hl,by simp⟩,by rw [bR,bR];simp⟩,at1⟩];rfl
 rw [this]
 have:=vJ (tx (a++c::d::b)) (tx [c,d]) (tx (a++c::d::b)).length lim (List.range' (a.length+1) (b.length+2)) [] (#[a.length],a.length+2) n2
 rw [List.append_nil] at this;show (forIn (List.range' (a.length+1) (b.length+2)) (#[a.length],a.length+2) (StrLaws.occBody (tx (a++c::d::b)) (tx [c,d]) (tx (a++c::d::b)).length lim)).run.fst.toList=_;rw [this];rfl
theorem Oc {l:List Nat}{c d:Nat}(h:c∉l):Txt.split (tx l) (tx [c,d])=[tx l]:=by
 unfold Txt.split;rw [Wb h]
 simp
theorem kind_le {l:List Nat}{c d:Nat}(hc:c<128)(hd:d<128):¬Builtin.Str.strKind (tx l)<Builtin.Str.strKind (tx [c,d]):=by
 have e:Builtin.Str.strKind (tx [c,d])=1:=by
  unfold Builtin.Str.strKind;rw [if_pos];simp [tx];omega
 rw [e];unfold Builtin.Str.strKind;split
 ·omega
 ·split<;>omega
theorem Jk {a b:List Nat}{c d:Nat}(ha:c∉a)(hb:c∉b)(hd:d≠c)(h1:c<128)(h2:d<128):Txt.split (tx (a++c::d::b)) (tx [c,d])=[tx a,tx b]:=by
 unfold Txt.split;rw [Tf ha hb hd _ (by omega)];have k:=kind_le (l:=a++c::d::b) h1 h2;have l1:¬(tx (a++c::d::b)).length<(tx [c,d]).length:=by rw [bR,bR];simp;omega
 rw [if_neg (by simp [k,l1]),if_neg (by simp)];have e1:Builtin.Str.strSub (tx (a++c::d::b)) 0 a.length=tx a:=yK (by rw [StrLaws.strSub_toList,dO];simp);have e2:Builtin.Str.strSub (tx (a++c::d::b)) (a.length+2) (tx (a++c::d::b)).length=tx b:=yK (by
  rw [StrLaws.strSub_toList,dO,bR]
  have:(a++c::d::b).drop (a.length+2)=b:=by rw [← List.drop_drop,List.drop_left];rfl
  rw [this];exact List.take_of_length_le (by simp;omega))
 show [Builtin.Str.strSub _ 0 a.length,Builtin.Str.strSub _ (a.length+2) _]=_;rw [e1,e2]
end F
namespace K70
open PySem PySem.NumText L2 Hd F Pk
open L2 (atI ixN Key)
theorem kh:Str.ofString "/" = ⟨#[47]⟩:=by decide +kernel
theorem UL:Str.ofString "-" = ⟨#[45]⟩:=by decide +kernel
theorem Vr:Str.empty=tx []:=by decide +kernel
theorem W6:Str.ofString "0123456789" = tx [48,49,50,51,52,53,54,55,56,57]:=by decide +kernel
theorem Wh:Str.ofString "1" = tx [49]:=by decide +kernel
theorem Vj {l:List Nat}{c:Nat}(h:c∉l):Txt.partition (tx l) ⟨#[c]⟩=(tx l,tx [],tx []):=by
 unfold Txt.partition;rw [Xw h];rfl
theorem V3 {a b:List Nat}{c:Nat}(h:c∉a):Txt.partition (tx (a++c::b)) ⟨#[c]⟩=(tx a,⟨#[c]⟩,tx b):=by
 unfold Txt.partition;obtain ⟨r,e⟩:=Za (b:=b) h;rw [e];have e1:Builtin.Str.strSub (tx (a++c::b)) 0 a.length=tx a:=yK (by rw [StrLaws.strSub_toList,dO];simp);have e2:Builtin.Str.strSub (tx (a++c::b)) (a.length+1) (tx (a++c::b)).length=tx b:=yK (by
  rw [StrLaws.strSub_toList,dO,bR]
  have:(a++c::b).drop (a.length+1)=b:=by rw [← List.drop_drop,List.drop_left];rfl
  rw [this];exact List.take_of_length_le (by simp;omega))
 show (_,_,Builtin.Str.strSub (tx (a++c::b)) (a.length+1) _)=_;rw [e1,e2]
theorem JD {l:List Nat}{c:Nat}:Txt.startswith (tx l) ⟨#[c]⟩=decide (l.head? = some c):=by
 unfold Txt.startswith;rw [StrLaws.subAt_eq,dO,bR];cases l with
 |nil=>rfl
 |cons a r=>
  show (decide (0+1<=(a::r).length) && ([a] == [c]))=decide (some a=some c);by_cases h:a=c
  ·subst h;simp
  ·simp [h]
theorem Mm {a:Nat}{l:List Nat}:Txt.slice (tx (a::l)) (some 1) none=tx l:=by
 have:=StrLaws.sliceText_from (x:=tx (a::l)) (i:=1) ⟨by decide,by rw [dO];simp;omega⟩
 refine (show Txt.slice (tx (a::l)) (some 1) none=_ from this).trans ?_;refine yK ?_;rw [dO];show (l.take _)=l;exact List.take_of_length_le (by simp)
def sh (t b:Int):List Nat:=sg t++if b=1 then [] else 47::dg b.natAbs
theorem uQ {i:Int}(h:i.natAbs<10 ^ 30):zT [.int i]=some (.str (tx (sg i))):=by
 have:i.natAbs.log2<1920:=by
  by_cases z:i.natAbs=0
  ·rw [z];decide
  ·have e:(10:Nat) ^ 30<=2 ^ 100:=by decide
   exact (Nat.log2_lt z).mpr (Nat.lt_of_lt_of_le (Nat.lt_of_lt_of_le h e) (Nat.pow_le_pow_right (by decide) (by decide)))
 show (if i.natAbs.log2<1920 then some (D.str (Str.ofString (toString i))) else none)=_;rw [if_pos this,X6]
theorem qR {i:Int}(h:i.natAbs<10 ^ 30):(sg i).length<=31:=by
 have:=(QB h).2
 rwa [bR] at this
theorem Ez {i:Int}(h:0<=i):sg i=dg i.natAbs:=by unfold sg;rw [if_neg (by omega)];rfl
theorem CQ {t b:Int}(ht:t.natAbs<10 ^ 30)(hb:b.natAbs<10 ^ 30)(h1:1<=b):dC [qD (t,b)]=.ok (false,.str (tx (sh t b))):=by
 have e1:=uQ ht;have e2:=uQ hb;by_cases z:b=1
 ·have e:sh t b=sg t:=by unfold sh;rw [if_pos z];simp
  rw [e];simp [dC,aW,lY,mD,aM,bf,aX,aj,az,aD,ao,fC,gIx,qD,ix0,ix1,e1,gIf,aU,z,bz,Me.let,Sl.let,aH]
 ·have e:tx (sg t)++(⟨#[47]⟩:Str)++tx (sg b)=tx (sh t b):=by
   rw [show (⟨#[47]⟩:Str)=tx [47] from rfl,mO,mO];unfold sh;rw [if_neg z,Ez (i:=b) (by omega)]
   simp
  have l1:=qR ht;have l2:=qR hb;have f1:MK (.str (tx (sg t)))=some (.str (tx (sg t))):=if_pos (by rw [bR,szl];omega);have f2:MK (.str (tx (sg b)))=some (.str (tx (sg b))):=if_pos (by rw [bR,szl];omega);have l4:(tx (sg t)).length<=16777216:=by rw [bR];omega
  have l5:(tx (sg t)++Str.ofString "/").length<=16777216:=by rw [kh,show (⟨#[47]⟩:Str)=tx [47] from rfl,mO,bR];simp;omega
  have e3:Str.empty++tx (sg t)=tx (sg t):=by rw [Vr,mO];rfl
  have e4:tx (sg t)++(Str.ofString "/")++tx (sg b)=tx (sh t b):=by rw [kh];exact e
  have l3:(tx (sh t b)).length<=16777216:=by rw [← e4,kh,show (⟨#[47]⟩:Str)=tx [47] from rfl,mO,mO,bR];simp;omega
  simp [dC,aW,lY,mD,aM,bf,aX,aj,az,aD,ao,fC,gIx,qD,ix0,ix1,e1,e2,gIf,aU,z,gNx,bz,Me.let,Sl.let,Cw,Ho,YJ,fUn,f1,f2,e3,e4,l3,l4,l5]
theorem Em {l:List Nat}(h:AllDigits l)(h1:1<=l.length)(h2:l.length<=30):gR [.str (tx l)]=.ok (false,.bl true):=by
 have e:bV (hName 0) cM lE [.un] (signs (tx l))=.ok ((signs (tx l)).map λ_=>D.bl true):=comp_map (λ_=>D.bl true) _ λd hd=>by
  obtain ⟨c,hc,rfl⟩:=List.mem_map.mp hd;have hc':=h c hc;refine ⟨_,rfl,rfl,?_⟩;have hm:c∈[48,49,50,51,52,53,54,55,56,57]:=by
   simp only [List.mem_cons,List.not_mem_nil,or_false];omega
  have:=Kh hm
  have hi:gIn (.str ⟨#[c]⟩) (.str (Str.ofString "0123456789"))=some true:=by
   rw [W6];show some (!(Builtin.Str.occurrences _ _ 0 _ 1).isEmpty)=some true;rw [this];rfl
  simp [lE,qG,ao,fC,hi]
 have e2:∀ds:List D,pG (ds.map λ_=>D.bl true)=some (ds.map λ_=>true):=by
  intro ds;induction ds with
  |nil=>rfl
  |cons d ds ih=>simp [pG,ih]
 have e3:Hn [.lst ((signs (tx l)).map λ_=>D.bl true)]=some (.bl true):=by
  show (pG _).map _=_;rw [e2]
  simp
 have hz:(signs (tx l)).length<=16777216:=by unfold signs;rw [List.length_map,dO];omega
 have hz2:(tx l).length<=16777216:=by rw [bR];omega
 have g1:(1:Int)<=((tx l).length:Int):=by rw [bR];omega
 have g2:((tx l).length:Int)<=30:=by rw [bR];omega
 have q:lF [.fz (.str (tx l))]=.ok (.lst ((signs (tx l)).map λ_=>D.bl true)):=by
  simp [lF,bY,Qz,aH,cMe,hz2,hz,e]
 have c:∀Q:Zae,Q [.fz (.str (tx l))]=.ok (.lst ((signs (tx l)).map λ_=>D.bl true))->aW 1 1 (jT Q) [.str (tx l)]=.ok (false,.bl true):=by
  intro Q hq;simp [aW,jT,bz,Me.let,Sl.let,vH,fTv,zM,fC,aX,aj,az,ao,eN,hz2,gLe,g1,g2,hq,e3]
 exact c _ q
theorem G8 {φl φs φa:Zac}{z p1 p2 p3 bt bare:Str}{ti bi:Int}{r:D}
  (hp:uq (.str z) [.str (Str.ofString "/")]=some (.tup [.str p1,.str p2,.str p3])) (hl:p1.length<=16777216)
  (hb:(if p2=Str.ofString "/" then p3 else Str.ofString "1")=bt) (hs:(if Txt.startswith p1 (Str.ofString "-")=true then Txt.slice p1 (some 1) none else p1)=bare)
  (f1:φa [.str bare]=.ok (false,.bl true)) (f2:φa [.str bt]=.ok (false,.bl true)) (i1:zX [.str p1]=some (.int ti)) (i2:zX [.str bt]=some (.int bi)) (nz:bi≠0)
  (l:φl [.int ti,.int bi]=.ok (false,r)) (s:φs [r]=.ok (false,.str z)):aW 6 1 (fK φl φs φa) [.str z]=.ok (false,r):=by
 have x0:∀a b c:D,atI [a,b,c] 0=some a:=λ_ _ _=>rfl;have x1:∀a b c:D,atI [a,b,c] 1=some b:=λ_ _ _=>rfl;have x2:∀a b c:D,atI [a,b,c] 2=some c:=λ_ _ _=>rfl;subst hb;subst hs;by_cases c1:p2=Str.ofString "/"
 ·rw [if_pos c1] at f2 i2;by_cases c2:Txt.startswith p1 (Str.ofString "-")=true
  ·rw [if_pos c2] at f1;simp [aW,fK,aM,gIf,cJ,fTv,jo,ao,iG,G6,gNx,bf,iI,tyD,aj,az,fC,hp,aD,gIx,x0,x1,x2,fIf,aU,c1,rZ,c2,fSl,fO1,fO0,gSl,hl,gP,fFn,aH,f1,f2,aX,i1,i2,nz,l,s,bz,Me.let,Sl.let]
  ·rw [if_neg c2] at f1;simp [aW,fK,aM,gIf,cJ,fTv,jo,ao,iG,G6,gNx,bf,iI,tyD,aj,az,fC,hp,aD,gIx,x0,x1,x2,fIf,aU,c1,rZ,c2,fSl,fO1,fO0,gSl,hl,gP,fFn,aH,f1,f2,aX,i1,i2,nz,l,s,bz,Me.let,Sl.let]
 ·rw [if_neg c1] at f2 i2;by_cases c2:Txt.startswith p1 (Str.ofString "-")=true
  ·rw [if_pos c2] at f1;simp [aW,fK,aM,gIf,cJ,fTv,jo,ao,iG,G6,gNx,bf,iI,tyD,aj,az,fC,hp,aD,gIx,x0,x1,x2,fIf,aU,c1,rZ,c2,fSl,fO1,fO0,gSl,hl,gP,fFn,aH,f1,f2,aX,i1,i2,nz,l,s,bz,Me.let,Sl.let]
  ·rw [if_neg c2] at f1;simp [aW,fK,aM,gIf,cJ,fTv,jo,ao,iG,G6,gNx,bf,iI,tyD,aj,az,fC,hp,aD,gIx,x0,x1,x2,fIf,aU,c1,rZ,c2,fSl,fO1,fO0,gSl,hl,gP,fFn,aH,f1,f2,aX,i1,i2,nz,l,s,bz,Me.let,Sl.let]
theorem R6 {n:Nat}:47∉dg n:=λh=>by have:=tU n 47 h;omega
theorem Al {i:Int}:47∉sg i:=λh=>by
 unfold sg at h;rcases List.mem_append.mp h with w | w
 ·split at w
  ·simp at w
  ·cases w
 ·exact R6 w
theorem QC {n:Nat}:¬(dg n).head? = some 45:=λh=>by
 cases e:dg n with
 |nil=>rw [e] at h;cases h
 |cons a r=>rw [e] at h;cases h;have:=tU n 45 (by rw [e];simp);omega
theorem Cv {i:Int}(h:i.natAbs<10 ^ 30):zX [.str (tx (sg i))]=some (.int i):=by
 obtain ⟨h1,h2⟩:=QB h;show (if (tx (sg i)).length<=640 then (intText? (tx (sg i))).map D.int else none)=_;rw [if_pos (by omega),h1];rfl
theorem U0 {t b:Int}(ht:t.natAbs<10 ^ 30)(hb:b.natAbs<10 ^ 30)(h1:1<=b)(hg:gI t b=1):ji [.str (tx (sh t b))]=.ok (false,qD (t,b)):=by
 have lt1:=qR ht;have lb1:=qR hb;have low:fj [.int t,.int b]=.ok (false,qD (t,b)):=by
  obtain ⟨z1,z2⟩:=LR h1 hg;have hB:Bq b:=Wl (k:=100) (Nat.lt_of_lt_of_le hb (by decide));rw [rE (by omega) hB,z1,z2];rfl
 have zl:(tx (sh t b)).length<=16777216:=by
  rw [bR];unfold sh;rw [List.length_append]
  have:=wu 29 b.natAbs hb
  split<;>simp<;>omega
 have bare:∃bs,(if Txt.startswith (tx (sg t)) (Str.ofString "-")=true then Txt.slice (tx (sg t)) (some 1) none else tx (sg t))=tx bs/\gR [.str (tx bs)]=.ok (false,.bl true):=by
  refine ⟨dg t.natAbs,?_,Em (tU _) (J2 _) (wu 29 _ ht)⟩;rw [UL,JD];by_cases n:t<0
  ·have e:sg t=45::dg t.natAbs:=by unfold sg;rw [if_pos n];rfl
   rw [e,if_pos (by simp),Mm]
  ·have e:sg t=dg t.natAbs:=Ez (by omega);rw [e,if_neg (by simpa using QC)]
 obtain ⟨bs,hbare,hfig⟩:=bare;have pl:(tx (sg t)).length<=16777216:=by rw [bR];omega
 by_cases z:b=1
 ·have e:sh t b=sg t:=by unfold sh;rw [if_pos z];simp
  refine G8 (p1:=tx (sg t)) (p2:=tx []) (p3:=tx []) (bt:=Str.ofString "1") (bare:=tx bs) (ti:=t) (bi:=b) ?_ pl ?_ hbare hfig ?_ (Cv ht) ?_ (by omega) low (CQ ht hb h1)
  ·show (if _ then some (D.tup [.str (Txt.partition (tx (sh t b)) (Str.ofString "/")).1,.str (Txt.partition (tx (sh t b)) (Str.ofString "/")).2.1,.str (Txt.partition (tx (sh t b)) (Str.ofString "/")).2.2]) else none)=_;rw [if_pos ⟨by rw [szl];exact zl,by rw [kh];rfl⟩,kh,e,Vj Al]
  ·rw [if_neg (by rw [kh,show (⟨#[47]⟩:Str)=tx [47] from rfl,gJ];decide)]
  ·rw [Wh];exact Em (by intro c hc;rw [List.mem_singleton.mp hc];decide) (by decide) (by decide)
  ·rw [z,Wh];exact Cv (i:=1) (by decide)
 ·have e:sh t b=sg t++47::dg b.natAbs:=by unfold sh;rw [if_neg z]
  have eb:sg b=dg b.natAbs:=Ez (by omega);refine G8 (p1:=tx (sg t)) (p2:=⟨#[47]⟩) (p3:=tx (sg b)) (bt:=tx (sg b)) (bare:=tx bs) (ti:=t) (bi:=b) ?_ pl ?_ hbare hfig ?_ (Cv ht) (Cv hb) (by omega) low (CQ ht hb h1)
  ·show (if _ then some (D.tup [.str (Txt.partition (tx (sh t b)) (Str.ofString "/")).1,.str (Txt.partition (tx (sh t b)) (Str.ofString "/")).2.1,.str (Txt.partition (tx (sh t b)) (Str.ofString "/")).2.2]) else none)=_;rw [if_pos ⟨by rw [szl];exact zl,by rw [kh];rfl⟩,kh,e,V3 Al,eb]
  ·rw [if_pos kh.symm]
  ·rw [eb];exact Em (tU _) (J2 _) (wu 29 _ hb)
def shq (q:Rat):List Nat:=sh q.num q.den
theorem Gs {q:Rat}(h:Sz 40 q):q.num.natAbs<10 ^ 30/\((q.den:Int)).natAbs<10 ^ 30:=by
 have e:(2:Nat) ^ 40<=10 ^ 30:=by decide
 exact ⟨Nat.lt_of_lt_of_le h.1 e,Nat.lt_of_lt_of_le (by simpa using h.2) e⟩
theorem Q8 {q:Rat}(h:Sz 40 q):dC [rD q]=.ok (false,.str (tx (shq q))):=CQ (Gs h).1 (Gs h).2 (lJ q)
theorem Te {q:Rat}(h:Sz 40 q):ji [.str (tx (shq q))]=.ok (false,rD q):=U0 (Gs h).1 (Gs h).2 (lJ q) (Jp q)
theorem Py {q:Rat}(h:Sz 40 q):cH [rD q]=.ok (false,.str (tx (shq q))):=by
 have ht:=(Gs h).1;have hb:=(Gs h).2;have e1:=uQ ht;have e2:=uQ hb;have h1:=lJ q;rw [yl];unfold shq;generalize q.num=t at *;generalize (q.den:Int)=b at *;by_cases z:b=1
 ·have e:sh t b=sg t:=by unfold sh;rw [if_pos z];simp
  rw [e];simp [cH,aW,eE,eF,aM,aX,aj,az,aD,ao,fC,gIx,ix0,ix1,e1,gIf,aU,z,bz,Me.let,Sl.let]
 ·have l1:=qR ht;have l2:=qR hb;have zl:sizeLine=16777216:=rfl;have a1:cN (.str (tx (sg t))) (.str (Str.ofString "/"))=some (.str (tx (sg t++[47]))):=by
   rw [kh,show (⟨#[47]⟩:Str)=tx [47] from rfl];show (if (tx (sg t)).length+(tx [47]).length<=sizeLine then some (D.str (tx (sg t)++tx [47])) else none)=_;rw [if_pos (by rw [bR,bR];simp;omega),mO]
  have a2:cN (.str (tx (sg t++[47]))) (.str (tx (sg b)))=some (.str (tx (sh t b))):=by
   show (if (tx (sg t++[47])).length+(tx (sg b)).length<=sizeLine then some (D.str (tx (sg t++[47])++tx (sg b))) else none)=_;rw [if_pos (by rw [bR,bR];simp;omega),mO];unfold sh;rw [if_neg z,Ez (i:=b) (by omega)]
   simp
  simp [cH,aW,eE,eF,aM,aX,aj,az,aD,ao,fC,gIx,ix0,ix1,e1,e2,a1,a2,gIf,aU,z,gNx,bz,Me.let,Sl.let]
theorem Rf (t b:Int):∀c∈sh t b,c=45\/47<=c/\c<=57:=by
 intro c hc;have dd:∀n:Nat,∀c∈dg n,c=45\/47<=c/\c<=57:=λn c hc=>by have:=tU n c hc;omega
 unfold sh sg at hc;rcases List.mem_append.mp hc with h | h
 ·rcases List.mem_append.mp h with h | h
  ·split at h
   ·simp at h;omega
   ·cases h
  ·exact dd _ c h
 ·split at h
  ·cases h
  ·rcases List.mem_cons.mp h with h | h
   ·omega
   ·exact dd _ c h
theorem Ca {q:Rat}{c:Nat}(h:c=32\/c=59):c∉shq q:=λz=>by
 have:=Rf _ _ c z
 omega
theorem xK {q:Rat}(h:Sz 40 q):(shq q).length<=63:=by
 have l1:=qR (Gs h).1;have l2:=wu 29 _ (Gs h).2;unfold shq sh;rw [List.length_append];split
 ·simp;omega
 ·rw [List.length_cons];omega
structure Nam (l:List Nat):Prop where
 lo:1<=l.length
 hi:l.length<=8
 sg:∀c∈l,97<=c/\c<=122\/48<=c/\c<=57
theorem Nam.no {l:List Nat}(h:Nam l){c:Nat}(hc:c=32\/c=59):c∉l:=λz=>by
 have:=h.sg c z
 omega
theorem aab:Str.ofString "abcdefghijklmnopqrstuvwxyz0123456789" = tx ((List.range' 97 26)++List.range' 48 10):=by decide +kernel
theorem QX {l:List Nat}(h:Nam l):rT [.str (tx l)]=.ok (false,.bl true):=by
 have e:bV (hName 0) cM rF [.un] (signs (tx l))=.ok ((signs (tx l)).map λ_=>D.bl true):=comp_map (λ_=>D.bl true) _ λd hd=>by
  obtain ⟨c,hc,rfl⟩:=List.mem_map.mp hd;have hc':=h.sg c hc;refine ⟨_,rfl,rfl,?_⟩;have hm:c∈(List.range' 97 26)++List.range' 48 10:=by
   rw [List.mem_append,List.mem_range'_1,List.mem_range'_1];omega
  have:=Kh hm
  have hi:gIn (.str ⟨#[c]⟩) (.str (Str.ofString "abcdefghijklmnopqrstuvwxyz0123456789"))=some true:=by
   rw [aab];show some (!(Builtin.Str.occurrences _ _ 0 _ 1).isEmpty)=some true;rw [this];rfl
  simp [rF,qG,ao,fC,hi]
 have e2:∀ds:List D,pG (ds.map λ_=>D.bl true)=some (ds.map λ_=>true):=by
  intro ds;induction ds with
  |nil=>rfl
  |cons d ds ih=>simp [pG,ih]
 have e3:Hn [.lst ((signs (tx l)).map λ_=>D.bl true)]=some (.bl true):=by
  show (pG _).map _=_;rw [e2]
  simp
 have h2:=h.hi;have h1:=h.lo;have hz:(signs (tx l)).length<=16777216:=by unfold signs;rw [List.length_map,dO];omega
 have hz2:(tx l).length<=16777216:=by rw [bR];omega
 have g1:(1:Int)<=((tx l).length:Int):=by rw [bR];omega
 have g2:((tx l).length:Int)<=8:=by rw [bR];omega
 have q:qW [.fz (.str (tx l))]=.ok (.lst ((signs (tx l)).map λ_=>D.bl true)):=by
  simp [qW,bY,Qz,aH,cMe,hz2,hz,e]
 have it:jo "str" (ao 0) [.fz (.str (tx l))]=.ok (.bl true):=rfl;have c:∀Q:Zae,Q [.fz (.str (tx l))]=.ok (.lst ((signs (tx l)).map λ_=>D.bl true))->aW 1 1 (rK Q) [.str (tx l)]=.ok (false,.bl true):=by
  intro Q hq;simp [aW,rK,aM,gIf,cJ,it,gNx,bz,Me.let,Sl.let,vH,fTv,zM,fC,aX,aj,az,ao,eN,hz2,gLe,g1,g2,hq,e3]
 exact c _ q
open L2 (atI ixN Key)
def shD (q:Rat):D:=.tup [rD q,rD (1-q)]
def plD (Ns:List (List Nat))(q:List Nat->Rat):D:=.dct (Ns.map λn=>.inr (tx n)) (Ns.map λn=>shD (q n))
theorem Cp {q:List Nat->Rat}{n:List Nat}:∀{Ns:List (List Nat)},n∈Ns->zy (Ns.map λn=>.inr (tx n)) (Ns.map λn=>shD (q n)) (.inr (tx n))=some (shD (q n))
 |a::Ns,h=>by
  show (if (Sum.inr (tx a):Key)=.inr (tx n) then some (shD (q a)) else zy (Ns.map λn=>.inr (tx n)) (Ns.map λn=>shD (q n)) (.inr (tx n)))=_;by_cases c:a=n
  ·rw [c,if_pos rfl]
  ·rw [if_neg (λz=>c (gJ.mp (Sum.inr.inj z)))];rcases List.mem_cons.mp h with z | z
   ·exact absurd z.symm c
   ·exact Cp z
theorem yh {q:List Nat->Rat}{n:List Nat}{Ns:List (List Nat)}(h:n∈Ns):qy (plD Ns q) (.str (tx n))=some (shD (q n)):=by
 show (uw (.str (tx n))).bind _=_;exact Cp h
structure OkQ (q:Rat):Prop where
 lo:0<=q
 hi:q<=1
 s1:Sz 40 q
 s2:Sz 40 (1-q)
structure Gk (g:Gm)(s:Int)(Ns:List (List Nat)):Prop where
 len:iB g
 sd:sdG g
 dp:dp g<=50
 sz:szG g<=10000
 nm:(rowsOf g s).map nmR=Ns.map tx
 wd:∀d∈rowsOf g s,wdD d=2
 sh:Ns.length<=100
theorem OkQ.full {q:Rat}(h:OkQ q):dq [shD q,.int 2]=.ok (false,.bl true):=by
 have h0:=h.lo;have h1:=h.hi
 have:=Qa (S:=40) (by decide) (l:=[q,1-q]) (c:=2) rfl (λx hx=>by
  simp at hx;rcases hx with rfl | rfl
  ·exact ⟨Rat.num_nonneg.mpr h0,h.s1⟩
  ·exact ⟨Rat.num_nonneg.mpr (by grind),h.s2⟩) (by simp;grind) (by simp)
 exact this
theorem Gk.mem {g:Gm}{s:Int}{Ns:List (List Nat)}(G:Gk g s Ns){d:D}(h:d∈rowsOf g s):∃n∈Ns,nmR d=tx n:=by
 have:nmR d∈(rowsOf g s).map nmR:=List.mem_map_of_mem h
 rw [G.nm] at this;obtain ⟨n,h1,h2⟩:=List.mem_map.mp this;exact ⟨n,h1,h2.symm⟩
theorem Gk.cnt {g:Gm}{s:Int}{Ns:List (List Nat)}(G:Gk g s Ns):(rowsOf g s).length=Ns.length:=by
 have:=congrArg List.length G.nm
 simpa using this
theorem YD {g:Gm}{s:Int}{Ns Ms:List (List Nat)}{q:List Nat->Rat}(G:Gk g s Ns)(hl:Ms.length=Ns.length)(hm:∀n∈Ns,n∈Ms)(ho:∀n∈Ns,OkQ (q n)):gY [.lst (rowsOf g s),plD Ms q]=.ok (false,.bl true):=by
 have hc:=G.cnt;have h100:=G.sh;have hr:∀d∈rowsOf g s,K8 d:=λd hd=>BR (List.mem_filter.mp hd).1;have ec:bV (hName 0) cM ig [.un,.fz (plD Ms q)] (rowsOf g s)=.ok ((rowsOf g s).map λ_=>.bl true):=by
  have:=mH (h:=hName 0) (ft:=cM) (fe:=ig) (m0:=[.un,.fz (plD Ms q)]) (g:=id) (f:=λ_=>.bl true) (rowsOf g s) λd hd=>by
   refine ⟨[.fz d,.fz (plD Ms q)],rfl,rfl,?_⟩;obtain ⟨n,hn,en⟩:=G.mem hd;have hw:=G.wd d hd;have ho':=(ho n hn).full;have gg:=yh (q:=q) (hm n hn);obtain ⟨s',n',ws,r,rfl⟩:=hr d hd;have en:n'=tx n:=en;subst en;have hw:(jr ws).length=2:=hw;have x1:∀a b c d:D,atI [a,b,c,d] 1=some b:=λ_ _ _ _=>rfl;have x2:∀a b c d:D,atI [a,b,c,d] 2=some c:=λ_ _ _ _=>rfl;have gi:UJ (.str (tx n)) (plD Ms q)=some true:=by
    simp [UJ,plD,uw,Cp (hm n hn)]
   have ln:eN [.tup (jr ws)]=some (.int 2):=by simp [eN,hw]
   simp [ig,vH,qG,aD,ao,fC,gIx,pC,x1,x2,gi,gg,fFn,aj,az,aX,ln,ho',fTv]
  simpa using this
 generalize hR:rowsOf g s=Rs at *;have z1:Rs.length<=16777216:=by omega
 have eq:lH [.fz (.lst Rs),.fz (plD Ms q)]=.ok (.lst (Rs.map λ_=>.bl true)):=by
  have eb:(Sl.fz (plD Ms q)).bor=.fz (plD Ms q):=rfl;simp [lH,bY,jA,ao,cMe,eb,ec,z1]
 have ea:=Lq (f:=λ_:D=>D.bl true) (l:=Rs) λ_ _=>rfl;have l1:eN [plD Ms q]=some (.int Rs.length):=by simp [eN,plD];omega
 have l2:eN [.lst Rs]=some (.int Rs.length):=rfl;have it:jo "dict" (ao 1) [.fz (.lst Rs),.fz (plD Ms q)]=.ok (.bl true):=rfl;simp [gY,oV,oF,aW,aM,gIf,gP,cJ,fTv,it,aU,aX,aj,az,ao,l1,l2,gNe,gNx,eq,ea,bz,Me.let,Sl.let]
theorem zB {g:Gm}{s:Int}{Ns Ms:List (List Nat)}{q:List Nat->Rat}(G:Gk g s Ns)(hl:Ms.length=Ns.length)(hm:∀n∈Ns,n∈Ms)(ho:∀n∈Ns,OkQ (q n)):cT [dG g,.int s,plD Ms q]=.ok (false,.non):=by
 have e1:=J6 (s:=s) G.len G.sd G.dp G.sz;have e2:=YD G hl hm ho;have e3:o8 [dG g,.int s,plD Ms q]=.ok (false,.bl true):=by
  simp [o8,vN,vY,aW,bz,Me.let,Sl.let,fFn,aj,az,aH,e1,e2]
 simp [cT,jG,jL,aW,gIf,cJ,fTv,fFn,aj,az,aH,e3,gNx]
def dZ (n:List Nat)(q:Rat):List Nat:=jl [32] [n,shq q,shq (1-q)]
def txP (Ns:List (List Nat))(q:List Nat->Rat):List Nat:=jl [59,32] (Ns.map λn=>dZ n (q n))
theorem K7:Str.ofString " " = tx [32]:=by decide +kernel
theorem Ij:Str.ofString "; " = tx [59,32]:=by decide +kernel
theorem qK {n:List Nat}{q:Rat}(hn:Nam n)(h:OkQ q):(dZ n q).length<=200:=by
 have h1:=xK h.s1;have h2:=xK h.s2;have h3:=hn.hi;simp [dZ,jl];omega
theorem GZ {n:List Nat}{q:Rat}(hn:Nam n)(h:OkQ q):qQ (.str (Str.ofString " ")) [.lst [.str (tx n),.str (tx (shq q)),.str (tx (shq (1-q)))]]=some (.str (tx (dZ n q))):=by
 have h1:=xK h.s1;have h2:=xK h.s2;have h3:=hn.hi;rw [K7];exact Mj (s:=[32]) (l:=[n,shq q,shq (1-q)]) (by simp [CZ];omega)
theorem Bo {Ns:List (List Nat)}{q:List Nat->Rat}(hN:∀n∈Ns,Nam n)(ho:∀n∈Ns,OkQ (q n))(hl:Ns.length<=100):qQ (.str (Str.ofString "; ")) [.lst (Ns.map λn=>.str (tx (dZ n (q n))))]=some (.str (tx (txP Ns q))):=by
 rw [Ij];have hs:∀Ms:List (List Nat),(∀n∈Ms,Nam n)->(∀n∈Ms,OkQ (q n))->CZ (Ms.map λn=>dZ n (q n))<=200*Ms.length:=by
  intro Ms;induction Ms with
  |nil=>intro _ _;simp [CZ]
  |cons a r ih=>
   intro h1 h2
   have:=ih (λn hn=>h1 n (List.mem_cons_of_mem _ hn)) (λn hn=>h2 n (List.mem_cons_of_mem _ hn))
   have h3:=qK (h1 a (by simp)) (h2 a (by simp));simp [CZ] at this ⊢;omega
 have:=Mj (s:=[59,32]) (l:=Ns.map λn=>dZ n (q n)) (by have:=hs Ns hN ho;simp;omega)
 simpa [txP,List.map_map,Function.comp_def] using this
theorem Ul {n:List Nat}{q:List Nat->Rat}{Ns:List (List Nat)}(hn:Nam n)(h:OkQ (q n))(hm:n∈Ns):jU [.fz (.str (tx n)),.fz (plD Ns q)]=.ok (.str (tx (dZ n (q n)))):=by
 have e1:=GZ hn h;have e2:=yh (q:=q) hm;have t1:=Py h.s1;have t2:=Py h.s2;have c:bV (hName 0) cM fU [.un] [rD (q n),rD (1-q n)]=.ok [.str (tx (shq (q n))),.str (tx (shq (1-q n)))]:=by
  have a1:fU [.fz (rD (q n))]=.ok (.str (tx (shq (q n)))):=by simp [fU,fFn,aj,az,aH,t1]
  have a2:fU [.fz (rD (1-q n))]=.ok (.str (tx (shq (1-q n)))):=by simp [fU,fFn,aj,az,aH,t2]
  simp [bV,hName,cM,a1,a2]
 have ad:cN (.lst [.str (tx n)]) (.lst [.str (tx (shq (q n))),.str (tx (shq (1-q n)))])=some (.lst [.str (tx n),.str (tx (shq (q n))),.str (tx (shq (1-q n)))]):=rfl;have e2:qy (plD Ns q) (.str (tx n))=some (.tup [rD (q n),rD (1-q n)]):=e2;generalize plD Ns q=P at *;generalize tx n=N at *;generalize rD (q n)=r1 at *;generalize rD (1-q n)=r2 at *;generalize tx (shq (q n))=u1 at *;generalize tx (shq (1-q n))=u2 at *;generalize tx (dZ n (q n))=R at *;simp [jU,iI,tyD,fC,aj,az,aD,fO,aH,ao,bY,kW,e2,cMe,c,ad,e1]
theorem Pq {Q:Zae}{a p:D}{l:D}{z:Str}(q:Q [.fz a,.fz p,.un]=.ok l)(j:qQ (.str (Str.ofString "; ")) [l]=some (.str z)):aW 3 2 (nT Q) [a,p]=.ok (false,.str z):=by
 simp [aW,nT,aM,bf,q,bz,Me.let,Sl.let,iI,tyD,fC,aj,az,ao,j]
theorem K5 {Ns Ms:List (List Nat)}{q:List Nat->Rat}(hN:∀n∈Ns,Nam n)(ho:∀n∈Ns,OkQ (q n))(hm:∀n∈Ms,n∈Ns)(hl:Ms.length<=100):nR [.lst (Ms.map λn=>.str (tx n)),plD Ns q]=.ok (false,.str (tx (txP Ms q))):=by
 have c:bV (hName 0) cM jU [.un,.fz (plD Ns q)] (Ms.map λn=>.str (tx n))=.ok (Ms.map λn=>.str (tx (dZ n (q n)))):=mH Ms λn hn=>⟨[.fz (.str (tx n)),.fz (plD Ns q)],rfl,rfl,Ul (hN n (hm n hn)) (ho n (hm n hn)) (hm n hn)⟩;have j:=Bo (λn hn=>hN n (hm n hn)) (λn hn=>ho n (hm n hn)) hl;refine Pq ?_ j;have z:Ms.length<=16777216:=by omega
 have eb:(Sl.fz (plD Ns q)).bor=.fz (plD Ns q):=rfl;simp [sH,bY,jA,ao,cMe,eb,c,z]
theorem O1 {n:List Nat}{q:List Nat->Rat}{Ms:List (List Nat)}{s:Int}{ws:Ws}{r:Rc}(hn:Nam n)(h:OkQ (q n))(hm:n∈Ms):gZ [.fz (pC s (tx n) ws r),.fz (plD Ms q)]=.ok (.str (tx (dZ n (q n)))):=by
 have e1:=GZ hn h;have e2:=yh (q:=q) hm;have t1:=Q8 h.s1;have t2:=Q8 h.s2;have c:bV (hName 0) cM fP [.un] [rD (q n),rD (1-q n)]=.ok [.str (tx (shq (q n))),.str (tx (shq (1-q n)))]:=by
  have a1:fP [.fz (rD (q n))]=.ok (.str (tx (shq (q n)))):=by simp [fP,fFn,aj,az,aH,t1]
  have a2:fP [.fz (rD (1-q n))]=.ok (.str (tx (shq (1-q n)))):=by simp [fP,fFn,aj,az,aH,t2]
  simp [bV,hName,cM,a1,a2]
 have ad:cN (.lst [.str (tx n)]) (.lst [.str (tx (shq (q n))),.str (tx (shq (1-q n)))])=some (.lst [.str (tx n),.str (tx (shq (q n))),.str (tx (shq (1-q n)))]):=rfl;have e2:qy (plD Ms q) (.str (tx n))=some (.tup [rD (q n),rD (1-q n)]):=e2;have x1:gIx (pC s (tx n) ws r) (.int 1)=some (.str (tx n)):=rfl;generalize pC s (tx n) ws r=W at *;generalize plD Ms q=P at *;generalize tx n=N at *;generalize rD (q n)=r1 at *;generalize rD (1-q n)=r2 at *;generalize tx (shq (q n))=u1 at *;generalize tx (shq (1-q n))=u2 at *;generalize tx (dZ n (q n))=R at *;simp [gZ,iI,tyD,fC,aj,az,aD,fO,aH,ao,bY,kW,x1,e2,cMe,c,ad,e1]
theorem RP {φ:Zac}{Q:Zae}{a b p l:D}{z:Str}(h:φ [a,b,p]=.ok (false,.non))(q:Q [.fz a,.fz b,.fz p,.un]=.ok l)(j:qQ (.str (Str.ofString "; ")) [l]=some (.str z)):aW 4 3 (nP φ Q) [a,b,p]=.ok (false,.str z):=by
 simp [aW,nP,aM,gEx,fFn,aj,az,aH,h,bf,q,bz,Me.let,Sl.let,iI,tyD,fC,ao,j]
theorem Eh {g:Gm}{s:Int}{Ns Ms:List (List Nat)}{q:List Nat->Rat}(G:Gk g s Ns)(hN:∀n∈Ns,Nam n)(hl:Ms.length=Ns.length)(hm:∀n∈Ns,n∈Ms)(ho:∀n∈Ns,OkQ (q n)):c7 [dG g,.int s,plD Ms q]=.ok (false,.str (tx (txP Ns q))):=by
 have j:=Bo hN ho G.sh;refine RP (zB G hl hm ho) ?_ j;have e1:=J6 (s:=s) G.len G.sd G.dp G.sz;have hc:=G.cnt;have h100:=G.sh;have hr:∀d∈rowsOf g s,K8 d:=λd hd=>BR (List.mem_filter.mp hd).1;have key:∀(Rs:List D) (Xs:List (List Nat)),(∀d∈Rs,K8 d)->Rs.map nmR=Xs.map tx->(∀n∈Xs,n∈Ns)->bV (hName 0) cM gZ [.un,.fz (plD Ms q)] Rs=.ok (Xs.map λn=>.str (tx (dZ n (q n)))):=by
  intro Rs;induction Rs with
  |nil=>
   intro Xs _ e _;cases Xs with
   |nil=>rfl
   |cons a b=>cases e
  |cons d Rs ih=>
   intro Xs hR e hX;cases Xs with
   |nil=>cases e
   |cons n Xs=>
    injection e with e3 e4
    have:=ih Xs (λd hd=>hR d (List.mem_cons_of_mem _ hd)) e4 (λn hn=>hX n (List.mem_cons_of_mem _ hn))
    obtain ⟨s',n',ws,r,rfl⟩:=hR d (by simp);have e3:n'=tx n:=e3;subst e3;have hn:=hX n (by simp);have w:=O1 (q:=q) (Ms:=Ms) (s:=s') (ws:=ws) (r:=r) (hN n hn) (ho n hn) (hm n hn);have e5:hName 0 (pC s' (tx n) ws r) [.un,.fz (plD Ms q)]=some [.fz (pC s' (tx n) ws r),.fz (plD Ms q)]:=rfl;show bV (hName 0) cM gZ [.un,.fz (plD Ms q)] (pC s' (tx n) ws r::Rs)=.ok (.str (tx (dZ n (q n)))::Xs.map λn=>.str (tx (dZ n (q n))));unfold bV;simp [e5,cM,w,this]
 have c:=key (rowsOf g s) Ns hr G.nm λ_ h=>h;have z:(rowsOf g s).length<=16777216:=by omega
 have eb:(Sl.fz (plD Ms q)).bor=.fz (plD Ms q):=rfl;have e1:iJ [dG g,.int s]=.ok (true,.lst (rowsOf g s)):=e1;generalize hR:rowsOf g s=Rs at *;simp [tD,bY,jA,fFn,aj,az,aH,e1,cMe,eb,c,z]
open L2 (atI ixN Key)
theorem Ce {n:List Nat}{q:Rat}(hn:Nam n):59∉dZ n q:=λh=>by
 simp [dZ,jl] at h;rcases h with h | h | h
 ·exact hn.no (.inr rfl) h
 ·exact Ca (.inr rfl) h
 ·exact Ca (.inr rfl) h
theorem TX {φ:Zac}{Q:Zae}{z n:Str}{a b r1 r2:D}(sp:tX (.str z) [.str (Str.ofString " ")]=some (.lst [.str n,a,b]))(h:φ [.str n]=.ok (false,.bl true))(q:Q [.fz (.str z),.fz (.lst [.str n,a,b])]=.ok (.lst [r1,r2])):
  aW 2 1 (pL φ Q) [.str z]=.ok (false,.tup [.str n,.tup [r1,r2]]):=by
 have x0:gIx (.lst [.str n,a,b]) (.int 0)=some (.str n):=rfl;have ln:eN [.lst [.str n,a,b]]=some (.int 3):=rfl;have gt:jB [.lst [r1,r2]]=some (.tup [r1,r2]):=rfl;simp [aW,pL,aM,bf,iI,tyD,fC,aj,az,ao,sp,gIf,gP,cJ,fTv,fFn,aD,x0,h,aU,aX,ln,gNx,bz,Me.let,Sl.let,aQ,q,gt]
theorem row_read {n:List Nat}{q:Rat}(hn:Nam n)(h:OkQ q):pY [.str (tx (dZ n q))]=.ok (false,.tup [.str (tx n),shD q]):=by
 have t1:=Te h.s1;have t2:=Te h.s2;have sp:tX (.str (tx (dZ n q))) [.str (Str.ofString " ")]=some (.lst [.str (tx n),.str (tx (shq q)),.str (tx (shq (1-q)))]):=by
  have hl:=qK hn h;rw [K7];show (if (tx (dZ n q)).length+2<=sizeLine/\((tx [32]).length == 0)=false then some (D.lst ((Txt.split (tx (dZ n q)) (tx [32])).map D.str)) else none)=_;have zl:sizeLine=16777216:=rfl;rw [if_pos ⟨by rw [bR];omega,by rw [bR];rfl⟩,show Txt.split (tx (dZ n q)) (tx [32])=[n,shq q,shq (1-q)].map tx from Pz (by simp) (λp hp=>by
   simp at hp;rcases hp with rfl | rfl | rfl
   ·exact hn.no (.inl rfl)
   ·exact Ca (.inl rfl)
   ·exact Ca (.inl rfl))]
  rfl
 refine TX sp (QX hn) ?_;have c:bV (hName 0) cM gF [.un] [.str (tx (shq q)),.str (tx (shq (1-q)))]=.ok [rD q,rD (1-q)]:=by
  have a1:gF [.fz (.str (tx (shq q)))]=.ok (rD q):=by simp [gF,fFn,aj,az,aH,t1]
  have a2:gF [.fz (.str (tx (shq (1-q))))]=.ok (rD (1-q)):=by simp [gF,fFn,aj,az,aH,t2]
  simp [bV,hName,cM,a1,a2]
 have sl:∀z a b c:D,fSl (ao 1) (fO1 (fC (.int 1))) fO0 [.fz z,.fz (.lst [a,b,c])]=.ok (.lst [b,c]):=λ_ _ _ _=>rfl;simp [vm,bY,jA,sl,cMe,c]
theorem G9 {Q:Zae}{z:Str}{l:D}(hz:¬z=Str.ofString "")(q:Q [.fz (.str z)]=.ok l):aW 1 1 (iK Q) [.str z]=.ok (false,l):=by
 simp [aW,iK,bz,Me.let,Sl.let,fIf,aU,ao,fC,gEq,hz,q]
theorem JP:Str.ofString "" = tx []:=by decide +kernel
theorem J8 {n:List Nat}{q:Rat}(hn:Nam n):dZ n q≠[]:=λh=>by
 have:=hn.lo
 have e:=congrArg List.length h;simp [dZ,jl] at e
theorem Sh {n:List Nat}{q:List Nat->Rat}(hn:Nam n)(h:OkQ (q n)):fZ [.str (tx (txP [n] q))]=.ok (false,.lst [.tup [.str (tx n),shD (q n)]]):=by
 show fZ [.str (tx (dZ n (q n)))]=_;have hl:=qK hn h;refine G9 (λz=>J8 hn (gJ.mp (z.trans JP))) ?_;have sp:tX (.str (tx (dZ n (q n)))) [.str (Str.ofString "; ")]=some (.lst [.str (tx (dZ n (q n)))]):=by
  rw [Ij];show (if (tx (dZ n (q n))).length+2<=sizeLine/\((tx [59,32]).length == 0)=false then some (D.lst ((Txt.split (tx (dZ n (q n))) (tx [59,32])).map D.str)) else none)=_;have zl:sizeLine=16777216:=rfl;rw [if_pos ⟨by rw [bR];omega,by rw [bR];rfl⟩,Oc (Ce hn)];rfl
 have r:=row_read hn h;have c:bV (hName 0) cM cX [.un] [.str (tx (dZ n (q n)))]=.ok [.tup [.str (tx n),shD (q n)]]:=by
  have a1:cX [.fz (.str (tx (dZ n (q n))))]=.ok (.tup [.str (tx n),shD (q n)]):=by simp [cX,fFn,aj,az,aH,r]
  simp [bV,hName,cM,a1]
 simp [oR,bY,jA,iI,tyD,fC,aj,az,ao,sp,cMe,c]
theorem S7 {n m:List Nat}{q:List Nat->Rat}(hn:Nam n)(hm:Nam m)(h:OkQ (q n))(h':OkQ (q m)):fZ [.str (tx (txP [n,m] q))]=.ok (false,.lst [.tup [.str (tx n),shD (q n)],.tup [.str (tx m),shD (q m)]]):=by
 have e0:txP [n,m] q=dZ n (q n)++59::32::dZ m (q m):=by simp [txP,jl]
 rw [e0];have hl:=qK hn h;have hl':=qK hm h';refine G9 (λz=>J8 (q:=q n) hn (by have:=gJ.mp (z.trans JP);simp at this)) ?_;have sp:tX (.str (tx (dZ n (q n)++59::32::dZ m (q m)))) [.str (Str.ofString "; ")]=some (.lst [.str (tx (dZ n (q n))),.str (tx (dZ m (q m)))]):=by
  rw [Ij];show (if (tx (dZ n (q n)++59::32::dZ m (q m))).length+2<=sizeLine/\((tx [59,32]).length == 0)=false then some (D.lst ((Txt.split (tx (dZ n (q n)++59::32::dZ m (q m))) (tx [59,32])).map D.str)) else none)=_;have zl:sizeLine=16777216:=rfl;rw [if_pos ⟨by rw [bR];simp;omega,by rw [bR];rfl⟩,Jk (Ce hn) (Ce hm) (by decide) (by decide) (by decide)];rfl
 have r:=row_read hn h;have r':=row_read hm h';have c:bV (hName 0) cM cX [.un] [.str (tx (dZ n (q n))),.str (tx (dZ m (q m)))]=.ok [.tup [.str (tx n),shD (q n)],.tup [.str (tx m),shD (q m)]]:=by
  have a1:cX [.fz (.str (tx (dZ n (q n))))]=.ok (.tup [.str (tx n),shD (q n)]):=by simp [cX,fFn,aj,az,aH,r]
  have a2:cX [.fz (.str (tx (dZ m (q m))))]=.ok (.tup [.str (tx m),shD (q m)]):=by simp [cX,fFn,aj,az,aH,r']
  simp [bV,hName,cM,a1,a2]
 simp [oR,bY,jA,iI,tyD,fC,aj,az,ao,sp,cMe,c]
def Two (Ns:List (List Nat)):Prop:=(∃a,Ns=[a])\/∃a b,Ns=[a,b]/\a≠b
theorem Dz {φ ψ:Zac}{g s:D}{z:Str}{l:List D}{ks:List Key}{ds:List D}(r:ψ [.str z]=.ok (false,.lst l))(dl:tR [.lst l]=some (.dct ks ds))(hk:ks.length=l.length)(h:φ [g,s,.dct ks ds]=.ok (false,.non)):
  aW 5 3 (nM φ ψ) [g,s,.str z]=.ok (true,.dct ks ds):=by
 have it:jo "str" (ao 2) [.fz g,.fz s,.fz (.str z),.un,.un]=.ok (.bl true):=rfl;have l1:eN [.dct ks ds]=some (.int l.length):=by simp [eN,hk]
 have l2:eN [.lst l]=some (.int l.length):=rfl;have fl:flat .non=true:=rfl;simp [aW,nM,aM,gIf,cJ,fTv,it,gNx,bf,fFn,aj,az,aH,r,iZ,aX,ao,dl,aU,l1,l2,gLt,gEx,ye,Sl.bor,h,fl,sG,Me.let,Sl.let]
theorem Pg {g:Gm}{s:Int}{Ns Ms:List (List Nat)}{q:List Nat->Rat}(G:Gk g s Ns)(hN:∀n∈Ms,Nam n)(ho:∀n∈Ms,OkQ (q n))(hl:Ms.length=Ns.length)(hm:∀n∈Ns,n∈Ms)(h2:Two Ms):dJ [dG g,.int s,.str (tx (txP Ms q))]=.ok (true,plD Ms q):=by
 have hr:=zB G hl hm (q:=q) λn hn=>ho n (hm n hn);rcases h2 with ⟨a,rfl⟩ | ⟨a,b,rfl,ab⟩
 ·have dl:tR [.lst [.tup [.str (tx a),shD (q a)]]]=some (.dct [.inr (tx a)] [shD (q a)]):=by simp [tR,O8,Ft,uw,putD]
  exact Dz (Sh (hN a (by simp)) (ho a (by simp))) dl rfl hr
 ·have ne:¬(tx a=tx b):=λz=>ab (gJ.mp z);have dl:tR [.lst [.tup [.str (tx a),shD (q a)],.tup [.str (tx b),shD (q b)]]]=some (.dct [.inr (tx a),.inr (tx b)] [shD (q a),shD (q b)]):=by simp [tR,O8,Ft,uw,putD,ne]
  exact Dz (S7 (hN a (by simp)) (hN b (by simp)) (ho a (by simp)) (ho b (by simp))) dl rfl hr
theorem ZX (q:Rat):pK (shD q) (shD q)=some true:=Hi (by rfl) (by show (2:Nat)<=64;decide)
theorem RV {q:List Nat->Rat}{Ns:List (List Nat)}:∀{Ms:List (List Nat)},(∀n∈Ms,n∈Ns)->zE (Ns.map λn=>.inr (tx n)) (Ns.map λn=>shD (q n)) (Ms.map λn=>.inr (tx n)) (Ms.map λn=>shD (q n))=some true
 |[],_=>rfl
 |a::Ms,h=>by
  rw [List.map_cons,List.map_cons];unfold zE;rw [Cp (h a (by simp))];simp only [ZX,Option.bind_some,RV (λn hn=>h n (List.mem_cons_of_mem _ hn)),Option.map_some,Bool.and_true]
theorem Qi {q:List Nat->Rat}{Ns Ms:List (List Nat)}(hl:Ms.length=Ns.length)(h:∀n∈Ms,n∈Ns):BV (plD Ms q) (plD Ns q)=some false:=by
 have:HQ (plD Ms q) (plD Ns q)=some true:=by
  show (if (Ms.map _).length=(Ns.map _).length then _ else _)=_;rw [if_pos (by simp [hl])];exact RV h
 unfold BV;rw [this];rfl
theorem Oa {L:Zab}{d e:D}{m:Me}(h:BV d e=some false)(hd:iG d = "dict")(l:L [.fz d,.fz e,.un,.un]=.ok (.nx,m)):aW 4 2 (my L) [d,e]=.ok (false,.bl true):=by
 have it:jo "dict" (ao 0) [.fz d,.fz e,.un,.un]=.ok (.bl true):=by simp [jo,ao,hd,G6]
 simp [aW,my,aM,gIf,gP,cJ,fTv,it,aU,ao,h,gNx,l,bz,fC]
theorem Vx {q:List Nat->Rat}{Ms:List (List Nat)}{e:D}{n:List Nat}{u:Sl}(h:n∈Ms):∃u':Sl,f9 [.fz (plD Ms q),.fz e,.fz (.str (tx n)),u]=.ok (.nx,[.fz (plD Ms q),.fz e,.fz (.str (tx n)),u']):=by
 have gg:qy (plD Ms q) (.str (tx n))=some (.tup [rD (q n),rD (1-q n)]):=yh h;refine ⟨.fz (rD (1-q n)),?_⟩;generalize plD Ms q=P at *;have st:∀(r:Rat) (u:Sl),mJ [.fz P,.fz e,.fz (.str (tx n)),.fz (rD r)]=.ok (.nx,[.fz P,.fz e,.fz (.str (tx n)),.fz (rD r)]):=λr u=>rfl;have lp:bM (hName 3) mJ [rD (q n),rD (1-q n)] [.fz P,.fz e,.fz (.str (tx n)),u]=.ok (.nx,[.fz P,.fz e,.fz (.str (tx n)),.fz (rD (1-q n))]):=by
  rw [bF (m1:=[.fz P,.fz e,.fz (.str (tx n)),.fz (rD (q n))]) rfl (st _ u),bF (m1:=[.fz P,.fz e,.fz (.str (tx n)),.fz (rD (1-q n))]) rfl (st _ u)];rfl
 have fg:aD qy (ao 0) (ao 2) [.fz P,.fz e,.fz (.str (tx n)),u]=.ok (.tup [rD (q n),rD (1-q n)]):=by simp [aD,ao,gg]
 simp [f9,rn,aM,gIf,cJ,fTv,jo,fg,iG,G6,gNx,g8,kW,lp]
theorem Lp {q:List Nat->Rat}{Ns Ms:List (List Nat)}(hl:Ms.length=Ns.length)(h:∀n∈Ms,n∈Ns):fL [plD Ms q,plD Ns q]=.ok (false,.bl true):=by
 have lp:∀(Xs:List (List Nat)) (u v:Sl),(∀n∈Xs,n∈Ms)->∃u' v',bM (hName 2) f9 (Xs.map λn=>.str (tx n)) [.fz (plD Ms q),.fz (plD Ns q),u,v]=.ok (.nx,[.fz (plD Ms q),.fz (plD Ns q),u',v']):=by
  intro Xs;induction Xs with
  |nil=>intro u v _;exact ⟨u,v,rfl⟩
  |cons a r ih=>
   intro u v hX;obtain ⟨v1,e1⟩:=Vx (q:=q) (e:=plD Ns q) (u:=v) (hX a (by simp));obtain ⟨u',v',e2⟩:=ih (.fz (.str (tx a))) v1 λn hn=>hX n (List.mem_cons_of_mem _ hn);refine ⟨u',v',?_⟩;rw [List.map_cons,bF (m1:=[.fz (plD Ms q),.fz (plD Ns q),.fz (.str (tx a)),v]) rfl e1];exact e2
 obtain ⟨u,v,e⟩:=lp Ms .un .un λ_ h=>h;refine Oa (Qi hl h) rfl (m:=[.fz (plD Ms q),.fz (plD Ns q),u,v]) ?_;have ek:(Ms.map λn=>(Sum.inr (tx n):Key)).map keyV=Ms.map λn=>.str (tx n):=by simp [keyV,List.map_map,Function.comp_def]
 show noX (bM (hName 2) f9 ((Ms.map λn=>(Sum.inr (tx n):Key)).map keyV) [.fz (plD Ms q),.fz (plD Ns q),.un,.un])=_;rw [ek,e];rfl
open L2 (atI ixN Key)
theorem bqS {i:Int}(h1:-1000000000000000000000000000000<=i)(h2:i<=1000000000000000000000000000000):Bq i:=by
 have e:(2:Nat) ^ 100=1267650600228229401496703205376:=by decide
 exact Pk.Wl (k:=100) (by rw [e];omega)
theorem bgT {i:Int}(h1:-1000000000000000000000000000000<=i)(h2:i<=1000000000000000000000000000000):Bg i:=aak (bqS h1 h2)
theorem kZ {a b:Int}(hb:0<b):iy (.int a) (.int b)=some (.int (a % b)):=by
 have:¬b=0:=by omega
 simp [iy,mdI,this,hb]
theorem Ba {a b:Int}(hb:0<b)(h2:b<=1000000000000):vB (.int a) (.int b)=some (.int (a / b)):=by
 have h3:¬b=0:=by omega
 have h4:=bqS (i:=b) (by omega) (by omega);simp [vB,dvI,hb,h3,h4]
theorem lM {a b:Int}(h1:-1000000000000000000000000000000<=a)(h2:a<=1000000000000000000000000000000)(h3:-1000000000000000000000000000000<=b)(h4:b<=1000000000000000000000000000000):lO (.int a) (.int b)=some (.int (a*b)):=by
 simp [lO,bgT h1 h2,bgT h3 h4]
theorem sX (a b:Int):cN (.int a) (.int b)=some (.int (a+b)):=rfl
theorem Am (a b:Int):v5 (.int a) (.int b)=some (.int (a-b)):=rfl
theorem Ut:∀(n:Nat) (a b:Int) (z:Sl),b.toNat=n->0<=a->0<=b->∃k z',wh jH jF k [.fz (.int a),.fz (.int b),z]=some (.ok (.nx,[.fz (.int (gI a b)),.fz (.int 0),z'])):=by
 intro n;induction n using Nat.strongRecOn with
 |_ n ih=>
  intro a b z hn ha hb;by_cases h0:b=0
  ·subst h0;refine ⟨1,z,?_⟩;rw [J4 ha];exact CG rfl
  ·have hb':0<b:=by omega
   have hm:=Int.emod_lt_of_pos a hb';have hm0:=Int.emod_nonneg a h0;obtain ⟨k,z',e⟩:=ih (a % b).toNat (by omega) b (a % b) (.fz (.int (a % b))) rfl hb hm0;rw [J5 ha hb'] at e;refine ⟨k+1,z',Es (m':=[.fz (.int b),.fz (.int (a % b)),.fz (.int (a % b))]) ?_ ?_ e⟩
   ·have:gGt (.int b) (.int 0)=some true:=by simp [gGt,hb']
    simp [jH,aU,ao,fC,this]
   ·simp [jF,aM,bf,aD,ao,aH,iy,mdI,h0,hb']
theorem div_eq {a b:Int}(ha:0<=a)(hb:0<=b):fB [.int a,.int b]=.ok (false,.int (gI a b)):=by
 obtain ⟨k,z',e⟩:=Ut _ a b .un rfl ha hb;have e2:=wg k e;simp [fB,aW,ni,mZ,ph,aM,e2,bz,Me.let,Sl.let,aH]
theorem X3 {t b:Int}(hb:0<b):lt t b=t / gI t b/\lb t b=b / gI t b:=by
 have hg:=Wo t b;unfold lt lb dv;rw [if_neg (by omega),Int.fdiv_eq_ediv_of_nonneg _ hg,Int.fdiv_eq_ediv_of_nonneg _ hg];exact ⟨rfl,rfl⟩
theorem Qh {t b:Int}(hb:0<b):rD (Rat.divInt t b)=.tup [.int (t / gI t b),.int (b / gI t b)]:=by
 have e:=JC (t:=t) (b:=b) (by omega);obtain ⟨h1,h2⟩:=X3 (t:=t) hb;rw [h1,h2] at e;show qD (rq _)=_;rw [← e];rfl
theorem one_sub {t b:Int}(hb:0<b):1-Rat.divInt t b=Rat.divInt (b-t) b:=by
 have hb':b≠0:=by omega
 have e1:(1:Rat)=Rat.divInt b b:=by
  rw [Rat.divInt_self' hb']
 have e2:=Rat.divInt_sub_divInt b t hb' hb';rw [e1,e2,Rat.divInt_eq_divInt_iff (Int.mul_ne_zero hb' hb') hb'];grind
def iT (y:Int):Int:=if y % 5=4 then 10000000001+y else 1+y % 12
def o6 (y:Int):Int:=y / 12*9973 % (iT y+1)
def qs (y:Int):Rat:=Rat.divInt (o6 y) (iT y)
theorem JK {y:Int}(h0:0<=y)(h1:y<=2000000):1<=iT y/\iT y<=10010000001:=by unfold iT;split<;>omega
theorem Wn {y:Int}(h0:0<=y)(h1:y<=2000000):0<=o6 y/\o6 y<=iT y:=by
 have:=JK h0 h1
 unfold o6;have h2:=Int.emod_nonneg (y / 12*9973) (b:=iT y+1) (by omega);have h3:=Int.emod_lt_of_pos (y / 12*9973) (b:=iT y+1) (by omega);omega
theorem WM {y:Int}(h0:0<=y)(h1:y<=2000000):OkQ (qs y):=by
 obtain ⟨l1,l2⟩:=JK h0 h1;obtain ⟨t1,t2⟩:=Wn h0 h1;have e40:(2:Nat) ^ 40=1099511627776:=by decide
 have e:=one_sub (t:=o6 y) (b:=iT y) (by omega);have n1:0<=Rat.divInt (o6 y) (iT y):=Rat.divInt_nonneg t1 (by omega);have n2:0<=Rat.divInt (iT y-o6 y) (iT y):=Rat.divInt_nonneg (by omega) (by omega);refine ⟨n1,?_,IK (by omega) (by rw [e40];omega) (by rw [e40];omega),?_⟩
 ·show Rat.divInt (o6 y) (iT y)<=1;grind
 ·show Sz 40 (1-Rat.divInt (o6 y) (iT y));rw [e];exact IK (by omega) (by rw [e40];omega) (by rw [e40];omega)
theorem Xr {φ:Zac}{y l t b:Int}(h0:0<=y)(h1:y<=2000000)(hl:iT y=l)(ht:o6 y=t)(hb:0<b)(hb2:b<=1000000000000)(h:φ [.int l,.int t]=.ok (false,.int b)):
  aW 4 1 (ie φ) [.int y]=.ok (false,.tup [.tup [.int (t / b),.int (l / b)],.tup [.int ((l-t) / b),.int (l / b)]]):=by
 have d1:=kZ (a:=y) (b:=12) (by decide);have d2:=kZ (a:=y) (b:=5) (by decide);have d3:=Ba (a:=y) (b:=12) (by decide) (by decide);have d4:=lM (a:=y / 12) (b:=9973) (by omega) (by omega) (by decide) (by decide);have pw:W4 (.int 10) (.int 10)=some (.int 10000000000):=rfl;have lb':=JK h0 h1;have d5:=kZ (a:=y / 12*9973) (b:=l+1) (by omega);have ht:y / 12*9973 % (l+1)=t:=by rw [← hl];exact ht
 rw [ht] at d5;have d6:=Ba (a:=t) (b:=b) hb hb2;have d7:=Ba (a:=l) (b:=b) hb hb2;have d8:=Ba (a:=l-t) (b:=b) hb hb2;unfold iT at hl;by_cases c:y % 5=4
 ·rw [if_pos c] at hl;have a1:cN (.int 10000000001) (.int y)=some (.int l):=by rw [sX,hl]
  have c':gEq (.int (y % 5)) (.int 4)=some true:=by simp [gEq,c]
  simp [aW,ie,aM,bf,aD,ao,fC,d1,sX,gIf,aU,d2,c',pw,a1,d3,d4,d5,fFn,aj,az,aH,h,bz,Me.let,Sl.let,aQ,Am,d6,d7,d8]
 ·rw [if_neg c] at hl;have a1:cN (.int 1) (.int (y % 12))=some (.int l):=by rw [sX,hl]
  have c':gEq (.int (y % 5)) (.int 4)=some false:=by simp [gEq,c]
  have a2:cN (.int l) (.int 1)=some (.int (l+1)):=rfl;simp [aW,ie,aM,bf,aD,ao,fC,d1,a1,a2,gIf,aU,d2,c',gNx,d3,d4,d5,fFn,aj,az,aH,h,bz,Me.let,Sl.let,aQ,Am,d6,d7,d8]
theorem M8 {y:Int}(h0:0<=y)(h1:y<=2000000):j8 [.int y]=.ok (false,shD (qs y)):=by
 obtain ⟨l1,l2⟩:=JK h0 h1;obtain ⟨t1,t2⟩:=Wn h0 h1;have hd:=div_eq (a:=iT y) (b:=o6 y) (by omega) t1;have gc:gI (iT y) (o6 y)=gI (o6 y) (iT y):=by unfold gI;rw [Int.gcd_comm]
 rw [gc] at hd;have gp:0<gI (o6 y) (iT y):=Ey (by omega);have gl:=Wv (a:=o6 y) (b:=iT y) (by omega);have r:=Xr (φ:=fB) h0 h1 rfl rfl gp (by omega) hd;have gs:gI (iT y-o6 y) (iT y)=gI (o6 y) (iT y):=by unfold gI;rw [Int.gcd_self_sub_left]
 have e1:=Qh (t:=o6 y) (b:=iT y) (by omega);have e2:=Qh (t:=iT y-o6 y) (b:=iT y) (by omega);rw [gs,← one_sub (by omega)] at e2;refine Eq.trans r ?_;show _=Res.ok (false,D.tup [rD (Rat.divInt (o6 y) (iT y)),rD (1-Rat.divInt (o6 y) (iT y))]);rw [e1,e2]
open L2 (atI ixN Key)
def nmD (Ns:List (List Nat)):List D:=Ns.map λn=>.str (tx n)
theorem Rv {sh se te:Zac}{L2 L4 L8:Zab}{Q6:Zae}{g s x N P H M:D}{z z2:Str}{u5 u7:Sl}{m:Me}{b:Bool}
  (h1:se [g,s]=.ok (b,N)) (h2:L2 [.fz g,.fz s,.fz x,.fz N,.ow (.dct [] []),.un,.un,.un,.un,.un,.un,.un]=.ok (.nx,[.fz g,.fz s,.fz x,.fz N,.ow P,u5,.un,.un,.un,.un,.un,.un]))
  (h4:L4 [.fz g,.fz s,.fz x,.fz N,.ow P,u5,.ow (.dct [] []),.un,.un,.un,.un,.un]=.ok (.nx,[.fz g,.fz s,.fz x,.fz N,.ow P,u5,.ow H,u7,.un,.un,.un,.un]))
  (t1:te [N,P]=.ok (false,.str z)) (s1:sh [g,s,H]=.ok (false,.str z)) (ne:BV H P=some false)
  (q6:Q6 [.fz g,.fz s,.fz x,.fz N,.ow P,u5,.ow H,u7,.fz (.str z),.un,.un,.un]=.ok M) (t2:te [M,P]=.ok (false,.str z2))
  (h8:L8 [.fz g,.fz s,.fz x,.fz N,.ow P,u5,.ow H,u7,.fz (.str z),.fz (.str z2),.un,.un]=.ok (.nx,m)):
  aW 12 3 (n6 sh se te L2 L4 Q6 L8) [g,s,x]=.ok (false,.bl true):=by
 have fl:∀z:Str,flat (.str z)=true:=λ_=>rfl;have nz:gNe (.str z) (.str z)=some false:=by simp [gNe,gEq]
 simp [aW,n6,aM,bf,fFn,aj,az,aH,h1,iZ,sW,h2,h4,ye,ao,t1,fl,gIf,gP,aU,s1,nz,ne,gNx,q6,t2,h8,bz,fC]
theorem Jz {g:Gm}{s:Int}{Ns Ms:List (List Nat)}{q:List Nat->Rat}{x N H u5 u7 u9 u11:Sl}(G:Gk g s Ns)(hN:∀n∈Ns,Nam n)(ho:∀n∈Ns,OkQ (q n))(hl:Ms.length=Ns.length)(hm:∀n∈Ns,n∈Ms)(hm':∀n∈Ms,n∈Ns)(h2:Two Ms):
  ∃u,oU [.fz (dG g),.fz (.int s),x,N,.ow (plD Ns q),u5,H,u7,.fz (.str (tx (txP Ns q))),u9,.fz (.str (tx (txP Ms q))),u11] =
   .ok (.nx,[.fz (dG g),.fz (.int s),x,N,.ow (plD Ns q),u5,H,u7,.fz (.str (tx (txP Ns q))),u9,.fz (.str (tx (txP Ms q))),u]):=by
 have e1:=Pg G (λn hn=>hN n (hm' n hn)) (λn hn=>ho n (hm' n hn)) hl hm h2 (q:=q);have e2:=Lp (q:=q) hl hm';have e3:=Eh G hN hl hm ho (Ms:=Ms);have fl:∀z:Str,flat (.str z)=true:=λ_=>rfl;have flb:∀b:Bool,flat (.bl b)=true:=λ_=>rfl;have nz:gNe (.str (tx (txP Ns q))) (.str (tx (txP Ns q)))=some false:=by simp [gNe,gEq]
 have it:isTup (plD Ms q)=false:=rfl;have h100:=G.sh;have od:∀(a b c d e f g h i j k:Sl),Nu [a,b,c,d,e,f,g,h,i,j,k,.ow (plD Ms q)] 11=some (true,Ms.map λn=>.inr (tx n),Ms.map λn=>shD (q n)):=λ_ _ _ _ _ _ _ _ _ _ _=>rfl;have hz:(Ms.map λn=>(Sum.inr (tx n):Key)).length<16777216:=by rw [List.length_map];omega
 have kd:uw (.str (Str.ofString "none"))=some (.inr (Str.ofString "none")):=rfl;refine ⟨.ow (.dct (putD (Ms.map λn=>.inr (tx n)) (Ms.map λn=>shD (q n)) (.inr (Str.ofString "none")) (.tup [])).1 (putD (Ms.map λn=>.inr (tx n)) (Ms.map λn=>shD (q n)) (.inr (Str.ofString "none")) (.tup [])).2),?_⟩;generalize hT:tx (txP Ns q)=T at *;generalize hT2:tx (txP Ms q)=T2 at *;generalize hP:plD Ns q=P at *;generalize hR:plD Ms q=R at *;generalize (Ms.map λn=>(Sum.inr (tx n):Key))=ks at *;generalize (Ms.map λn=>shD (q n))=ds at *;generalize dG g=gd at *;simp [oU,aM,iZ,HW,aj,az,aH,e1,it,gIf,gP,cJ,fTv,ye,ao,e2,flb,aU,e3,fl,nz,gNx,yU,aQ,fC,od,kd,hz,JB]
def qn (a:List Nat)(x:Int)(n:List Nat):Rat:=if n=a then qs x else qs (x / 2+7)
theorem Zx {a n:List Nat}{x:Int}(h0:0<=x)(h1:x<=1000003):OkQ (qn a x n):=by
 unfold qn;split
 ·exact WM h0 (by omega)
 ·exact WM (by omega) (by omega)
theorem uD {g s u6 u7 u8 u9 u10 u11:Sl}{N:D}{n:List Nat}{x:Int}{k:Nat}{y:Int}{ks:List Key}{ds:List D}(hn:gIx N (.int k)=some (.str (tx n)))(hk:k<=1)(hy:x / ((k:Int)+1)+7*k=y)(h0:0<=y)(h1:y<=2000000)(hl:ks.length<=100):
  oY [g,s,.fz (.int x),.fz N,.ow (.dct ks ds),.fz (.int k),u6,u7,u8,u9,u10,u11] =
   .ok (.nx,[g,s,.fz (.int x),.fz N,.ow (.dct (putD ks ds (.inr (tx n)) (shD (qs y))).1 (putD ks ds (.inr (tx n)) (shD (qs y))).2),.fz (.int k),u6,u7,u8,u9,u10,u11]):=by
 have e1:=M8 h0 h1;have e2:=Ba (a:=x) (b:=(k:Int)+1) (by omega) (by omega);have e3:=lM (a:=7) (b:=(k:Int)) (by decide) (by decide) (by omega) (by omega);have e4:cN (.int (x / ((k:Int)+1))) (.int (7*(k:Int)))=some (.int y):=by rw [sX,hy]
 have od:∀(a b c d f g h i j k l:Sl),Nu [a,b,c,d,.ow (.dct ks ds),f,g,h,i,j,k,l] 4=some (true,ks,ds):=λ_ _ _ _ _ _ _ _ _ _ _=>rfl;have hz:ks.length<16777216:=by omega
 have a1:cN (.int (k:Int)) (.int 1)=some (.int ((k:Int)+1)):=rfl;have kd:uw (.str (tx n))=some (.inr (tx n)):=rfl;generalize shD (qs y)=Y at *;generalize (k:Int)=kk at *;simp [oY,yU,aD,ao,fC,fFn,aj,az,a1,e2,e3,e4,e1,od,hn,kd,hz,JB]
theorem MF {g s x N u5 u8 u9 u10 u11:Sl}{Ns:List (List Nat)}{q:List Nat->Rat}{n:List Nat}{ks:List Key}{ds:List D}(hn:n∈Ns)(hl:ks.length<=100):
  oK [g,s,x,N,.ow (plD Ns q),u5,.ow (.dct ks ds),.fz (.str (tx n)),u8,u9,u10,u11] =
   .ok (.nx,[g,s,x,N,.ow (plD Ns q),u5,.ow (.dct (putD ks ds (.inr (tx n)) (shD (q n))).1 (putD ks ds (.inr (tx n)) (shD (q n))).2),.fz (.str (tx n)),u8,u9,u10,u11]):=by
 have e1:=yh (q:=q) hn;have od:∀(a b c d e f h i j k l:Sl),Nu [a,b,c,d,e,f,.ow (.dct ks ds),h,i,j,k,l] 6=some (true,ks,ds):=λ_ _ _ _ _ _ _ _ _ _ _=>rfl;have hz:ks.length<16777216:=by omega
 have kd:uw (.str (tx n))=some (.inr (tx n)):=rfl;generalize shD (q n)=Y at *;generalize plD Ns q=P at *;simp [oK,yU,aD,ao,aH,e1,od,kd,hz,JB]
theorem VP {Ns:List (List Nat)}(h:Two Ns):Two Ns.reverse:=by
 rcases h with ⟨a,rfl⟩ | ⟨a,b,rfl,ab⟩
 ·exact .inl ⟨a,rfl⟩
 ·exact .inr ⟨b,a,rfl,λz=>ab z.symm⟩
def rot (Ns:List (List Nat))(x:Int):List (List Nat):=if x % 2=1 then Ns.reverse else Ns
theorem T3 {Ns:List (List Nat)}{x:Int}(h:Two Ns):Two (rot Ns x)/\(rot Ns x).length=Ns.length/\∀n,n∈rot Ns x↔n∈Ns:=by
 unfold rot;split
 ·exact ⟨VP h,by simp,by simp⟩
 ·exact ⟨h,rfl,λ_=>Iff.rfl⟩
theorem Xn {g:Gm}{s:Int}{Ns:List (List Nat)}{x:Int}{b:Bool}(G:Gk g s Ns)(hN:∀n∈Ns,Nam n)(h2:Two Ns)(hs:cF 30 [dG g,.int s]=.ok (b,.lst (nmD Ns)))(h0:0<=x)(h1:x<=1000003):kY [dG g,.int s,.int x]=.ok (false,.bl true):=by
 obtain ⟨a,ha⟩:∃a,Ns.head? = some a:=by rcases h2 with ⟨a,rfl⟩ | ⟨a,b,rfl,_⟩<;>exact ⟨a,rfl⟩
 have ho:∀n∈Ns,OkQ (qn a x n):=λn _=>Zx h0 h1;have h100:=G.sh;have t1:=K5 (Ms:=Ns) hN ho (λ_ h=>h) h100;have r2:=T3 (x:=x) h2;have t2:=K5 (Ms:=rot Ns x) hN ho (λn h=>(r2.2.2 n).mp h) (by rw [r2.2.1];exact h100);have s1:=Eh G hN (Ms:=Ns.reverse) (by simp) (by simp) ho;have ne:=Qi (q:=qn a x) (Ns:=Ns) (Ms:=Ns.reverse) (by simp) (by simp);have L2:∃u5,jW [.fz (dG g),.fz (.int s),.fz (.int x),.fz (.lst (nmD Ns)),.ow (.dct [] []),.un,.un,.un,.un,.un,.un,.un]=.ok (.nx,[.fz (dG g),.fz (.int s),.fz (.int x),.fz (.lst (nmD Ns)),.ow (plD Ns (qn a x)),u5,.un,.un,.un,.un,.un,.un]):=by
  rcases h2 with ⟨C,rfl⟩ | ⟨C,d,rfl,cd⟩
  ·cases ha;have st:=λ(ks:List Key) (ds:List D) (hl:ks.length<=100)=>uD (g:=.fz (dG g)) (s:=.fz (.int s)) (u6:=.un) (u7:=.un) (u8:=.un) (u9:=.un) (u10:=.un) (u11:=.un) (N:=.lst (nmD [a])) (n:=a) (x:=x) (k:=0) (y:=x) (ks:=ks) (ds:=ds) rfl (by decide) (by simp) h0 (by omega) hl;refine ⟨.fz (.int (0:Nat)),?_⟩;have it:gU (aj (aX eN (aj (ao 3) az)) az) [.fz (dG g),.fz (.int s),.fz (.int x),.fz (.lst (nmD [a])),.ow (.dct [] []),.un,.un,.un,.un,.un,.un,.un]=.ok [.int (0:Nat)]:=(yr (j:=1) rfl (by decide) (by decide)).trans rfl;unfold jW g8;rw [it];show bM _ _ _ _=_;rw [bF (m1:=[.fz (dG g),.fz (.int s),.fz (.int x),.fz (.lst (nmD [a])),.ow (.dct [] []),.fz (.int (0:Nat)),.un,.un,.un,.un,.un,.un]) rfl (st _ _ (by simp))];have q0:qn a x a=qs x:=if_pos rfl;simp [bM,putD,plD,q0]
  ·cases ha;have st:=λ(k:Nat) (n:List Nat) (y:Int) (ks:List Key) (ds:List D) (hk:k<=1) (hn:gIx (.lst (nmD [a,d])) (.int k)=some (.str (tx n))) (hy:x / ((k:Int)+1)+7*k=y) (y0:0<=y) (y1:y<=2000000) (hl:ks.length<=100)=>uD (g:=.fz (dG g)) (s:=.fz (.int s)) (u6:=.un) (u7:=.un) (u8:=.un) (u9:=.un) (u10:=.un) (u11:=.un) (N:=.lst (nmD [a,d])) (ds:=ds) hn hk hy y0 y1 hl;refine ⟨.fz (.int (1:Nat)),?_⟩;have it:gU (aj (aX eN (aj (ao 3) az)) az) [.fz (dG g),.fz (.int s),.fz (.int x),.fz (.lst (nmD [a,d])),.ow (.dct [] []),.un,.un,.un,.un,.un,.un,.un]=.ok [.int (0:Nat),.int (1:Nat)]:=(yr (j:=2) rfl (by decide) (by decide)).trans rfl;unfold jW g8;rw [it];show bM _ _ _ _=_;rw [bF (m1:=[.fz (dG g),.fz (.int s),.fz (.int x),.fz (.lst (nmD [a,d])),.ow (.dct [] []),.fz (.int (0:Nat)),.un,.un,.un,.un,.un,.un]) rfl (st 0 a x _ _ (by decide) rfl (by simp) h0 (by omega) (by simp)),
    bF (m1:=[.fz (dG g),.fz (.int s),.fz (.int x),.fz (.lst (nmD [a,d])),.ow (.dct [.inr (tx a)] [shD (qs x)]),.fz (.int (1:Nat)),.un,.un,.un,.un,.un,.un]) rfl (st 1 d (x / 2+7) _ _ (by decide) rfl (by simp) (by omega) (by omega) (by simp))]
   have q0:qn a x a=qs x:=if_pos rfl;have q1:qn a x d=qs (x / 2+7):=if_neg λz=>cd z.symm;have ne:¬(tx a=tx d):=λz=>cd (gJ.mp z);simp [bM,putD,plD,q0,q1,ne]
 obtain ⟨u5,L2⟩:=L2;have L4:∃u7,j4 [.fz (dG g),.fz (.int s),.fz (.int x),.fz (.lst (nmD Ns)),.ow (plD Ns (qn a x)),u5,.ow (.dct [] []),.un,.un,.un,.un,.un]=.ok (.nx,[.fz (dG g),.fz (.int s),.fz (.int x),.fz (.lst (nmD Ns)),.ow (plD Ns (qn a x)),u5,.ow (plD Ns.reverse (qn a x)),u7,.un,.un,.un,.un]):=by
  have st:=λ(n:List Nat) (ks:List Key) (ds:List D) (hn:n∈Ns) (hl:ks.length<=100)=>MF (g:=.fz (dG g)) (s:=.fz (.int s)) (x:=.fz (.int x)) (N:=.fz (.lst (nmD Ns))) (u5:=u5) (u8:=.un) (u9:=.un) (u10:=.un) (u11:=.un) (q:=qn a x) (ds:=ds) hn hl;rcases h2 with ⟨c,rfl⟩ | ⟨c,d,rfl,cd⟩
  ·refine ⟨.fz (.str (tx c)),?_⟩;have it:Ko (aj (aH 3) az) [.fz (dG g),.fz (.int s),.fz (.int x),.fz (.lst (nmD [c])),.ow (plD [c] (qn a x)),u5,.ow (.dct [] []),.un,.un,.un,.un,.un]=.ok [.str (tx c)]:=rfl;unfold j4 g8;rw [it];show bM _ _ _ _=_;rw [bF (m1:=[.fz (dG g),.fz (.int s),.fz (.int x),.fz (.lst (nmD [c])),.ow (plD [c] (qn a x)),u5,.ow (.dct [] []),.fz (.str (tx c)),.un,.un,.un,.un]) rfl (st c _ _ (by simp) (by simp))];simp [bM,putD,plD]
  ·refine ⟨.fz (.str (tx c)),?_⟩;have it:Ko (aj (aH 3) az) [.fz (dG g),.fz (.int s),.fz (.int x),.fz (.lst (nmD [c,d])),.ow (plD [c,d] (qn a x)),u5,.ow (.dct [] []),.un,.un,.un,.un,.un]=.ok [.str (tx d),.str (tx c)]:=rfl;unfold j4 g8;rw [it];show bM _ _ _ _=_;rw [bF (m1:=[.fz (dG g),.fz (.int s),.fz (.int x),.fz (.lst (nmD [c,d])),.ow (plD [c,d] (qn a x)),u5,.ow (.dct [] []),.fz (.str (tx d)),.un,.un,.un,.un]) rfl (st d _ _ (by simp) (by simp)),
    bF (m1:=[.fz (dG g),.fz (.int s),.fz (.int x),.fz (.lst (nmD [c,d])),.ow (plD [c,d] (qn a x)),u5,.ow (.dct [.inr (tx d)] [shD (qn a x d)]),.fz (.str (tx c)),.un,.un,.un,.un]) rfl (st c _ _ (by simp) (by simp))]
   have ne:¬(tx d=tx c):=λz=>cd (gJ.mp z).symm;simp [bM,putD,plD,ne]
 obtain ⟨u7,L4⟩:=L4;have Q6:jV [.fz (dG g),.fz (.int s),.fz (.int x),.fz (.lst (nmD Ns)),.ow (plD Ns (qn a x)),u5,.ow (plD Ns.reverse (qn a x)),u7,.fz (.str (tx (txP Ns (qn a x)))),.un,.un,.un]=.ok (.lst (nmD (rot Ns x))):=by
  have go:∀(k:Int) (n:Int) (hn:0<n) (l:List D) (r:D) (hl:eN [.lst l]=some (.int n)) (hr:gIx (.lst l) (.int ((k+x) % n))=some r),kI [.fz (.int k),.fz (.lst l),.fz (.int x)]=.ok r:=λk n hn l r hl hr=>by
   have e1:=kZ (a:=k+x) (b:=n) hn;simp [kI,aD,ao,sX,aX,aj,az,hl,e1,hr]
  have key:∀(l ys:List D),bV (hName 0) cM kI [.un,.fz (.lst (nmD Ns)),.fz (.int x)] l=.ok ys->gU (aj (aX eN (aj (ao 3) az)) az) [.fz (dG g),.fz (.int s),.fz (.int x),.fz (.lst (nmD Ns)),.ow (plD Ns (qn a x)),u5,.ow (plD Ns.reverse (qn a x)),u7,.fz (.str (tx (txP Ns (qn a x)))),.un,.un,.un]=.ok l->l.length<=100->
    jV [.fz (dG g),.fz (.int s),.fz (.int x),.fz (.lst (nmD Ns)),.ow (plD Ns (qn a x)),u5,.ow (plD Ns.reverse (qn a x)),u7,.fz (.str (tx (txP Ns (qn a x)))),.un,.un,.un]=.ok (.lst ys):=λl ys c it hl=>by
   have eb:cMe 1 [3,2] [.fz (dG g),.fz (.int s),.fz (.int x),.fz (.lst (nmD Ns)),.ow (plD Ns (qn a x)),u5,.ow (plD Ns.reverse (qn a x)),u7,.fz (.str (tx (txP Ns (qn a x)))),.un,.un,.un]=[.un,.fz (.lst (nmD Ns)),.fz (.int x)]:=rfl;have hz:l.length<=16777216:=by omega
   unfold jV bY;rw [it];simp [hz,eb,c]
  rcases h2 with ⟨c,rfl⟩ | ⟨c,d,rfl,cd⟩
  ·refine key [.int (0:Nat)] _ ?_ ((yr (j:=1) rfl (by decide) (by decide)).trans rfl) (by simp);have e1:=go (0:Nat) 1 (by decide) (nmD [c]) (.str (tx c)) rfl (by rw [Int.emod_one];rfl);have er:rot [c] x=[c]:=by unfold rot;split<;>rfl
   rw [er];have h1:hName 0 (.int (0:Nat)) [.un,.fz (.lst (nmD [c])),.fz (.int x)]=some [.fz (.int (0:Nat)),.fz (.lst (nmD [c])),.fz (.int x)]:=rfl;simp only [bV,h1,cM,e1];rfl
  ·refine key [.int (0:Nat),.int (1:Nat)] _ ?_ ((yr (j:=2) rfl (by decide) (by decide)).trans rfl) (by simp);have h1:∀k:Int,hName 0 (.int k) [.un,.fz (.lst (nmD [c,d])),.fz (.int x)]=some [.fz (.int k),.fz (.lst (nmD [c,d])),.fz (.int x)]:=λ_=>rfl;by_cases o:x % 2=1
   ·have e1:=go (0:Nat) 2 (by decide) (nmD [c,d]) (.str (tx d)) rfl (by rw [show ((0:Nat)+x) % 2=1 by omega];rfl);have e2:=go (1:Nat) 2 (by decide) (nmD [c,d]) (.str (tx c)) rfl (by rw [show ((1:Nat)+x) % 2=0 by omega];rfl);have er:rot [c,d] x=[d,c]:=by unfold rot;rw [if_pos o];rfl
    rw [er];simp only [bV,h1,cM,e1,e2];rfl
   ·have e1:=go (0:Nat) 2 (by decide) (nmD [c,d]) (.str (tx c)) rfl (by rw [show ((0:Nat)+x) % 2=0 by omega];rfl);have e2:=go (1:Nat) 2 (by decide) (nmD [c,d]) (.str (tx d)) rfl (by rw [show ((1:Nat)+x) % 2=1 by omega];rfl);have er:rot [c,d] x=[c,d]:=by unfold rot;rw [if_neg o]
    rw [er];simp only [bV,h1,cM,e1,e2];rfl
 have f:=λ(Ms:List (List Nat)) (hl:Ms.length=Ns.length) (hi:∀n,n∈Ms↔n∈Ns) (t:Two Ms) (u:Sl)=>Jz (x:=.fz (.int x)) (N:=.fz (.lst (nmD Ns))) (H:=.ow (plD Ns.reverse (qn a x))) (u5:=u5) (u7:=u7) (u9:=.fz (.str (tx (txP (rot Ns x) (qn a x))))) (u11:=u) G hN ho hl (λn h=>(hi n).mpr h) (λn h=>(hi n).mp h) t;obtain ⟨v1,f1⟩:=f Ns rfl (λ_=>Iff.rfl) h2 .un;obtain ⟨v2,f2⟩:=f (rot Ns x) r2.2.1 r2.2.2 r2.1 v1;obtain ⟨v3,f3⟩:=f Ns rfl (λ_=>Iff.rfl) h2 v2;refine Rv hs L2 L4 t1 s1 ne Q6 t2 (m:=[.fz (dG g),.fz (.int s),.fz (.int x),.fz (.lst (nmD Ns)),.ow (plD Ns (qn a x)),u5,.ow (plD Ns.reverse (qn a x)),u7,.fz (.str (tx (txP Ns (qn a x)))),.fz (.str (tx (txP (rot Ns x) (qn a x)))),.fz (.str (tx (txP Ns (qn a x)))),v3]) ?_;unfold sJ g8;have it:∀(T T2:Str) (a b c d e f g h:Sl),kW (aQ (aj (aH 8) (aj (aH 9) (aj (aH 8) az)))) [a,b,c,d,e,f,g,h,.fz (.str T),.fz (.str T2),.un,.un]=.ok [.str T,.str T2,.str T]:=λ_ _ _ _ _ _ _ _ _ _=>rfl;rw [it];show bM _ _ _ _=_;rw [bF rfl f1,bF rfl f2,bF rfl f3];rfl
open L2 (atI ixN Key)
open Lw (sgn WD JV La ss)
def szN (x:Int):Int:=1+x % 8
def atN (x y:Int):Int:=y % szN x
def nI (x y:Int)(k j:Nat):Int:=(x / ((j:Int)+1)+(j:Int)*j+((k:Int)+1)*(if (j:Int)=atN x y then 1 else 0)) % 36
def nS (x y:Int)(k:Nat):List Nat:=(List.range (szN x).toNat).map λj=>sgn (nI x y k j)
def nst (x y:Int)(c l:Int)(N:List D)(k:Sl)(w j:Sl):Me:=[.fz (.int x),.fz (.int y),.fz (.int c),.fz (.str "abcdefghijklmnopqrstuvwxyz0123456789"),.fz (.int l),.fz (.int (atN x y)),.ow (.lst N),k,w,j]
theorem N7 {x y c l:Int}{N:List D}{acc:List Nat}{k j:Nat}(hk:k<=100)(hj:j<=8)(ha:acc.length<=100):
  gh (nst x y c l N (.fz (.int k)) (.fz (.str (tx acc))) (.fz (.int (j:Int))))=.ok (.nx,nst x y c l N (.fz (.int k)) (.fz (.str (tx (acc++[sgn (nI x y k j)])))) (.fz (.int (j:Int)))):=by
 have b1:0<=nI x y k j/\nI x y k j<36:=by unfold nI;omega
 have e1:=WD b1;have e2:=lM (a:=(j:Int)) (b:=(j:Int)) (by omega) (by omega) (by omega) (by omega);have e3:=Ba (a:=x) (b:=(j:Int)+1) (by omega) (by omega);have e4:zX [.bl (decide ((j:Int)=atN x y))]=some (.int (if (j:Int)=atN x y then 1 else 0)):=by simp [zX]
 have e5:=lM (a:=(k:Int)+1) (b:=if (j:Int)=atN x y then 1 else 0) (by omega) (by omega) (by split<;>omega) (by split<;>omega);have e6:iy (.int (x / ((j:Int)+1)+(j:Int)*j+((k:Int)+1)*(if (j:Int)=atN x y then 1 else 0))) (.int 36)=some (.int (nI x y k j)):=kZ (by decide);have e7:cN (.str (tx acc)) (.str (tx [sgn (nI x y k j)]))=some (.str (tx (acc++[sgn (nI x y k j)]))):=by
  show (if (tx acc).length+(tx [sgn (nI x y k j)]).length<=sizeLine then some (D.str (tx acc++tx [sgn (nI x y k j)])) else none)=_;rw [if_pos,mO];rw [bR,bR];have z:sizeLine=16777216:=rfl
  simp
  omega
 have e8:gEq (.int (j:Int)) (.int (atN x y))=some (decide ((j:Int)=atN x y)):=rfl;unfold nst;generalize (if (j:Int)=atN x y then (1:Int) else 0)=ii at *;generalize decide ((j:Int)=atN x y)=bb at *;generalize nI x y k j=nj at *;generalize atN x y=ax at *;generalize D.str "abcdefghijklmnopqrstuvwxyz0123456789" = Z at *;simp only [gh,bf,aD,ao,fC,aX,aj,az,qG];simp [e1,e2,sX,e3,e4,e5,e6,e7,e8]
theorem Bc {x y c l:Int}{N:List D}{k:Nat}(hk:k<=100):∀(d i:Nat) (acc:List Nat) (s:Sl),i+d<=8->acc.length+d<=100->∃s':Sl,
  bM (hName 9) gh ((List.range' i d).map λ(j:Nat)=>D.int j) (nst x y c l N (.fz (.int k)) (.fz (.str (tx acc))) s)=.ok (.nx,nst x y c l N (.fz (.int k)) (.fz (.str (tx (acc++(List.range' i d).map λj=>sgn (nI x y k j))))) s')
 |0,i,acc,s,_,_=>⟨s,by simp [bM]⟩
 |d+1,i,acc,s,h1,h2=>by
  have st:=N7 (x:=x) (y:=y) (c:=c) (l:=l) (N:=N) (acc:=acc) (k:=k) (j:=i) hk (by omega) (by omega);obtain ⟨s',e⟩:=Bc hk d (i+1) (acc++[sgn (nI x y k i)]) (.fz (.int (i:Int))) (by omega) (by simp;omega);refine ⟨s',?_⟩;rw [List.range'_succ,List.map_cons,bF (m1:=nst x y c l N (.fz (.int k)) (.fz (.str (tx acc))) (.fz (.int (i:Int)))) rfl st,e]
  simp
theorem HY {x y c:Int}{N:List D}{k:Nat}{w s:Sl}(hk:k<=100)(hN:N.length<=100):∃w' s':Sl,jd (nst x y c (szN x) N (.fz (.int k)) w s)=.ok (.nx,nst x y c (szN x) (N++[.str (tx (nS x y k))]) (.fz (.int k)) w' s'):=by
 have l1:1<=szN x/\szN x<=8:=by unfold szN;omega
 obtain ⟨s',e⟩:=Bc (x:=x) (y:=y) (c:=c) (l:=szN x) (N:=N) (k:=k) hk (szN x).toNat 0 [] s (by omega) (by simp;omega);refine ⟨.fz (.str (tx (nS x y k))),s',?_⟩;have e:bM (hName 9) gh ((List.range (szN x).toNat).map λ(j:Nat)=>D.int j) (nst x y c (szN x) N (.fz (.int k)) (.fz (.str (tx []))) s)=.ok (.nx,nst x y c (szN x) N (.fz (.int k)) (.fz (.str (tx (nS x y k)))) s'):=by
  rw [List.range_eq_range',e];simp [nS,List.range_eq_range']
 have hi:gU (aj (ao 4) az) (nst x y c (szN x) N (.fz (.int k)) (.fz (.str (tx []))) s)=.ok ((List.range (szN x).toNat).map λ(j:Nat)=>D.int j):=yr rfl (by omega) (by omega);have el:mQ (nst x y c (szN x) N (.fz (.int k)) (.fz (.str (tx []))) s)=.ok (.nx,nst x y c (szN x) N (.fz (.int k)) (.fz (.str (tx (nS x y k)))) s'):=by
  unfold mQ g8;rw [hi];exact e
 have ez:D.str (Str.ofString "")=.str (tx []):=congrArg D.str JP;have e0:bf 8 (fC (.str "")) (nst x y c (szN x) N (.fz (.int k)) w s)=.ok (.nx,nst x y c (szN x) N (.fz (.int k)) (.fz (.str (tx []))) s):=by
  rw [← ez];rfl
 have ol:yw (nst x y c (szN x) N (.fz (.int k)) (.fz (.str (tx (nS x y k)))) s') 6=some (true,N):=rfl;have hz:N.length<16777216:=by omega
 have ea:fY 6 (aH 8) (nst x y c (szN x) N (.fz (.int k)) (.fz (.str (tx (nS x y k)))) s')=.ok (.nx,nst x y c (szN x) (N++[.str (tx (nS x y k))]) (.fz (.int k)) (.fz (.str (tx (nS x y k)))) s'):=by
  unfold fY;rw [ol]
  have:aH 8 (nst x y c (szN x) N (.fz (.int k)) (.fz (.str (tx (nS x y k)))) s')=.ok (.str (tx (nS x y k))):=rfl
  simp [this,hz];rfl
 simp [jd,aM,e0,el,ea]
theorem yN {x y c:Int}:∀(d i:Nat) (N:List D) (a w s:Sl),i+d<=100->N.length+d<=100->∃a' w' s':Sl,
  bM (hName 7) jd ((List.range' i d).map λ(j:Nat)=>D.int j) (nst x y c (szN x) N a w s)=.ok (.nx,nst x y c (szN x) (N++(List.range' i d).map λk=>.str (tx (nS x y k))) a' w' s')
 |0,i,N,a,w,s,_,_=>⟨a,w,s,by simp [bM]⟩
 |d+1,i,N,a,w,s,h1,h2=>by
  obtain ⟨w1,s1,st⟩:=HY (x:=x) (y:=y) (c:=c) (N:=N) (k:=i) (w:=w) (s:=s) (by omega) (by omega);obtain ⟨a',w',s',e⟩:=yN (x:=x) (y:=y) (c:=c) d (i+1) (N++[.str (tx (nS x y i))]) (.fz (.int (i:Int))) w1 s1 (by omega) (by simp;omega);refine ⟨a',w',s',?_⟩;rw [List.range'_succ,List.map_cons,bF (m1:=nst x y c (szN x) N (.fz (.int (i:Int))) w s) rfl st,e]
  simp
theorem M6 {L:Zab}{x y c:Int}{N:List D}{a w s:Sl}(e:L (nst x y c (szN x) [] .un .un .un)=.ok (.nx,nst x y c (szN x) N a w s)):aW 10 3 (lX L) [.int x,.int y,.int c]=.ok (true,.lst N):=by
 have e1:=kZ (a:=x) (b:=8) (by decide);have e2:cN (.int 1) (.int (x % 8))=some (.int (szN x)):=rfl;have e4:iy (.int y) (.int (szN x))=some (.int (atN x y)):=kZ (by unfold szN;omega);unfold aW lX;unfold nst at e;generalize szN x=lx at *;generalize atN x y=ax at *;generalize D.str "abcdefghijklmnopqrstuvwxyz0123456789" = Z at *;simp [aM,bf,fC,aD,ao,e1,e2,e4,iZ,fO,az,e,sG]
theorem zp {x y:Int}{c:Nat}(hc:c<=10):jm [.int x,.int y,.int c]=.ok (true,.lst ((List.range c).map λk=>.str (tx (nS x y k)))):=by
 obtain ⟨a,w,s,e⟩:=yN (x:=x) (y:=y) (c:=c) c 0 [] .un .un .un (by omega) (by simp;omega);refine M6 (a:=a) (w:=w) (s:=s) ?_;have hi:gU (aj (ao 2) az) (nst x y c (szN x) [] .un .un .un)=.ok ((List.range (c:Int).toNat).map λ(j:Nat)=>D.int j):=yr rfl (by omega) (by omega);unfold rH g8;rw [hi]
 have:((c:Int)).toNat=c:=by omega
 rw [this,List.range_eq_range'];refine Eq.trans e ?_;simp [List.range_eq_range']
theorem Qc (x y:Int)(k:Nat):Nam (nS x y k):=by
 have l1:1<=szN x/\szN x<=8:=by unfold szN;omega
 have l2:(nS x y k).length=(szN x).toNat:=by simp [nS]
 refine ⟨by omega,by omega,λc hc=>?_⟩;obtain ⟨j,_,rfl⟩:=List.mem_map.mp hc;have hm:=La (i:=nI x y k j) (by unfold nI;omega);have all:∀c∈ss,97<=c/\c<=122\/48<=c/\c<=57:=by decide
 exact all _ hm
theorem Wf {x y:Int}{k l:Nat}(hk:k<=20)(hl:l<=20)(h:nS x y k=nS x y l):k=l:=by
 have l1:1<=szN x/\szN x<=8:=by unfold szN;omega
 have a1:0<=atN x y/\atN x y<szN x:=by unfold atN;exact ⟨Int.emod_nonneg _ (by omega),Int.emod_lt_of_pos _ (by omega)⟩
 have g:∀k,(nS x y k)[(atN x y).toNat]? = some (sgn (nI x y k (atN x y).toNat)):=λk=>by
  unfold nS;rw [List.getElem?_map,List.getElem?_range (by omega)];rfl
 have e2:sgn (nI x y k (atN x y).toNat)=sgn (nI x y l (atN x y).toNat):=by
  have:=g k
  rw [h,g l] at this;exact (Option.some.inj this).symm
 have e3:=JV (by unfold nI;omega) (by unfold nI;omega) e2;unfold nI at e3;have t:(((atN x y).toNat:Nat):Int)=atN x y:=by omega
 rw [t,if_pos rfl] at e3;generalize atN x y*atN x y=aa at *;omega
theorem YS (ns:List Int)(hz:ns.length<=1000):∃f:Nat->Int,(∀k,0<=f k/\f k<1000003)/\jf [.lst (ns.map D.int)]=.ok (true,.lst ((List.range 40).map λk=>.int (f k))):=by
 have cl:∀k:Nat,∃v:Int,Lw.cY [.lst (ns.map D.int),.int (k:Int)]=.ok (false,.int v):=λk=>Lw.cell_eq ns k hz
 let v:=λk=>(cl k).choose
 have hv:∀k:Nat,Lw.cY [.lst (ns.map D.int),.int (k:Int)]=.ok (false,.int (v k)):=λk=>(cl k).choose_spec;refine ⟨λk=>((v k) % 1000000007+53*k*k+23*k+6)*45991 % 1000003,λk=>⟨Int.emod_nonneg _ (by decide),Int.emod_lt_of_pos _ (by decide)⟩,?_⟩;have c:bV (hName 0) cM jz [.un,.fz (.lst (ns.map D.int))] ((List.range 40).map λ(k:Nat)=>D.int k)=.ok ((List.range 40).map λk=>.int (((v k) % 1000000007+53*k*k+23*k+6)*45991 % 1000003)):=mH (List.range 40) λk hk=>by
  have hk:k<40:=List.mem_range.mp hk;refine ⟨[.fz (.int (k:Int)),.fz (.lst (ns.map D.int))],rfl,rfl,?_⟩;have e1:=hv k;generalize v k=vk at *;have d1:=kZ (a:=vk) (b:=1000000007) (by decide);have m1:=lM (a:=53) (b:=(k:Int)) (by decide) (by decide) (by omega) (by omega);have m2:=lM (a:=53*(k:Int)) (b:=(k:Int)) (by omega) (by omega) (by omega) (by omega);have m3:=lM (a:=23) (b:=(k:Int)) (by decide) (by decide) (by omega) (by omega);have kk:0<=53*(k:Int)*k/\53*(k:Int)*k<=100000:=by
   have h1:53*(k:Int)*k<=2120*40:=Int.mul_le_mul (by omega) (by omega) (by omega) (by omega);have h2:0<=53*(k:Int)*k:=Int.mul_nonneg (by omega) (by omega);omega
  have hp:=Int.emod_nonneg vk (b:=1000000007) (by decide);have hq:=Int.emod_lt_of_pos vk (b:=1000000007) (by decide);have m4:=lM (a:=vk % 1000000007+53*k*k+23*k+6) (b:=45991) (by omega) (by omega) (by decide) (by decide);have d2:=kZ (a:=(vk % 1000000007+53*k*k+23*k+6)*45991) (b:=1000003) (by decide);generalize (k:Int)=kz at *;simp [jz,aD,fFn,aj,az,aH,ao,fC,e1,d1,m1,m2,m3,sX,m4,d2]
 have hi:gU (aj (fC (.int 40)) az) [.fz (.lst (ns.map D.int))]=.ok ((List.range 40).map λ(k:Nat)=>D.int k):=(yr (j:=40) rfl (by decide) (by decide)).trans rfl;have eb:cMe 1 [0] [.fz (.lst (ns.map D.int))]=[.un,.fz (.lst (ns.map D.int))]:=rfl;have q:jw [.fz (.lst (ns.map D.int))]=.ok (.lst ((List.range 40).map λk=>.int (((v k) % 1000000007+53*k*k+23*k+6)*45991 % 1000003))):=by
  unfold jw bY;rw [hi];have hl:((List.range 40).map λ(k:Nat)=>D.int k).length<=sizeLine:=by simp
  simp only [Res.bind,if_pos hl,eb,c]
 have run:∀(Q:Zae) (l:D),Q [.fz (.lst (ns.map D.int))]=.ok l->aW 1 1 (jc Q) [.lst (ns.map D.int)]=.ok (true,l):=λQ l h=>by
  simp [aW,jc,iD,Me.let,Sl.let,h]
 exact run _ _ q
open L2 (atI ixN Key)
def prt (s:Int)(p w2 w3:List Nat)(c:Bool)(a b:Int):Gm:=if c then .fin (a,1) else .move s (tx p) (.cons (.str (tx w2)) (.fin (a,1)) (.cons (.str (tx w3)) (.fin (b,1)) .nil))
theorem uL {c:Nat}{F:Nat->D}{i:Nat}(h:i<c):gIx (.lst ((List.range c).map F)) (.int (i:Int))=some (F i):=by
 show atI ((List.range c).map F) (i:Int)=_;have h':¬((i:Int)<0):=by omega
 unfold atI ixN;simp [h,h']
abbrev xsD (f:Nat->Int):D:=.lst ((List.range 40).map λk=>.int (f k))
abbrev nsD (c:Nat)(N:Nat->List Nat):D:=.lst ((List.range c).map λk=>.str (tx (N k)))
def sel (v:Int)(k j:Nat):Nat:=if v=0 then 0 else if v=1 then j else k
theorem YG {v:Int}{k j:Nat}(h0:0<=v)(h1:v<3):gIx (.lst [.int 0,.int j,.int k]) (.int v)=some (.int (sel v k j:Nat)):=by
 have:v=0\/v=1\/v=2:=by omega
 rcases this with rfl | rfl | rfl<;>rfl
def gst (f:Nat->Int)(A B C:Nat->List Nat)(fi sh:Int)(W:List D)(k:Sl)(P j a b d:Sl):Me:=[.fz (xsD f),.fz (.int fi),.fz (nsD 2 A),.fz (nsD 2 B),.fz (nsD 4 C),.fz (.int sh),.ow (.lst W),k,P,j,a,b,d,.un,.un]
def stk (f:Nat->Int)(k j i:Nat):Int:=f (8+4*k+2*j+i) % 15 - 7
theorem Qt {f:Nat->Int}{k j:Nat}{A B C:Nat->List Nat}{fi sh:Int}{W:List D}{P a b d:Sl}(hk:k<=1)(hj:j<=1):
  j9 (gst f A B C fi sh W (.fz (.int k)) P (.fz (.int j)) a b d)=.ok (.lst [qD (stk f k j 0,1),qD (stk f k j 1,1)]):=by
 have one:∀i:Nat,i<=1->kO [.fz (.int (i:Int)),.fz (xsD f),.fz (.int j),.fz (.int k)]=.ok (qD (stk f k j i,1)):=λi hi=>by
  have m1:=lM (a:=4) (b:=(k:Int)) (by decide) (by decide) (by omega) (by omega);have m2:=lM (a:=2) (b:=(j:Int)) (by decide) (by decide) (by omega) (by omega);have ix:=uL (c:=40) (F:=λk=>.int (f k)) (i:=8+4*k+2*j+i) (by omega);have ix:gIx (xsD f) (.int (8+4*(k:Int)+2*(j:Int)+(i:Int)))=some (.int (f (8+4*k+2*j+i))):=by
   rw [← ix];congr 2
  have d1:=kZ (a:=f (8+4*k+2*j+i)) (b:=15) (by decide);generalize xsD f=X at *;simp [kO,aQ,aj,az,aD,ao,fC,m1,m2,sX,ix,d1,Am,qD,stk]
 have hi:gU (aj (fC (.int 2)) az) (gst f A B C fi sh W (.fz (.int k)) P (.fz (.int j)) a b d)=.ok [.int (0:Nat),.int (1:Nat)]:=(yr (j:=2) rfl (by decide) (by decide)).trans rfl;have eb:cMe 1 [0,9,7] (gst f A B C fi sh W (.fz (.int k)) P (.fz (.int j)) a b d)=[.un,.fz (xsD f),.fz (.int j),.fz (.int k)]:=rfl;have hn:∀i:Int,hName 0 (.int i) [.un,.fz (xsD f),.fz (.int j),.fz (.int k)]=some [.fz (.int i),.fz (xsD f),.fz (.int j),.fz (.int k)]:=λ_=>rfl;have c:bV (hName 0) cM kO [.un,.fz (xsD f),.fz (.int j),.fz (.int k)] [.int (0:Nat),.int (1:Nat)]=.ok [qD (stk f k j 0,1),qD (stk f k j 1,1)]:=by
  simp only [bV,hn,cM,one 0 (by decide),one 1 (by decide)]
 unfold j9 bY;rw [hi];have hl:[D.int ((0:Nat):Int),D.int ((1:Nat):Int)].length<=sizeLine:=by simp
 simp only [Res.bind,if_pos hl,eb,c]
def prK (f:Nat->Int)(B C:Nat->List Nat)(fi:Int)(k j:Nat):Gm:=prt (3-fi) (B (sel (f 16 % 3) k j)) (C 2) (C 3) (decide (j=1/\f 17 % 2=1)) (stk f k j 0) (stk f k j 1)
theorem Az {f:Nat->Int}{k j:Nat}{A B C:Nat->List Nat}{fi sh:Int}{W Ps:List D}{a b d:Sl}(hk:k<=1)(hj:j<=1)(hP:Ps.length<=100):∃a' b' d',
  oH (gst f A B C fi sh W (.fz (.int k)) (.ow (.lst Ps)) (.fz (.int j)) a b d)=.ok (.nx,gst f A B C fi sh W (.fz (.int k)) (.ow (.lst (Ps++[.tup [.str (tx (C j)),dG (prK f B C fi k j)]]))) (.fz (.int j)) a' b' d'):=by
 have e1:=Qt (f:=f) (A:=A) (B:=B) (C:=C) (fi:=fi) (sh:=sh) (W:=W) (P:=.ow (.lst Ps)) (a:=a) (b:=b) (d:=d) hk hj;have i16:=uL (c:=40) (F:=λk=>.int (f k)) (i:=16) (by omega);have i17:=uL (c:=40) (F:=λk=>.int (f k)) (i:=17) (by omega);have i16:gIx (xsD f) (.int 16)=some (.int (f 16)):=i16;have i17:gIx (xsD f) (.int 17)=some (.int (f 17)):=i17;have d1:=kZ (a:=f 16) (b:=3) (by decide);have d2:=kZ (a:=f 17) (b:=2) (by decide);have sx:=YG (v:=f 16 % 3) (k:=k) (j:=j) (Int.emod_nonneg _ (by decide)) (Int.emod_lt_of_pos _ (by decide));have sl:sel (f 16 % 3) k j<2:=by unfold sel;split<;>(try split)<;>omega
 have ib:gIx (nsD 2 B) (.int (sel (f 16 % 3) k j:Nat))=some (.str (tx (B (sel (f 16 % 3) k j)))):=uL (F:=λk=>.str (tx (B k))) sl;have c2:gIx (nsD 4 C) (.int 2)=some (.str (tx (C 2))):=rfl;have c3:gIx (nsD 4 C) (.int 3)=some (.str (tx (C 3))):=rfl;have cj:gIx (nsD 4 C) (.int (j:Int))=some (.str (tx (C j))):=uL (F:=λk=>.str (tx (C k))) (by omega);have s0:∀x y:D,gIx (.lst [x,y]) (.int 0)=some x:=λ_ _=>rfl;have s1:∀x y:D,gIx (.lst [x,y]) (.int 1)=some y:=λ_ _=>rfl;have hz:Ps.length<16777216:=by omega
 have ol:∀(a b c d e f g h i j k l m n:Sl),yw [a,b,c,d,e,f,g,h,.ow (.lst Ps),i,j,k,l,m,n] 8=some (true,Ps):=λ_ _ _ _ _ _ _ _ _ _ _ _ _ _=>rfl;have ej:gEq (.int (j:Int)) (.int 1)=some (decide (j=1)):=by
  show some (decide ((j:Int)=1))=_;congr 1;exact decide_eq_decide.mpr (by omega)
 have e7:gEq (.int (f 17 % 2)) (.int 1)=some (decide (f 17 % 2=1)):=rfl;have gp:dG (prK f B C fi k j)=if j=1/\f 17 % 2=1 then .tup [.str "end",qD (stk f k j 0,1)] else .tup [.str "move",.int (3-fi),.str (tx (B (sel (f 16 % 3) k j))),.tup [.tup [.str (tx (C 2)),.tup [.str "end",qD (stk f k j 0,1)]],.tup [.str (tx (C 3)),.tup [.str "end",qD (stk f k j 1,1)]]]]:=by
  unfold prK prt;by_cases c:j=1/\f 17 % 2=1
  ·rw [if_pos c,if_pos (by simp [c])];rfl
  ·rw [if_neg c,if_neg (by simpa using c)];rfl
 rw [gp];generalize hq0:qD (stk f k j 0,1)=q0 at *;generalize hq1:qD (stk f k j 1,1)=q1 at *;generalize hTB:tx (B (sel (f 16 % 3) k j))=TB at *;generalize hSI:((sel (f 16 % 3) k j:Nat):Int)=SI at *;have h1:bf 10 j9 (gst f A B C fi sh W (.fz (.int k)) (.ow (.lst Ps)) (.fz (.int j)) a b d)=.ok (.nx,gst f A B C fi sh W (.fz (.int k)) (.ow (.lst Ps)) (.fz (.int j)) (.fz (.lst [q0,q1])) b d):=by
  unfold bf;rw [e1];rfl
 have h2:bf 11 (aD gIx (ao 3) (aD gIx (fO (aj (fC (.int 0)) (aj (aH 9) (aj (aH 7) az)))) (aD iy (aD gIx (ao 0) (fC (.int 16))) (fC (.int 3))))) (gst f A B C fi sh W (.fz (.int k)) (.ow (.lst Ps)) (.fz (.int j)) (.fz (.lst [q0,q1])) b d)=.ok (.nx,gst f A B C fi sh W (.fz (.int k)) (.ow (.lst Ps)) (.fz (.int j)) (.fz (.lst [q0,q1])) (.fz (.str TB)) d):=by
  unfold gst;generalize xsD f=X at *;generalize nsD 2 B=NB at *;simp [bf,aD,ao,fO,aj,az,fC,aH,i16,d1,sx,ib]
 have h3:bf 12 (aQ (aj (fC (.str "move")) (aj (aD v5 (fC (.int 3)) (ao 1)) (aj (aH 11) (aj (aQ (aj (aQ (aj (aD gIx (ao 4) (fC (.int 2))) (aj (aQ (aj (fC (.str "end")) (aj (aD gIx (ao 10) (fC (.int 0))) az))) az))) (aj (aQ (aj (aD gIx (ao 4) (fC (.int 3))) (aj (aQ (aj (fC (.str "end")) (aj (aD gIx (ao 10) (fC (.int 1))) az))) az))) az))) az)))))
   (gst f A B C fi sh W (.fz (.int k)) (.ow (.lst Ps)) (.fz (.int j)) (.fz (.lst [q0,q1])) (.fz (.str TB)) d)=.ok (.nx,gst f A B C fi sh W (.fz (.int k)) (.ow (.lst Ps)) (.fz (.int j)) (.fz (.lst [q0,q1])) (.fz (.str TB)) (.fz (.tup [.str "move",.int (3-fi),.str TB,.tup [.tup [.str (tx (C 2)),.tup [.str "end",q0]],.tup [.str (tx (C 3)),.tup [.str "end",q1]]]]))):=by
  unfold gst;generalize nsD 4 C=NC at *;generalize xsD f=X at *;generalize nsD 2 B=NB at *;generalize nsD 2 A=NA at *;simp [bf,aQ,aj,az,fC,aD,Am,ao,aH,c2,c3,s0,s1]
 have h4:∀Y:D,gIf (sS (aU gEq (ao 9) (fC (.int 1))) (aU gEq (aD iy (aD gIx (ao 0) (fC (.int 17))) (fC (.int 2))) (fC (.int 1)))) (bf 12 (aQ (aj (fC (.str "end")) (aj (aD gIx (ao 10) (fC (.int 0))) az)))) gNx
   (gst f A B C fi sh W (.fz (.int k)) (.ow (.lst Ps)) (.fz (.int j)) (.fz (.lst [q0,q1])) (.fz (.str TB)) (.fz Y))=.ok (.nx,gst f A B C fi sh W (.fz (.int k)) (.ow (.lst Ps)) (.fz (.int j)) (.fz (.lst [q0,q1])) (.fz (.str TB)) (.fz (if j=1/\f 17 % 2=1 then .tup [.str "end",q0] else Y))):=λY=>by
  unfold gst;generalize nsD 4 C=NC at *;generalize xsD f=X at *;generalize nsD 2 B=NB at *;generalize nsD 2 A=NA at *;by_cases c1:j=1
  ·by_cases c2:f 17 % 2=1
   ·simp [gIf,sS,aU,aD,ao,fC,ej,i17,d2,e7,c1,c2,bf,aQ,aj,az,s0]
   ·simp [gIf,sS,aU,aD,ao,fC,ej,i17,d2,e7,c1,c2,gNx]
  ·simp [gIf,sS,aU,aD,ao,fC,ej,c1,gNx]
 have h5:∀Y:D,fY 8 (aQ (aj (aD gIx (ao 4) (ao 9)) (aj (aH 12) az))) (gst f A B C fi sh W (.fz (.int k)) (.ow (.lst Ps)) (.fz (.int j)) (.fz (.lst [q0,q1])) (.fz (.str TB)) (.fz Y))=.ok (.nx,gst f A B C fi sh W (.fz (.int k)) (.ow (.lst (Ps++[.tup [.str (tx (C j)),Y]]))) (.fz (.int j)) (.fz (.lst [q0,q1])) (.fz (.str TB)) (.fz Y)):=λY=>by
  unfold gst;generalize nsD 4 C=NC at *;simp [fY,ol,aQ,aj,az,aD,ao,aH,cj,hz,putL]
 refine ⟨.fz (.lst [q0,q1]),.fz (.str TB),.fz (if j=1/\f 17 % 2=1 then .tup [.str "end",q0] else .tup [.str "move",.int (3-fi),.str TB,.tup [.tup [.str (tx (C 2)),.tup [.str "end",q0]],.tup [.str (tx (C 3)),.tup [.str "end",q1]]]]),?_⟩;unfold oH aM;simp only [h1,h2,h3,h4,h5]
open L2 (atI ixN Key)
def mvP (fi:Int)(n w0 w1:List Nat)(P0 P1:Gm):Gm:=.move fi (tx n) (.cons (.str (tx w0)) P0 (.cons (.str (tx w1)) P1 .nil))
def two (f:Nat->Int):Nat:=(f 18 % 2).toNat
def mvF (f:Nat->Int)(A B C:Nat->List Nat)(fi:Int)(k:Nat):Gm:=mvP fi (A (k*two f)) (C 0) (C 1) (prK f B C fi k 0) (prK f B C fi k 1)
def gmF (f:Nat->Int)(A B C:Nat->List Nat)(fi sh:Int):Gm:=.deal (Str.ofString "coin") (.cons (qD (sh,5)) (mvF f A B C fi 0) (.cons (qD (5-sh,5)) (mvF f A B C fi 1) .nil))
def pairD (f:Nat->Int)(B C:Nat->List Nat)(fi:Int)(k:Nat):List D:=[.tup [.str (tx (C 0)),dG (prK f B C fi k 0)],.tup [.str (tx (C 1)),dG (prK f B C fi k 1)]]
theorem Jw {f:Nat->Int}{k:Nat}{A B C:Nat->List Nat}{fi sh:Int}{W:List D}{j a b d:Sl}(hk:k<=1):∃j' a' b' d',
  o4 (gst f A B C fi sh W (.fz (.int k)) (.ow (.lst [])) j a b d)=.ok (.nx,gst f A B C fi sh W (.fz (.int k)) (.ow (.lst (pairD f B C fi k))) j' a' b' d'):=by
 obtain ⟨a1,b1,d1,e1⟩:=Az (f:=f) (k:=k) (j:=0) (A:=A) (B:=B) (C:=C) (fi:=fi) (sh:=sh) (W:=W) (Ps:=[]) (a:=a) (b:=b) (d:=d) hk (by decide) (by simp);obtain ⟨a2,b2,d2,e2⟩:=Az (f:=f) (k:=k) (j:=1) (A:=A) (B:=B) (C:=C) (fi:=fi) (sh:=sh) (W:=W) (Ps:=[.tup [.str (tx (C 0)),dG (prK f B C fi k 0)]]) (a:=a1) (b:=b1) (d:=d1) hk (by decide) (by simp);refine ⟨.fz (.int (1:Nat)),a2,b2,d2,?_⟩;have hi:gU (aj (fC (.int 2)) az) (gst f A B C fi sh W (.fz (.int k)) (.ow (.lst [])) j a b d)=.ok [.int (0:Nat),.int (1:Nat)]:=(yr (j:=2) rfl (by decide) (by decide)).trans rfl;unfold o4 g8;rw [hi];show bM _ _ _ _=_;rw [bF (m1:=gst f A B C fi sh W (.fz (.int k)) (.ow (.lst [])) (.fz (.int (0:Nat))) a b d) rfl e1,bF (m1:=gst f A B C fi sh W (.fz (.int k)) (.ow (.lst [.tup [.str (tx (C 0)),dG (prK f B C fi k 0)]])) (.fz (.int (1:Nat))) a1 b1 d1) rfl e2];rfl
def shK (sh:Int)(k:Nat):Int:=if k=0 then sh else 5-sh
theorem Fz {f:Nat->Int}{k:Nat}{A B C:Nat->List Nat}{fi sh:Int}{W:List D}{P j a b d:Sl}(hk:k<=1)(hW:W.length<=100):∃P' j' a' b' d',
  oO (gst f A B C fi sh W (.fz (.int k)) P j a b d)=.ok (.nx,gst f A B C fi sh (W++[.tup [qD (shK sh k,5),dG (mvF f A B C fi k)]]) (.fz (.int k)) P' j' a' b' d'):=by
 obtain ⟨j',a',b',d',e⟩:=Jw (f:=f) (k:=k) (A:=A) (B:=B) (C:=C) (fi:=fi) (sh:=sh) (W:=W) (j:=j) (a:=a) (b:=b) (d:=d) hk;refine ⟨.ow (.lst (pairD f B C fi k)),j',a',b',d',?_⟩;have h1:iZ 8 (fO az) (gst f A B C fi sh W (.fz (.int k)) P j a b d)=.ok (.nx,gst f A B C fi sh W (.fz (.int k)) (.ow (.lst [])) j a b d):=rfl;have gm:dG (mvF f A B C fi k)=.tup [.str "move",.int fi,.str (tx (A (k*two f))),.tup (pairD f B C fi k)]:=rfl;have i18:gIx (xsD f) (.int 18)=some (.int (f 18)):=uL (c:=40) (F:=λk=>.int (f k)) (i:=18) (by omega);have d1:=kZ (a:=f 18) (b:=2) (by decide);have n0:=Int.emod_nonneg (f 18) (b:=2) (by decide);have n1:=Int.emod_lt_of_pos (f 18) (b:=2) (by decide);have m1:=lM (a:=(k:Int)) (b:=f 18 % 2) (by omega) (by omega) (by omega) (by omega);have tw:f 18 % 2=((two f:Nat):Int):=by unfold two;omega
 have t2:two f<=1:=by unfold two;omega
 have kt:k*two f<2:=by
  have:k*two f<=1*1:=Nat.mul_le_mul hk t2
  omega
 have ia:gIx (nsD 2 A) (.int ((k:Int)*(f 18 % 2)))=some (.str (tx (A (k*two f)))):=by
  rw [tw,← Int.natCast_mul];exact uL (F:=λk=>.str (tx (A k))) kt
 have is:gIx (.lst [.int sh,.int (5-sh)]) (.int (k:Int))=some (.int (shK sh k)):=by
  have:k=0\/k=1:=by omega
  rcases this with rfl | rfl<;>rfl
 have ol:∀(a b c d e f h i j k l m n o:Sl),yw [a,b,c,d,e,f,.ow (.lst W),h,i,j,k,l,m,n,o] 6=some (true,W):=λ_ _ _ _ _ _ _ _ _ _ _ _ _ _=>rfl;have hz:W.length<16777216:=by omega
 have gt:jB [.lst (pairD f B C fi k)]=some (.tup (pairD f B C fi k)):=rfl;have h3:fY 6 (aQ (aj (aQ (aj (aD gIx (fO (aj (aH 5) (aj (aD v5 (fC (.int 5)) (ao 5)) az))) (ao 7)) (aj (fC (.int 5)) az))) (aj (aQ (aj (fC (.str "move")) (aj (aH 1) (aj (aD gIx (ao 2) (aD lO (ao 7) (aD iy (aD gIx (ao 0) (fC (.int 18))) (fC (.int 2))))) (aj (aX jB (aj (ao 8) az)) az))))) az)))
   (gst f A B C fi sh W (.fz (.int k)) (.ow (.lst (pairD f B C fi k))) j' a' b' d')=.ok (.nx,gst f A B C fi sh (W++[.tup [qD (shK sh k,5),dG (mvF f A B C fi k)]]) (.fz (.int k)) (.ow (.lst (pairD f B C fi k))) j' a' b' d'):=by
  rw [gm];unfold gst qD;generalize pairD f B C fi k=PP at *;generalize xsD f=X at *;generalize nsD 2 A=NA at *;generalize tx (A (k*two f))=TA at *;generalize f 18 % 2=f2 at *;generalize (k:Int)=kk at *;generalize (kk*f2:Int)=kf at *;generalize shK sh k=SH at *;simp [fY,ol,aQ,aj,az,aD,fO,aH,ao,fC,Am,is,i18,d1,m1,ia,aX,gt,hz,putL]
 unfold oO aM;simp only [h1,e,h3]
theorem Pa {φ:Zac}{L:Zab}{f:Nat->Int}{A B C:Nat->List Nat}{W:List D}{k P j a b d:Sl}
  (hA:φ [.int (f 1),.int (f 2),.int 2]=.ok (true,nsD 2 A)) (hB:φ [.int (f 3),.int (f 4),.int 2]=.ok (true,nsD 2 B)) (hC:φ [.int (f 5),.int (f 6),.int 4]=.ok (true,nsD 4 C))
  (hL:L (gst f A B C (1+f 0 % 2) (1+f 7 % 4) [] .un .un .un .un .un .un)=.ok (.nx,gst f A B C (1+f 0 % 2) (1+f 7 % 4) W k P j a b d)):
  aW 15 1 (nG φ L) [xsD f]=.ok (false,.tup [.str "deal",.str (Str.ofString "coin"),.tup W]):=by
 have ix:∀i:Nat,i<40->gIx (xsD f) (.int (i:Int))=some (.int (f i)):=λi hi=>uL (c:=40) (F:=λk=>.int (f k)) hi;have i0:gIx (xsD f) (.int 0)=some (.int (f 0)):=ix 0 (by decide);have i1:gIx (xsD f) (.int 1)=some (.int (f 1)):=ix 1 (by decide);have i2:gIx (xsD f) (.int 2)=some (.int (f 2)):=ix 2 (by decide);have i3:gIx (xsD f) (.int 3)=some (.int (f 3)):=ix 3 (by decide);have i4:gIx (xsD f) (.int 4)=some (.int (f 4)):=ix 4 (by decide);have i5:gIx (xsD f) (.int 5)=some (.int (f 5)):=ix 5 (by decide);have i6:gIx (xsD f) (.int 6)=some (.int (f 6)):=ix 6 (by decide);have i7:gIx (xsD f) (.int 7)=some (.int (f 7)):=ix 7 (by decide);have d0:=kZ (a:=f 0) (b:=2) (by decide);have d7:=kZ (a:=f 7) (b:=4) (by decide);have gt:jB [.lst W]=some (.tup W):=rfl;unfold gst at hL;generalize xsD f=X at *;generalize nsD 2 A=NA at *;generalize nsD 2 B=NB at *;generalize nsD 4 C=NC at *;simp [aW,nG,aM,bf,aD,ao,fC,i0,d0,sX,fFn,aj,az,i1,i2,hA,i3,i4,hB,i5,i6,hC,i7,d7,iZ,fO,hL,bz,Me.let,Sl.let,aQ,aX,gt]
theorem Va (f:Nat->Int):nZ [xsD f]=.ok (false,dG (gmF f (nS (f 1) (f 2)) (nS (f 3) (f 4)) (nS (f 5) (f 6)) (1+f 0 % 2) (1+f 7 % 4))):=by
 have hA:=zp (x:=f 1) (y:=f 2) (c:=2) (by decide);have hB:=zp (x:=f 3) (y:=f 4) (c:=2) (by decide);have hC:=zp (x:=f 5) (y:=f 6) (c:=4) (by decide);obtain ⟨P1,j1,a1,b1,d1,e1⟩:=Fz (f:=f) (k:=0) (A:=nS (f 1) (f 2)) (B:=nS (f 3) (f 4)) (C:=nS (f 5) (f 6)) (fi:=1+f 0 % 2) (sh:=1+f 7 % 4) (W:=[]) (P:=.un) (j:=.un) (a:=.un) (b:=.un) (d:=.un) (by decide) (by simp);obtain ⟨P2,j2,a2,b2,d2,e2⟩:=Fz (f:=f) (k:=1) (A:=nS (f 1) (f 2)) (B:=nS (f 3) (f 4)) (C:=nS (f 5) (f 6)) (fi:=1+f 0 % 2) (sh:=1+f 7 % 4) (W:=[.tup [qD (shK (1+f 7 % 4) 0,5),dG (mvF f (nS (f 1) (f 2)) (nS (f 3) (f 4)) (nS (f 5) (f 6)) (1+f 0 % 2) 0)]]) (P:=P1) (j:=j1) (a:=a1) (b:=b1) (d:=d1) (by decide) (by simp);generalize hA':nS (f 1) (f 2)=A at *;generalize hB':nS (f 3) (f 4)=B at *;generalize hC':nS (f 5) (f 6)=C at *;generalize hfi:1+f 0 % 2=fi at *;generalize hsh:1+f 7 % 4=sh at *;have L6:kJ (gst f A B C fi sh [] .un .un .un .un .un .un)=.ok (.nx,gst f A B C fi sh [.tup [qD (shK sh 0,5),dG (mvF f A B C fi 0)],.tup [qD (shK sh 1,5),dG (mvF f A B C fi 1)]] (.fz (.int (1:Nat))) P2 j2 a2 b2 d2):=by
  have hi:gU (aj (fC (.int 2)) az) (gst f A B C fi sh [] .un .un .un .un .un .un)=.ok [.int (0:Nat),.int (1:Nat)]:=(yr (j:=2) rfl (by decide) (by decide)).trans rfl;unfold kJ g8;rw [hi];show bM _ _ _ _=_;rw [bF (m1:=gst f A B C fi sh [] (.fz (.int (0:Nat))) .un .un .un .un .un) rfl e1];generalize qD (shK sh 0,5)=Q0 at *;generalize qD (shK sh 1,5)=Q1 at *;generalize dG (mvF f A B C fi 0)=G0 at *;generalize dG (mvF f A B C fi 1)=G1 at *;refine (bF (m1:=gst f A B C fi sh [.tup [Q0,G0]] (.fz (.int (1:Nat))) P1 j1 a1 b1 d1) rfl e2).trans ?_;rfl
 have e0:=Pa (φ:=jm) (L:=kJ) (f:=f) (A:=A) (B:=B) (C:=C) (W:=[.tup [qD (shK sh 0,5),dG (mvF f A B C fi 0)],.tup [qD (shK sh 1,5),dG (mvF f A B C fi 1)]]) (k:=.fz (.int (1:Nat))) (P:=P2) (j:=j2) (a:=a2) (b:=b2) (d:=d2) hA hB hC (by rw [hfi,hsh];exact L6);have e3:dG (gmF f A B C fi sh)=.tup [.str "deal",.str (Str.ofString "coin"),.tup [.tup [qD (shK sh 0,5),dG (mvF f A B C fi 0)],.tup [qD (shK sh 1,5),dG (mvF f A B C fi 1)]]]:=rfl;rw [e3];exact e0
open L2 (atI ixN Key)
mutual
def snG (s:Int):Gm->List Str
 | .fin _=>[]
 | .deal _ ws=>snW s [] ws
 | .move t n ws=>snW s (if t=s then [n] else []) ws
def snW (s:Int)(acc:List Str):Ws->List Str
 | .nil=>acc
 | .cons _ g r=>snW s (acc++(snG s g).filter λn=>!decide (n∈acc)) r
end
theorem Ks (n:Str):∀l:List Str,inV (.str n) (l.map λz=>V.str z)=decide (n∈l)
 |[]=>rfl
 |a::l=>by
  have h:=Ks n l;unfold inV at h ⊢;rw [List.map_cons,List.any_cons,h];have e:eqV (.str a) (.str n)=decide (a=n):=rfl;rw [e];by_cases c:a=n
  ·simp [c]
  ·have c':¬n=a:=λz=>c z.symm;simp [c,c']
theorem VN (n:Str)(l:List Str):NQ (.str n) (.lst (l.map D.str))=some (!decide (n∈l)):=by
 have h1:(l.map D.str).all flat=true:=by simp [flat]
 have h2:(l.map D.str).map vOf=l.map λz=>V.str z:=by simp [vOf,List.map_map,Function.comp_def]
 have e:gIn (.str n) (.lst (l.map D.str))=some (decide (n∈l)):=by
  show inD (.str n) (l.map D.str)=_;unfold inD;rw [if_pos ⟨rfl,h1⟩,h2];exact congrArg some (Ks n l)
 unfold NQ;rw [e];rfl
theorem U4 {Φ:Zac}{g:Gm}{s:Int}{acc:List Str}{u0 u3:Sl}{b:Bool}(hz:acc.length+(snG s g).length<=1000)(h:Φ [dG g,.int s]=.ok (b,.lst ((snG s g).map D.str))):
  j6 Φ [u0,.fz (.int s),.fz (.lst (acc.map D.str)),u3,.fz (dG g)]=.ok (.nx,[u0,.fz (.int s),.fz (.lst ((acc++(snG s g).filter λn=>!decide (n∈acc)).map D.str)),u3,.fz (dG g)]):=by
 have c:∀l:List Str,bV (hName 0) (aU NQ (ao 0) (ao 1)) (aH 0) [.un,.fz (.lst (acc.map D.str))] (l.map D.str)=.ok ((l.filter λn=>!decide (n∈acc)).map D.str):=by
  intro l;induction l with
  |nil=>rfl
  |cons a l ih=>
   have hn:hName 0 (.str a) [.un,.fz (.lst (acc.map D.str))]=some [.fz (.str a),.fz (.lst (acc.map D.str))]:=rfl;have ht:aU NQ (ao 0) (ao 1) [.fz (.str a),.fz (.lst (acc.map D.str))]=.ok (!decide (a∈acc)):=by
    simp only [aU,ao];simp [VN]
   have hv:aH 0 [.fz (.str a),.fz (.lst (acc.map D.str))]=.ok (.str a):=rfl;rw [List.map_cons];unfold bV;rw [hn];simp only [ht];by_cases e:a∈acc
   ·simp [e,ih]
   ·simp [e,ih,hv]
 have hz2:((snG s g).map D.str).length<=sizeLine:=by rw [List.length_map,show sizeLine=16777216 from rfl];omega
 have q:oW Φ [u0,.fz (.int s),.fz (.lst (acc.map D.str)),u3,.fz (dG g)]=.ok (.lst (((snG s g).filter λn=>!decide (n∈acc)).map D.str)):=by
  have fi:jA (fFn Φ (aj (aH 4) (aj (aH 1) az))) [u0,.fz (.int s),.fz (.lst (acc.map D.str)),u3,.fz (dG g)]=.ok ((snG s g).map D.str):=by
   simp [jA,fFn,aj,az,aH,h]
  have eb:cMe 1 [2] [u0,.fz (.int s),.fz (.lst (acc.map D.str)),u3,.fz (dG g)]=[.un,.fz (.lst (acc.map D.str))]:=rfl;unfold oW bY;rw [fi];simp only [Res.bind,if_pos hz2,eb,c]
 have ad:cN (.lst (acc.map D.str)) (.lst (((snG s g).filter λn=>!decide (n∈acc)).map D.str))=some (.lst ((acc++(snG s g).filter λn=>!decide (n∈acc)).map D.str)):=by
  have hf:=List.length_filter_le (λn=>!decide (n∈acc)) (snG s g);rw [List.map_append];exact if_pos (by rw [List.length_map,List.length_map,show sizeLine=16777216 from rfl];omega)
 simp [j6,bf,aD,ao,q,ad]
theorem Hv {L:Zab}{g:Gm}{s:Int}{u3 u4:Sl}(hg:∀d,g≠.fin d){r:List D}(h:L [.fz (dG g),.fz (.int s),.fz (.lst ((match g with | .move t n _=>if t=s then [n] else [] | _=>[]).map D.str)),.un,.un]=.ok (.nx,[.fz (dG g),.fz (.int s),.fz (.lst r),u3,u4])):
  aW 5 2 (fD L) [dG g,.int s]=.ok (false,.lst r):=by
 cases g with
 |fin d=>exact absurd rfl (hg d)
 |deal n ws=>
  have x0:gIx (dG (.deal n ws)) (.int 0)=some (.str "deal"):=rfl;have q1:gEq (.str "deal") (.str "end")=some false:=by decide +kernel
  have q2:gEq (.str "deal") (.str "move")=some false:=by decide +kernel
  have h:L [.fz (dG (.deal n ws)),.fz (.int s),.fz (.lst []),.un,.un]=.ok (.nx,[.fz (dG (.deal n ws)),.fz (.int s),.fz (.lst r),u3,u4]):=h;generalize dG (.deal n ws)=G at *;simp [aW,fD,aM,gIf,aU,aD,ao,fC,x0,q1,gNx,bf,fO,az,sS,q2,h,bz,Me.let,Sl.let,aH]
 |move t n ws=>
  have x0:gIx (dG (.move t n ws)) (.int 0)=some (.str "move"):=rfl;have x1:gIx (dG (.move t n ws)) (.int 1)=some (.int t):=rfl;have x2:gIx (dG (.move t n ws)) (.int 2)=some (.str n):=rfl;have q1:gEq (.str "move") (.str "end")=some false:=by decide +kernel
  have q2:gEq (.str "move") (.str "move")=some true:=by decide +kernel
  have h:L [.fz (dG (.move t n ws)),.fz (.int s),.fz (.lst ((if t=s then [n] else []).map D.str)),.un,.un]=.ok (.nx,[.fz (dG (.move t n ws)),.fz (.int s),.fz (.lst r),u3,u4]):=h;generalize dG (.move t n ws)=G at *;by_cases c:t=s
  ·rw [if_pos c] at h;have h:L [.fz G,.fz (.int s),.fz (.lst [.str n]),.un,.un]=.ok (.nx,[.fz G,.fz (.int s),.fz (.lst r),u3,u4]):=h;have q3:gEq (.int t) (.int s)=some true:=by simp [gEq,c]
   simp [aW,fD,aM,gIf,aU,aD,ao,fC,x0,x1,x2,q1,gNx,bf,fO,az,aj,sS,q2,q3,h,bz,Me.let,Sl.let,aH]
  ·rw [if_neg c] at h;have h:L [.fz G,.fz (.int s),.fz (.lst []),.un,.un]=.ok (.nx,[.fz G,.fz (.int s),.fz (.lst r),u3,u4]):=h;have q3:gEq (.int t) (.int s)=some false:=by simp [gEq,c]
   simp [aW,fD,aM,gIf,aU,aD,ao,fC,x0,x1,x2,q1,gNx,bf,fO,az,aj,sS,q2,q3,h,bz,Me.let,Sl.let,aH]
open L2 (atI ixN Key)
mutual
theorem Rb (s:Int):∀g:Gm,(snG s g).length<=szG g
 | .fin _=>by simp [snG]
 | .deal _ ws=>by
  have:=CW s [] ws
  simp [snG,szG] at this ⊢;omega
 | .move t n ws=>by
  have:=CW s (if t=s then [n] else []) ws
  have h:(if t=s then [n] else []).length<=1:=by split<;>simp
  simp only [snG,szG];omega
theorem CW (s:Int)(acc:List Str):∀ws:Ws,(snW s acc ws).length<=acc.length+szW ws
 | .nil=>by simp [snW]
 | .cons _ g r=>by
  have h1:=Rb s g;have h2:=CW s (acc++(snG s g).filter λn=>!decide (n∈acc)) r;have h3:=List.length_filter_le (λn=>!decide (n∈acc)) (snG s g);rw [List.length_append] at h2;simp only [snW,szW];omega
end
theorem Ml {s:Int}{G:D}{n:Nat}(ih:∀g:Gm,dp g<n->iB g->szG g<=500->∃b,cF n [dG g,.int s]=.ok (b,.lst ((snG s g).map D.str))):∀(ws:Ws) (acc:List Str) (u3 u4:Sl),dpW ws<n->qz ws->acc.length+szW ws<=500->∃u3' u4',
  bM (jt 2 (bN (hName 3) (bN (hName 4) jq))) (j6 (cF n)) (dWs ws) [.fz G,.fz (.int s),.fz (.lst (acc.map D.str)),u3,u4]=.ok (.nx,[.fz G,.fz (.int s),.fz (.lst ((snW s acc ws).map D.str)),u3',u4'])
 | .nil,acc,u3,u4,_,_,_=>⟨u3,u4,rfl⟩
 | .cons l g r,acc,u3,u4,h1,h2,h3=>by
  have h1:max (dp g) (dpW r)<n:=h1;have h2:iB g/\qz r:=h2;have h3':szW (.cons l g r)=szG g+szW r:=rfl;obtain ⟨b,e⟩:=ih g (by omega) h2.1 (by omega);have z:=Rb s g;have st:=U4 (Φ:=cF n) (g:=g) (s:=s) (acc:=acc) (u0:=.fz G) (u3:=.fz l) (b:=b) (by omega) e;have hf:=List.length_filter_le (λn=>!decide (n∈acc)) (snG s g);obtain ⟨u3',u4',e2⟩:=Ml ih r (acc++(snG s g).filter λn=>!decide (n∈acc)) (.fz l) (.fz (dG g)) (by omega) h2.2 (by rw [List.length_append];omega);refine ⟨u3',u4',?_⟩;exact (bF (m1:=[.fz G,.fz (.int s),.fz (.lst (acc.map D.str)),.fz l,.fz (dG g)]) rfl st).trans e2
theorem KH (s:Int):∀(n:Nat) (g:Gm),dp g<n->iB g->szG g<=500->∃b,cF n [dG g,.int s]=.ok (b,.lst ((snG s g).map D.str))
 |0,g,h,_,_=>by omega
 |n+1,g,h,hl,hz=>by
  have go:∀(ws:Ws) (acc:List Str),dpW ws<n->qz ws->acc.length+szW ws<=500->gIx (dG g) (.int (-1))=some (.tup (dWs ws))->∃u3 u4,oJ (cF n) [.fz (dG g),.fz (.int s),.fz (.lst (acc.map D.str)),.un,.un]=.ok (.nx,[.fz (dG g),.fz (.int s),.fz (.lst ((snW s acc ws).map D.str)),u3,u4]):=λws acc h1 h2 h3 ix=>by
   obtain ⟨u3,u4,e⟩:=Ml (s:=s) (G:=dG g) (n:=n) (KH s n) ws acc .un .un h1 h2 h3;refine ⟨u3,u4,?_⟩;have ng:tW (.int 1)=some (.int (-1)):=rfl;have it:kW (aD gIx (ao 0) (fUn tW (fC (.int 1)))) [.fz (dG g),.fz (.int s),.fz (.lst (acc.map D.str)),.un,.un]=.ok (dWs ws):=by
    generalize dG g=G at *;simp [kW,aD,ao,fUn,fC,ng,ix]
   unfold oJ g8;rw [it];exact e
  cases g with
  |fin d=>
   refine ⟨true,?_⟩;have x0:gIx (dG (.fin d)) (.int 0)=some (.str "end"):=rfl;have q1:gEq (.str "end") (.str "end")=some true:=by decide +kernel
   show aW 5 2 (fD _) [dG (.fin d),.int s]=.ok (true,.lst []);generalize dG (.fin d)=G at *;simp [aW,fD,aM,gIf,aU,aD,ao,fC,x0,q1,iD,Me.let,Sl.let,fO,az]
  |deal m ws=>
   obtain ⟨u3,u4,e⟩:=go ws [] (by have:dp (.deal m ws)=dpW ws+1:=rfl;omega) hl.2 (by have:szG (.deal m ws)=szW ws+1:=rfl;simp;omega) rfl;exact ⟨false,Hv (λ_ z=>by cases z) e⟩
  |move t m ws=>
   obtain ⟨u3,u4,e⟩:=go ws (if t=s then [m] else []) (by have:dp (.move t m ws)=dpW ws+1:=rfl;omega) hl.2 (by
    have:szG (.move t m ws)=szW ws+1:=rfl
    have:(if t=s then [m] else []).length<=1:=by split<;>simp
    omega) rfl
   exact ⟨false,Hv (λ_ z=>by cases z) e⟩
open L2 (atI ixN Key)
def iw (g:Gm)(s:Int)(Ns:List (List Nat)):Prop:=(rowsOf g s).map nmR=Ns.map tx/\(∀d∈rowsOf g s,wdD d=2)/\snG s g=Ns.map tx
def gS (fi:Int)(l0 l1:D)(n0 n1:Str)(w0 w1:D)(P00 P01 P10 P11:Gm):Gm:=.deal (Str.ofString "coin") (.cons l0 (.move fi n0 (.cons w0 P00 (.cons w1 P01 .nil))) (.cons l1 (.move fi n1 (.cons w0 P10 (.cons w1 P11 .nil))) .nil))
def mS (s:Int)(m:Str)(w2 w3:D)(q r:Q2):Gm:=.move s m (.cons w2 (.fin q) (.cons w3 (.fin r) .nil))
def cS (c:Bool)(s:Int)(m:Str)(w2 w3:D)(q r:Q2):Gm:=if c then .fin q else mS s m w2 w3 q r
section
variable {l0 l1 w0 w1 w2 w3:D}{q0 q1 q2 q3 q4 q5 q6 q7:Q2}{n0 n1 m0 m1:List Nat}{a b:Int}{c:Bool}
variable (ab:¬a=b)(ba:¬b=a)(e1:¬tx n0=tx n1)(e2:¬tx n1=tx n0)(e3:¬tx m0=tx m1)(e4:¬tx m1=tx m0)
include ab ba
theorem abb:iw (gS a l0 l1 (tx n0) (tx n0) w0 w1 (mS b (tx m0) w2 w3 q0 q1) (cS c b (tx m0) w2 w3 q2 q3) (mS b (tx m0) w2 w3 q4 q5) (cS c b (tx m0) w2 w3 q6 q7)) a [n0]:=by cases c<;>refine ⟨?_,?_,?_⟩ <;>simp [*,rowsOf,gS,mS,cS,prG,prW,tbl,tst,dB,kn,pC,sdD,nmR,wdD,jr,snG,snW]
theorem aaS:iw (gS a l0 l1 (tx n0) (tx n0) w0 w1 (mS b (tx m0) w2 w3 q0 q1) (cS c b (tx m0) w2 w3 q2 q3) (mS b (tx m0) w2 w3 q4 q5) (cS c b (tx m0) w2 w3 q6 q7)) b [m0]:=by cases c<;>refine ⟨?_,?_,?_⟩ <;>simp [*,rowsOf,gS,mS,cS,prG,prW,tbl,tst,dB,kn,pC,sdD,nmR,wdD,jr,snG,snW]
include e1 e2
theorem aa9:iw (gS a l0 l1 (tx n0) (tx n1) w0 w1 (mS b (tx m0) w2 w3 q0 q1) (cS c b (tx m0) w2 w3 q2 q3) (mS b (tx m0) w2 w3 q4 q5) (cS c b (tx m0) w2 w3 q6 q7)) a [n0,n1]:=by cases c<;>refine ⟨?_,?_,?_⟩ <;>simp [*,rowsOf,gS,mS,cS,prG,prW,tbl,tst,dB,kn,pC,sdD,nmR,wdD,jr,snG,snW]
theorem aa7:iw (gS a l0 l1 (tx n0) (tx n1) w0 w1 (mS b (tx m0) w2 w3 q0 q1) (cS c b (tx m0) w2 w3 q2 q3) (mS b (tx m0) w2 w3 q4 q5) (cS c b (tx m0) w2 w3 q6 q7)) b [m0]:=by cases c<;>refine ⟨?_,?_,?_⟩ <;>simp [*,rowsOf,gS,mS,cS,prG,prW,tbl,tst,dB,kn,pC,sdD,nmR,wdD,jr,snG,snW]
omit e1 e2
include e3 e4
theorem abj:iw (gS a l0 l1 (tx n0) (tx n0) w0 w1 (mS b (tx m0) w2 w3 q0 q1) (cS c b (tx m1) w2 w3 q2 q3) (mS b (tx m0) w2 w3 q4 q5) (cS c b (tx m1) w2 w3 q6 q7)) a [n0]:=by cases c<;>refine ⟨?_,?_,?_⟩ <;>simp [*,rowsOf,gS,mS,cS,prG,prW,tbl,tst,dB,kn,pC,sdD,nmR,wdD,jr,snG,snW]
theorem abg:iw (gS a l0 l1 (tx n0) (tx n0) w0 w1 (mS b (tx m0) w2 w3 q0 q1) (cS c b (tx m1) w2 w3 q2 q3) (mS b (tx m0) w2 w3 q4 q5) (cS c b (tx m1) w2 w3 q6 q7)) b (if c then [m0] else [m0,m1]):=by cases c<;>refine ⟨?_,?_,?_⟩ <;>simp [*,rowsOf,gS,mS,cS,prG,prW,tbl,tst,dB,kn,pC,sdD,nmR,wdD,jr,snG,snW]
theorem abw:iw (gS a l0 l1 (tx n0) (tx n0) w0 w1 (mS b (tx m0) w2 w3 q0 q1) (cS c b (tx m0) w2 w3 q2 q3) (mS b (tx m1) w2 w3 q4 q5) (cS c b (tx m1) w2 w3 q6 q7)) a [n0]:=by cases c<;>refine ⟨?_,?_,?_⟩ <;>simp [*,rowsOf,gS,mS,cS,prG,prW,tbl,tst,dB,kn,pC,sdD,nmR,wdD,jr,snG,snW]
theorem abE:iw (gS a l0 l1 (tx n0) (tx n0) w0 w1 (mS b (tx m0) w2 w3 q0 q1) (cS c b (tx m0) w2 w3 q2 q3) (mS b (tx m1) w2 w3 q4 q5) (cS c b (tx m1) w2 w3 q6 q7)) b [m0,m1]:=by cases c<;>refine ⟨?_,?_,?_⟩ <;>simp [*,rowsOf,gS,mS,cS,prG,prW,tbl,tst,dB,kn,pC,sdD,nmR,wdD,jr,snG,snW]
include e1 e2
theorem aa1:iw (gS a l0 l1 (tx n0) (tx n1) w0 w1 (mS b (tx m0) w2 w3 q0 q1) (cS c b (tx m1) w2 w3 q2 q3) (mS b (tx m0) w2 w3 q4 q5) (cS c b (tx m1) w2 w3 q6 q7)) a [n0,n1]:=by cases c<;>refine ⟨?_,?_,?_⟩ <;>simp [*,rowsOf,gS,mS,cS,prG,prW,tbl,tst,dB,kn,pC,sdD,nmR,wdD,jr,snG,snW]
theorem abr:iw (gS a l0 l1 (tx n0) (tx n1) w0 w1 (mS b (tx m0) w2 w3 q0 q1) (cS c b (tx m1) w2 w3 q2 q3) (mS b (tx m0) w2 w3 q4 q5) (cS c b (tx m1) w2 w3 q6 q7)) b (if c then [m0] else [m0,m1]):=by cases c<;>refine ⟨?_,?_,?_⟩ <;>simp [*,rowsOf,gS,mS,cS,prG,prW,tbl,tst,dB,kn,pC,sdD,nmR,wdD,jr,snG,snW]
theorem abt:iw (gS a l0 l1 (tx n0) (tx n1) w0 w1 (mS b (tx m0) w2 w3 q0 q1) (cS c b (tx m0) w2 w3 q2 q3) (mS b (tx m1) w2 w3 q4 q5) (cS c b (tx m1) w2 w3 q6 q7)) a [n0,n1]:=by cases c<;>refine ⟨?_,?_,?_⟩ <;>simp [*,rowsOf,gS,mS,cS,prG,prW,tbl,tst,dB,kn,pC,sdD,nmR,wdD,jr,snG,snW]
theorem abo:iw (gS a l0 l1 (tx n0) (tx n1) w0 w1 (mS b (tx m0) w2 w3 q0 q1) (cS c b (tx m0) w2 w3 q2 q3) (mS b (tx m1) w2 w3 q4 q5) (cS c b (tx m1) w2 w3 q6 q7)) b [m0,m1]:=by cases c<;>refine ⟨?_,?_,?_⟩ <;>simp [*,rowsOf,gS,mS,cS,prG,prW,tbl,tst,dB,kn,pC,sdD,nmR,wdD,jr,snG,snW]
end
open L2 (atI ixN Key)
theorem pr0 {f:Nat->Int}{B C:Nat->List Nat}{fi:Int}{k:Nat}:prK f B C fi k 0=mS (3-fi) (tx (B (sel (f 16 % 3) k 0))) (.str (tx (C 2))) (.str (tx (C 3))) (stk f k 0 0,1) (stk f k 0 1,1):=by
 unfold prK prt;rw [if_neg (by simp)];rfl
theorem pr1 {f:Nat->Int}{B C:Nat->List Nat}{fi:Int}{k:Nat}:prK f B C fi k 1=cS (decide (f 17 % 2=1)) (3-fi) (tx (B (sel (f 16 % 3) k 1))) (.str (tx (C 2))) (.str (tx (C 3))) (stk f k 1 0,1) (stk f k 1 1,1):=by
 unfold prK prt cS
 simp
 rfl
theorem O2 {f:Nat->Int}{A B C:Nat->List Nat}{fi sh:Int}:gmF f A B C fi sh=gS fi (qD (sh,5)) (qD (5-sh,5)) (tx (A 0)) (tx (A (two f))) (.str (tx (C 0))) (.str (tx (C 1)))
  (mS (3-fi) (tx (B (sel (f 16 % 3) 0 0))) (.str (tx (C 2))) (.str (tx (C 3))) (stk f 0 0 0,1) (stk f 0 0 1,1)) (cS (decide (f 17 % 2=1)) (3-fi) (tx (B (sel (f 16 % 3) 0 1))) (.str (tx (C 2))) (.str (tx (C 3))) (stk f 0 1 0,1) (stk f 0 1 1,1))
  (mS (3-fi) (tx (B (sel (f 16 % 3) 1 0))) (.str (tx (C 2))) (.str (tx (C 3))) (stk f 1 0 0,1) (stk f 1 0 1,1)) (cS (decide (f 17 % 2=1)) (3-fi) (tx (B (sel (f 16 % 3) 1 1))) (.str (tx (C 2))) (.str (tx (C 3))) (stk f 1 1 0,1) (stk f 1 1 1,1)):=by
 unfold gmF mvF mvP;rw [pr0,pr1,pr0,pr1,Nat.zero_mul,Nat.one_mul];rfl
theorem Xp {f:Nat->Int}{A B C:Nat->List Nat}{fi sh:Int}(hf:fi=1\/fi=2)(hA:A 0≠A 1)(hB:B 0≠B 1):∃Ns,iw (gmF f A B C fi sh) fi Ns/\Two Ns/\∀n∈Ns,n=A 0\/n=A 1:=by
 have ab:¬fi=3-fi:=by omega
 have ba:¬3-fi=fi:=by omega
 have e1:¬tx (A 0)=tx (A 1):=λz=>hA (gJ.mp z);have e2:¬tx (A 1)=tx (A 0):=λz=>hA (gJ.mp z).symm;have e3:¬tx (B 0)=tx (B 1):=λz=>hB (gJ.mp z);have e4:¬tx (B 1)=tx (B 0):=λz=>hB (gJ.mp z).symm;have hv:f 16 % 3=0\/f 16 % 3=1\/f 16 % 3=2:=by omega
 have ht:two f=0\/two f=1:=by unfold two;omega
 rw [O2];generalize two f=t at *;generalize f 16 % 3=v at *;have t1:Two [A 0]:=.inl ⟨_,rfl⟩;have t2:Two [A 0,A 1]:=.inr ⟨_,_,rfl,hA⟩;rcases ht with rfl | rfl
 ·refine ⟨[A 0],?_,t1,by simp⟩;rcases hv with rfl | rfl | rfl
  ·exact abb ab ba
  ·exact abj ab ba e3 e4
  ·exact abw ab ba e3 e4
 ·refine ⟨[A 0,A 1],?_,t2,by simp⟩;rcases hv with rfl | rfl | rfl
  ·exact aa9 ab ba e1 e2
  ·exact aa1 ab ba e1 e2 e3 e4
  ·exact abt ab ba e1 e2 e3 e4
theorem Xi {f:Nat->Int}{A B C:Nat->List Nat}{fi sh:Int}(hf:fi=1\/fi=2)(hA:A 0≠A 1)(hB:B 0≠B 1):∃Ns,iw (gmF f A B C fi sh) (3-fi) Ns/\Two Ns/\∀n∈Ns,n=B 0\/n=B 1:=by
 have ab:¬fi=3-fi:=by omega
 have ba:¬3-fi=fi:=by omega
 have e1:¬tx (A 0)=tx (A 1):=λz=>hA (gJ.mp z);have e2:¬tx (A 1)=tx (A 0):=λz=>hA (gJ.mp z).symm;have e3:¬tx (B 0)=tx (B 1):=λz=>hB (gJ.mp z);have e4:¬tx (B 1)=tx (B 0):=λz=>hB (gJ.mp z).symm;have hv:f 16 % 3=0\/f 16 % 3=1\/f 16 % 3=2:=by omega
 have ht:two f=0\/two f=1:=by unfold two;omega
 rw [O2];generalize two f=t at *;generalize f 16 % 3=v at *;generalize decide (f 17 % 2=1)=c at *;have t1:Two [B 0]:=.inl ⟨_,rfl⟩;have t2:Two [B 0,B 1]:=.inr ⟨_,_,rfl,hB⟩;have t3:Two (if c then [B 0] else [B 0,B 1]):=by cases c<;>assumption
 rcases hv with rfl | rfl | rfl
 ·refine ⟨[B 0],?_,t1,by simp⟩;rcases ht with rfl | rfl
  ·exact aaS ab ba
  ·exact aa7 ab ba e1 e2
 ·refine ⟨if c then [B 0] else [B 0,B 1],?_,t3,by cases c<;>simp⟩;rcases ht with rfl | rfl
  ·exact abg ab ba e3 e4
  ·exact abr ab ba e1 e2 e3 e4
 ·refine ⟨[B 0,B 1],?_,t2,by simp⟩;rcases ht with rfl | rfl
  ·exact abE ab ba e3 e4
  ·exact abo ab ba e1 e2 e3 e4
theorem aaC {f:Nat->Int}{A B C:Nat->List Nat}{fi sh:Int}(hf:fi=1\/fi=2):iB (gmF f A B C fi sh)/\sdG (gmF f A B C fi sh)/\dp (gmF f A B C fi sh)<=25/\szG (gmF f A B C fi sh)<=500:=by
 have hg:3-fi=1\/3-fi=2:=by omega
 rw [O2];generalize 3-fi=b at *;generalize decide (f 17 % 2=1)=c at *;cases c<;>simp [gS,mS,cS,iB,qz,lB,sdG,sdW,dp,dpW,szG,szW,hf,hg]
theorem Xh {f:Nat->Int}{A B C:Nat->List Nat}{fi sh s x:Int}(hf:fi=1\/fi=2)(hs:s=1\/s=2)(hA:A 0≠A 1)(hB:B 0≠B 1)(nA:∀k,Nam (A k))(nB:∀k,Nam (B k))(h0:0<=x)(h1:x<=1000003):kY [dG (gmF f A B C fi sh),.int s,.int x]=.ok (false,.bl true):=by
 have key:∃Ns,iw (gmF f A B C fi sh) s Ns/\Two Ns/\∀n∈Ns,Nam n:=by
  by_cases e:s=fi
  ·subst e;obtain ⟨Ns,a,b,c⟩:=Xp (f:=f) (C:=C) (sh:=sh) hf hA hB;exact ⟨Ns,a,b,λn hn=>by rcases c n hn with rfl | rfl<;>exact nA _⟩
  ·have e:s=3-fi:=by omega
   subst e;obtain ⟨Ns,a,b,c⟩:=Xi (f:=f) (C:=C) (sh:=sh) hf hA hB;exact ⟨Ns,a,b,λn hn=>by rcases c n hn with rfl | rfl<;>exact nB _⟩
 obtain ⟨Ns,⟨r1,r2,r3⟩,t,nm⟩:=key;obtain ⟨g1,g2,g3,g4⟩:=aaC (f:=f) (A:=A) (B:=B) (C:=C) (fi:=fi) (sh:=sh) hf;have hl:Ns.length<=100:=by rcases t with ⟨a,rfl⟩ | ⟨a,b,rfl,_⟩<;>simp
 have G:Gk (gmF f A B C fi sh) s Ns:=⟨g1,g2,by omega,by omega,r1,r2,hl⟩;obtain ⟨b,e⟩:=KH s 30 (gmF f A B C fi sh) (by omega) g1 g4;rw [r3] at e;have e:cF 30 [dG (gmF f A B C fi sh),.int s]=.ok (b,.lst (nmD Ns)):=by
  rw [e];simp [nmD,List.map_map,Function.comp_def]
 exact Xn G nm t e h0 h1
theorem Bw {g:Gm}{s:Int}(h1:iB g)(h2:sdG g)(h3:dp g<=50)(h4:szG g<=10000)(h5:rowsOf g s=[]):dJ [dG g,.int s,.str (Str.ofString "")]=.ok (true,.dct [] [])/\c7 [dG g,.int s,.dct [] []]=.ok (false,.str (Str.ofString "")):=by
 have G:Gk g s []:=⟨h1,h2,h3,h4,by rw [h5];rfl,by rw [h5];simp,by simp⟩;have r:=zB G (Ms:=[]) (q:=λ_=>0) rfl (by simp) (by simp);have sh:=Eh G (Ms:=[]) (q:=λ_=>0) (by simp) rfl (by simp) (by simp);refine ⟨?_,?_⟩
 ·have e0:fZ [.str (Str.ofString "")]=.ok (false,.lst []):=by
   have q:gEq (.str (Str.ofString "")) (.str (Str.ofString ""))=some true:=by simp [gEq]
   have run:∀Q:Zae,aW 1 1 (iK Q) [.str (Str.ofString "")]=.ok (false,.lst []):=λQ=>by
    simp [aW,iK,bz,Me.let,Sl.let,fIf,aU,ao,fC,q,fO,az]
   exact run _
  exact Dz e0 rfl rfl r
 ·rw [JP];exact sh
open L2 (atI ixN Key)
abbrev qd (a b:Int):D:=.tup [.int a,.int b]
abbrev eD (k:Int):D:=.tup [.str "end",qd k 1]
theorem Kg {t b p q:Int}(hb:1<=b)(h2:b<=1000000)(h:lt t b=p/\lb t b=q):fj [.int t,.int b]=.ok (false,qd p q):=by
 rw [rE (by omega) (bqS (by omega) (by omega)),h.1,h.2]
theorem Aw {a b c d p q:Int}(ha:0<=a/\a<=1000)(hc:0<=c/\c<=1000)(hb:1<=b/\b<=1000)(hd:1<=d/\d<=1000)(h:lt (a*c) (b*d)=p/\lb (a*c) (b*d)=q):lN [qd a b,qd c d]=.ok (false,qd p q):=by
 have h1:1<=b*d:=by have:=Int.mul_le_mul hb.1 hd.1 (by decide) (by omega);omega
 have h2:b*d<=1000000:=by have:=Int.mul_le_mul hb.2 hd.2 (by omega) (by decide);omega
 have e:=Kg h1 h2 h;have m1:=lM (a:=a) (b:=c) (by omega) (by omega) (by omega) (by omega);have m2:=lM (a:=b) (b:=d) (by omega) (by omega) (by omega) (by omega);simp [lN,aW,Dk,Dr,bz,Me.let,Sl.let,fFn,aj,az,aD,ao,fC,gIx,ix0,ix1,m1,m2,e]
theorem Hr {a b:Int}(ha:0<=a/\a<=1000000)(hb:1<=b/\b<=1000000)(g:gI a b=1):o5 [qd 0 1,qd a b]=.ok (false,qd a b):=by
 have e:=Kg hb.1 hb.2 (LR hb.1 g);have m1:=lM (a:=0) (b:=b) (by decide) (by decide) (by omega) (by omega);have m2:=lM (a:=a) (b:=1) (by omega) (by omega) (by decide) (by decide);have m3:=lM (a:=1) (b:=b) (by decide) (by decide) (by omega) (by omega);rw [Int.zero_mul] at m1;rw [Int.mul_one] at m2;rw [Int.one_mul] at m3;have ad:cN (.int 0) (.int a)=some (.int a):=by rw [sX,Int.zero_add]
 simp [o5,aW,CK,De,bz,Me.let,Sl.let,fFn,aj,az,aD,ao,fC,gIx,ix0,ix1,m1,m2,m3,ad,e]
structure Wk where
 s:D
 b:D
 k:List Kt
structure Mz (w:Wk):Prop where
 kt:wj w.b=some w.k
 tk:tupK w.k=w.b
 pl:o5 [qd 0 1,w.s]=.ok (false,w.s)
def wk (w:Wk):D:=.tup [w.s,w.b]
theorem Vi {w:Wk}{ks:List (List Kt)}{ds:List D}{u:Sl}(h:Mz w)(hn:w.k∉ks)(hl:ks.length<=100):
  gA [u,.ow (.dcu ks ds),.fz w.s,.fz w.b]=.ok (.nx,[u,.ow (.dcu (ks++[w.k]) (ds++[w.s])),.fz w.s,.fz w.b]):=by
 have e1:=h.pl;have e2:=Qq (ds:=ds) hn;have e3:qF ks ds w.k w.s=(ks++[w.k],ds++[w.s]):=by
  unfold qF;rw [if_neg (λz=>hn (CT.mp z))]
 have e4:ks.length<16777216:=by omega
 simp [gA,G4,fFn,aj,az,HN,ao,aH,fC,dcK,h.kt,e2,e1,GR,e4,tH,e3]
theorem J3 {u:Sl}:∀(l pre:List Wk) (s2 s3:Sl),(∀w∈l,Mz w)->((pre++l).map Wk.k).Nodup->(pre++l).length<=100->∃s2' s3',bM (jt 2 (bN (hName 2) (bN (hName 3) jq))) gA (l.map wk) [u,.ow (.dcu (pre.map Wk.k) (pre.map Wk.s)),s2,s3]=.ok (.nx,[u,.ow (.dcu ((pre++l).map Wk.k) ((pre++l).map Wk.s)),s2',s3'])
 |[],pre,s2,s3,_,_,_=>⟨s2,s3,by rw [List.append_nil];rfl⟩
 |w::l,pre,s2,s3,h,hd,hl=>by
  have hn:w.k∉pre.map Wk.k:=by
   rw [List.map_append,List.nodup_append] at hd;exact λz=>hd.2.2 _ z _ (by simp) rfl
  have st:=Vi (u:=u) (ds:=pre.map Wk.s) (h w (by simp)) hn (by simp at hl ⊢;omega);obtain ⟨s2',s3',e⟩:=J3 (u:=u) l (pre++[w]) (.fz w.s) (.fz w.b) (λx hx=>h x (List.mem_cons_of_mem _ hx)) (by simpa using hd) (by simpa using hl);refine ⟨s2',s3',?_⟩;rw [List.append_assoc] at e;rw [List.map_cons,bF (m1:=[u,.ow (.dcu (pre.map Wk.k) (pre.map Wk.s)),.fz w.s,.fz w.b]) rfl st];simpa using e
theorem G7:∀l:List Wk,(∀w∈l,Mz w)->bV (jt 2 (bN (hName 0) (bN (hName 1) jq))) cM gB [.un,.un] (ir (l.map Wk.k) (l.map Wk.s))=.ok (l.map wk)
 |[],_=>rfl
 |w::l,h=>by
  have ih:=G7 l λx hx=>h x (List.mem_cons_of_mem _ hx);have ee:gB [.fz w.b,.fz w.s]=.ok (wk w):=by simp [gB,aQ,aj,az,aH,wk]
  have ei:ir ((w::l).map Wk.k) ((w::l).map Wk.s)=.tup [w.b,w.s]::ir (l.map Wk.k) (l.map Wk.s):=by
   have:=(h w (by simp)).tk
   simp [ir,this]
  rw [ei];unfold bV;have hh:jt 2 (bN (hName 0) (bN (hName 1) jq)) (.tup [w.b,w.s]) [.un,.un]=some [.fz w.b,.fz w.s]:=rfl;rw [hh];simp [cM,ee,ih]
theorem aav {l:List Wk}(h:∀w∈l,Mz w)(hd:(l.map Wk.k).Nodup)(hl:l.length<=100):gn [.lst (l.map wk)]=.ok (true,.lst (l.map wk)):=by
 obtain ⟨s2,s3,e⟩:=J3 (u:=.fz (.lst (l.map wk))) l [] .un .un h (by simpa using hd) (by simpa using hl);have e1:pq [.fz (.lst (l.map wk)),.ow (.dcu [] []),.un,.un]=.ok (.nx,[.fz (.lst (l.map wk)),.ow (.dcu (l.map Wk.k) (l.map Wk.s)),s2,s3]):=e;have it:=G7 l h;have hz:(ir (l.map Wk.k) (l.map Wk.s)).length<=16777216:=by
  have:∀l:List Wk,(ir (l.map Wk.k) (l.map Wk.s)).length=l.length:=λl=>by
   induction l with
   |nil=>rfl
   |cons w l ih=>simp [ir] at ih ⊢;exact ih
  rw [this];omega
 have q4:jO [.fz (.lst (l.map wk)),.fz (.dcf (l.map Wk.k) (l.map Wk.s)),s2.let,s3.let]=.ok (.lst (l.map wk)):=by
  simp [jO,bY,Y4,aH,cMe,hz,it]
 have lf:∀d:D,Sl.let (.fz d)=.fz d:=λ_=>rfl;simp [gn,aW,mY,m7,aM,iZ,GK,e1,VL,iD,Me.let,lf,q4]
open L2 (atI ixN Key)
theorem yX {s b:D}{t:Str}(i0:gIx b (.int 0)=some (.str t))(ht:gNe (.str t) (.str "deal")=some true):cW [s,b]=.ok (true,.lst [.tup [s,b]]):=by
 simp [cW,aW,lQ,mj,aM,gIf,aU,aD,ao,fC,i0,ht,iD,Me.let,Sl.let,fO,aQ,aj,az,aH]
abbrev dD (n:Str)(ws:List D):D:=.tup [.str "deal",.str n,.tup ws]
theorem T5 {s s1 s2 b1 b2 r1 r2:D}{n:Str}(t1:lN [s,s1]=.ok (false,r1))(t2:lN [s,s2]=.ok (false,r2)):cW [s,dD n [.tup [s1,b1],.tup [s2,b2]]]=.ok (true,.lst [.tup [r1,b1],.tup [r2,b2]]):=by
 have c:bV (jt 2 (bN (hName 0) (bN (hName 1) jq))) cM eU [.un,.un,.fz s] [.tup [s1,b1],.tup [s2,b2]]=.ok [.tup [r1,b1],.tup [r2,b2]]:=by
  have a1:eU [.fz s1,.fz b1,.fz s]=.ok (.tup [r1,b1]):=by simp [eU,aQ,aj,az,aH,fFn,t1]
  have a2:eU [.fz s2,.fz b2,.fz s]=.ok (.tup [r2,b2]):=by simp [eU,aQ,aj,az,aH,fFn,t2]
  have hh:∀x y:D,jt 2 (bN (hName 0) (bN (hName 1) jq)) (.tup [x,y]) [.un,.un,.fz s]=some [.fz x,.fz y,.fz s]:=λ_ _=>rfl;simp only [bV,hh,cM,a1,a2]
 have q2:m5 [.fz s,.fz (dD n [.tup [s1,b1],.tup [s2,b2]])]=.ok (.lst [.tup [r1,b1],.tup [r2,b2]]):=by
  have fi:kW (aD gIx (ao 1) (fC (.int 2))) [.fz s,.fz (dD n [.tup [s1,b1],.tup [s2,b2]])]=.ok [.tup [s1,b1],.tup [s2,b2]]:=rfl;have eb:cMe 2 [0] [.fz s,.fz (dD n [.tup [s1,b1],.tup [s2,b2]])]=[.un,.un,.fz s]:=rfl;have hl:[D.tup [s1,b1],D.tup [s2,b2]].length<=sizeLine:=by simp
  unfold m5 bY;rw [fi];simp only [Res.bind,if_pos hl,eb,c]
 have i0:gIx (dD n [.tup [s1,b1],.tup [s2,b2]]) (.int 0)=some (.str "deal"):=rfl;have nd:gNe (.str "deal") (.str "deal")=some false:=by decide +kernel
 generalize dD n [.tup [s1,b1],.tup [s2,b2]]=B at *;simp [cW,aW,lQ,mj,aM,gIf,aU,aD,ao,fC,i0,nd,iD,gNx,Me.let,Sl.let,q2]
theorem Hc {G s b:D}{acc es:List D}(h:cW [s,b]=.ok (true,.lst es))(hl:acc.length+es.length<=100):lG [.fz G,.ow (.lst acc),.fz s,.fz b]=.ok (.nx,[.fz G,.ow (.lst (acc++es)),.fz s,.fz b]):=by
 have ol:∀x y z:Sl,yw [x,.ow (.lst acc),y,z] 1=some (true,acc):=λ_ _ _=>rfl;have it:isTup (.lst es)=false:=rfl;have hz:acc.length+es.length<=16777216:=by omega
 simp [lG,uY,ol,HW,aj,az,aH,h,it,hz,putL]
theorem Dc {n:Str}{x:D}{ds:List D}:dm [.tup [.str "deal",.str n,x],.lst ds]=.ok (false,dD n ds):=by
 have e:gSl (.tup [.str "deal",.str n,x]) none (some (-1))=some (.tup [.str "deal",.str n]):=rfl;have e2:cN (.tup [.str "deal",.str n]) (.tup [.tup ds])=some (dD n ds):=rfl;simp [dm,aW,nQ,nD,bz,Me.let,Sl.let,aD,fSl,ao,fO0,fO1,fC,fUn,tW,e,aQ,aj,az,aX,jB,e2]
theorem TQ {s n x:D}{ds:List D}:dm [.tup [.str "move",s,n,x],.lst ds]=.ok (false,.tup [.str "move",s,n,.tup ds]):=by
 have e:gSl (.tup [.str "move",s,n,x]) none (some (-1))=some (.tup [.str "move",s,n]):=rfl;have e2:cN (.tup [.str "move",s,n]) (.tup [.tup ds])=some (.tup [.str "move",s,n,.tup ds]):=rfl;simp [dm,aW,nQ,nD,bz,Me.let,Sl.let,aD,fSl,ao,fO0,fO1,fC,fUn,tW,e,aQ,aj,az,aX,jB,e2]
theorem WN {n:Str}{s1 s2 b1 b2:D}{es1 es2:List D}{l:List Wk}(h1:cW [s1,b1]=.ok (true,.lst es1))(h2:cW [s2,b2]=.ok (true,.lst es2))(he:es1++es2=l.map wk)(ho:∀w∈l,Mz w)(hd:(l.map Wk.k).Nodup)(hl:l.length<=50)(h1l:¬l.length=1):
  fQ [dD n [.tup [s1,b1],.tup [s2,b2]]]=.ok (false,dD n (l.map wk)):=by
 have hle:es1.length+es2.length=l.length:=by rw [← List.length_append,he,List.length_map]
 have lp:lK [.fz (dD n [.tup [s1,b1],.tup [s2,b2]]),.ow (.lst []),.un,.un]=.ok (.nx,[.fz (dD n [.tup [s1,b1],.tup [s2,b2]]),.ow (.lst (l.map wk)),.fz s2,.fz b2]):=by
  have fi:kW (aD gIx (ao 0) (fC (.int 2))) [.fz (dD n [.tup [s1,b1],.tup [s2,b2]]),.ow (.lst []),.un,.un]=.ok [.tup [s1,b1],.tup [s2,b2]]:=rfl;unfold lK g8;rw [fi,← he];show bM _ _ _ _=_;generalize dD n [.tup [s1,b1],.tup [s2,b2]]=G;rw [bF (m1:=[.fz G,.ow (.lst []),.fz s1,.fz b1]) rfl (Hc h1 (by simp;omega)),bF (m1:=[.fz G,.ow (.lst ([]++es1)),.fz s2,.fz b2]) rfl (Hc h2 (by simp;omega))];rfl
 have pt:=aav ho hd (by omega);have ww:=Dc (n:=n) (x:=.tup [.tup [s1,b1],.tup [s2,b2]]) (ds:=l.map wk);have ln:eN [.lst (l.map wk)]=some (.int l.length):=by simp [eN]
 have ne:gEq (.int (l.length:Int)) (.int 1)=some false:=by
  show some (decide ((l.length:Int)=1))=_;rw [decide_eq_false (by omega)]
 have it:isTup (.lst (l.map wk))=false:=rfl;have lf:∀d:D,Sl.let (.fz d)=.fz d:=λ_=>rfl;have lo:∀d:D,Sl.let (.ow d)=.fz d:=λ_=>rfl;have ww:dm [dD n [.tup [s1,b1],.tup [s2,b2]],.lst (l.map wk)]=.ok (false,dD n (l.map wk)):=ww;generalize dD n [.tup [s1,b1],.tup [s2,b2]]=G at *;generalize l.map wk=L at *;simp [fQ,aW,oE,oN,aM,iZ,fO,az,lp,Vm,HW,aj,aH,pt,it,bz,Me.let,lf,lo,fIf,aU,aX,ao,ln,fC,ne,fFn,ww]
theorem Ew (k:Nat)(q:Int):cA (k+1) [eD q]=.ok (false,eD q):=by
 have i0:gIx (eD q) (.int 0)=some (.str "end"):=rfl;have e0:gEq (.str "end") (.str "end")=some true:=by decide +kernel
 generalize eD q=E at *;simp [cA,aW,rJ,aM,gIf,aU,aD,ao,fC,i0,e0,bz,Me.let,Sl.let,aH]
theorem HJ {k:Nat}{G s1 s2 b1 b2 r1 r2 W R:D}{t:Str}(i0:gIx G (.int 0)=some (.str t))(ix:gIx G (.int (-1))=some (.tup [.tup [s1,b1],.tup [s2,b2]]))(h1:cA k [b1]=.ok (false,r1))(h2:cA k [b2]=.ok (false,r2))(ne:gEq (.str t) (.str "end")=some false)
  (hw:dm [G,.lst [.tup [s1,r1],.tup [s2,r2]]]=.ok (false,W)) (hf:gEq (.str t) (.str "deal")=some true/\fQ [W]=.ok (false,R)\/gEq (.str t) (.str "deal")=some false/\R=W):cA (k+1) [G]=.ok (false,R):=by
 have c:bV (jt 2 (bN (hName 0) (bN (hName 1) jq))) cM (jE (cA k)) [.un,.un] [.tup [s1,b1],.tup [s2,b2]]=.ok [.tup [s1,r1],.tup [s2,r2]]:=by
  have a1:jE (cA k) [.fz s1,.fz b1]=.ok (.tup [s1,r1]):=by simp [jE,aQ,aj,az,aH,fFn,h1]
  have a2:jE (cA k) [.fz s2,.fz b2]=.ok (.tup [s2,r2]):=by simp [jE,aQ,aj,az,aH,fFn,h2]
  have hh:∀x y:D,jt 2 (bN (hName 0) (bN (hName 1) jq)) (.tup [x,y]) [.un,.un]=some [.fz x,.fz y]:=λ_ _=>rfl;simp only [bV,hh,cM,a1,a2]
 have ng:tW (.int 1)=some (.int (-1)):=rfl;have q2:uy (cA k) [.fz G,.un]=.ok (.lst [.tup [s1,r1],.tup [s2,r2]]):=by
  have fi:kW (aD gIx (ao 0) (fUn tW (fC (.int 1)))) [.fz G,.un]=.ok [.tup [s1,b1],.tup [s2,b2]]:=by simp [kW,aD,ao,fUn,fC,ng,ix]
  have eb:cMe 2 [] [.fz G,.un]=[.un,.un]:=rfl;have hl:[D.tup [s1,b1],D.tup [s2,b2]].length<=sizeLine:=by simp
  unfold uy bY;rw [fi];simp only [Res.bind,if_pos hl,eb,c]
 rcases hf with ⟨f1,f2⟩ | ⟨f1,rfl⟩
 ·simp [cA,aW,rJ,aM,gIf,aU,aD,ao,fC,i0,ne,bz,Me.let,Sl.let,aH,gNx,bf,fFn,aj,az,q2,hw,fIf,f1,f2]
 ·simp [cA,aW,rJ,aM,gIf,aU,aD,ao,fC,i0,ne,bz,Me.let,Sl.let,aH,gNx,bf,fFn,aj,az,q2,hw,fIf,f1]
def kE (q:Int):List Kt:=[.k (.inr "end"),.t [.k (.inl q),.k (.inl 1)]]
abbrev mvD:D:=.tup [.str "move",.int 1,.str "s",.tup [.tup [.str "a",eD 3],.tup [.str "b",eD 4]]]
def kM:List Kt:=[.k (.inr "move"),.k (.inl 1),.k (.inr "s"),.t [.t [.k (.inr "a"),.t (kE 3)],.t [.k (.inr "b"),.t (kE 4)]]]
theorem aai:gEq (.str "deal") (.str "end")=some false:=by decide +kernel
theorem We:gEq (.str "deal") (.str "deal")=some true:=by decide +kernel
theorem Zh:gEq (.str "move") (.str "end")=some false:=by decide +kernel
theorem WY:gEq (.str "move") (.str "deal")=some false:=by decide +kernel
theorem neE:gNe (.str "end") (.str "deal")=some true:=by decide +kernel
theorem neM:gNe (.str "move") (.str "deal")=some true:=by decide +kernel
theorem UT (k:Nat):cA (k+2) [mvD]=.ok (false,mvD):=HJ (t:="move") rfl rfl (Ew k 3) (Ew k 4) Zh TQ (.inr ⟨WY,rfl⟩)
abbrev inD:D:=dD "e" [.tup [qd 1 51,eD 1],.tup [qd 50 51,eD 2]]
theorem wkE {a b q:Int}(ha:0<=a/\a<=1000000)(hb:1<=b/\b<=1000000)(g:gI a b=1):Mz ⟨qd a b,eD q,kE q⟩:=⟨rfl,rfl,Hr ha hb g⟩
theorem Wm {p q:Int}(h:p≠q):kE p≠kE q:=λz=>h (by simpa [kE] using z)
theorem aah (k:Nat):cA (k+2) [inD]=.ok (false,inD):=by
 refine HJ (t:="deal") rfl rfl (Ew k 1) (Ew k 2) aai Dc (.inl ⟨We,?_⟩);refine WN (l:=[⟨qd 1 51,eD 1,kE 1⟩,⟨qd 50 51,eD 2,kE 2⟩]) (yX (t:="end") rfl neE) (yX (t:="end") rfl neE) rfl ?_ ?_ (by simp) (by simp)
 ·intro w hw;simp at hw;rcases hw with rfl | rfl
  ·exact wkE (by decide) (by decide) (by decide)
  ·exact wkE (by decide) (by decide) (by decide)
 ·simp [Wm]
def gC:Gm:=.deal "d" (.cons (qD (1,2652)) (.fin (1,1)) (.cons (qD (25,1326)) (.fin (2,1)) (.cons (qD (51,52)) (.move 1 "s" (.cons (.str "a") (.fin (3,1)) (.cons (.str "b") (.fin (4,1)) .nil))) .nil)))
theorem QQ (k:Nat):cA (k+3) [dD "d" [.tup [qd 1 52,inD],.tup [qd 51 52,mvD]]]=.ok (false,dG gC):=by
 have t1:lN [qd 1 52,qd 1 51]=.ok (false,qd 1 2652):=Aw (by decide) (by decide) (by decide) (by decide) (by decide +kernel);have t2:lN [qd 1 52,qd 50 51]=.ok (false,qd 25 1326):=Aw (by decide) (by decide) (by decide) (by decide) (by decide +kernel);have km:kM≠kE 1/\kM≠kE 2:=by constructor<;>simp [kM,kE]
 refine HJ (t:="deal") rfl rfl (aah k) (UT k) aai Dc (.inl ⟨We,?_⟩);refine (WN (l:=[⟨qd 1 2652,eD 1,kE 1⟩,⟨qd 25 1326,eD 2,kE 2⟩,⟨qd 51 52,mvD,kM⟩]) (T5 t1 t2) (yX (t:="move") rfl neM) rfl ?_ ?_ (by simp) (by simp)).trans rfl
 ·intro w hw;simp at hw;rcases hw with rfl | rfl | rfl
  ·exact wkE (by decide) (by decide) (by decide)
  ·exact wkE (by decide) (by decide) (by decide)
  ·exact ⟨rfl,rfl,Hr (by decide) (by decide) (by decide)⟩
 ·simp [Wm];exact ⟨λz=>km.1 z.symm,λz=>km.2 z.symm⟩
open L2 (atI ixN Key)
theorem s_s:Str.ofString "s" = tx [115]:=by decide +kernel
theorem Mq:Gk gC 1 [[115]]:=by
 refine ⟨?_,?_,?_,?_,?_,?_,by simp⟩
 ·simp [gC,iB,qz,lB]
 ·simp [gC,sdG,sdW]
 ·simp [gC,dp,dpW]
 ·simp [gC,szG,szW]
 ·simp [rowsOf,gC,prG,prW,tbl,tst,dB,kn,pC,sdD,nmR,s_s]
 ·simp [rowsOf,gC,prG,prW,tbl,tst,dB,kn,pC,sdD,wdD,jr]
theorem TJ:rowsOf gC 2=[]:=by simp [rowsOf,gC,prG,prW,tbl,tst,dB,kn,pC,sdD]
theorem SJ:OkQ (Rat.divInt 1 3):=⟨by decide +kernel,by decide +kernel,⟨by decide +kernel,by decide +kernel⟩,⟨by decide +kernel,by decide +kernel⟩⟩
theorem W5:OkQ 0:=⟨by decide +kernel,by decide +kernel,⟨by decide +kernel,by decide +kernel⟩,⟨by decide +kernel,by decide +kernel⟩⟩
theorem Wd:Nam [115]:=⟨by simp,by simp,by simp⟩
theorem Rj:shD (Rat.divInt 1 3)=.tup [qd 1 3,qd 2 3]:=by
 have n1:(Rat.divInt 1 3).num=1:=by decide +kernel
 have n2:(Rat.divInt 1 3).den=3:=by decide +kernel
 have n3:(1-Rat.divInt 1 3).num=2:=by decide +kernel
 have n4:(1-Rat.divInt 1 3).den=3:=by decide +kernel
 simp only [shD,yl,n1,n2,n3,n4];rfl
theorem R9:shD 0=.tup [qd 0 1,qd 1 1]:=by
 have n3:(1 - 0:Rat).num=1:=by decide +kernel
 have n4:(1 - 0:Rat).den=1:=by decide +kernel
 simp only [shD,yl,n3,n4];rfl
theorem Ih:c7 [dG gC,.int 1,.dct [.inr "s"] [.tup [qd 1 3,qd 2 3]]]=.ok (false,.str "s 1/3 2/3"):=by
 have h:=Eh Mq (Ms:=[[115]]) (q:=λ_=>Rat.divInt 1 3) (by simp [Wd]) rfl (by simp) (by simp [SJ]);have e1:plD [[115]] (λ_=>Rat.divInt 1 3)=.dct [.inr "s"] [.tup [qd 1 3,qd 2 3]]:=by
  have a:=Rj;show D.dct [.inr (tx [115])] [shD (Rat.divInt 1 3)]=_;rw [a,← s_s]
 have e2:tx (txP [[115]] (λ_=>Rat.divInt 1 3)) = "s 1/3 2/3":=by decide +kernel
 rw [e1,e2] at h;exact h
theorem SM:dJ [dG gC,.int 1,.str "s 0 1"]=.ok (true,.dct [.inr "s"] [.tup [qd 0 1,qd 1 1]]):=by
 have h:=Pg Mq (Ms:=[[115]]) (q:=λ_=>0) (by simp [Wd]) (by simp [W5]) rfl (by simp) (.inl ⟨_,rfl⟩);have e1:plD [[115]] (λ_=>0)=.dct [.inr "s"] [.tup [qd 0 1,qd 1 1]]:=by
  have a:=R9;show D.dct [.inr (tx [115])] [shD 0]=_;rw [a,← s_s]
 have e2:tx (txP [[115]] (λ_=>0)) = "s 0 1":=by decide +kernel
 rw [e1,e2] at h;exact h
theorem Ng:fL [.dct [.inr "s"] [.tup [qd 0 1,qd 1 1]],.dct [.inr "s"] [.tup [qd 0 1,qd 1 1]]]=.ok (false,.bl true):=by
 have h:=Lp (q:=λ_=>0) (Ns:=[[115]]) (Ms:=[[115]]) rfl (λ_ h=>h);have e1:plD [[115]] (λ_=>0)=.dct [.inr "s"] [.tup [qd 0 1,qd 1 1]]:=by
  have a:=R9;show D.dct [.inr (tx [115])] [shD 0]=_;rw [a,← s_s]
 rw [e1] at h;exact h
theorem MT {sh rd fo al:Zac}{g:D}(hf:fo [dD "d" [.tup [qd 1 52,inD],.tup [qd 51 52,mvD]]]=.ok (false,g))(s1:sh [g,.int 1,.dct [.inr "s"] [.tup [qd 1 3,qd 2 3]]]=.ok (false,.str "s 1/3 2/3"))(s2:sh [g,.int 2,.dct [] []]=.ok (false,.str ""))
  (r1:rd [g,.int 1,.str "s 0 1"]=.ok (true,.dct [.inr "s"] [.tup [qd 0 1,qd 1 1]])) (r2:rd [g,.int 2,.str ""]=.ok (true,.dct [] [])) (al1:al [.dct [.inr "s"] [.tup [qd 0 1,qd 1 1]],.dct [.inr "s"] [.tup [qd 0 1,qd 1 1]]]=.ok (false,.bl true)):aW 3 0 (lR sh rd fo al) []=.ok (false,.bl true):=by
 have n1:gNe (.str "s 1/3 2/3") (.str "s 1/3 2/3")=some false:=by simp [gNe,gEq]
 have n2:gNe (.str "") (.str "")=some false:=by simp [gNe,gEq]
 have d1:∀(a b c d:Int) (m:Me),Ax [((fC (.str "s")),(aQ (aj (aQ (aj (fC (.int a)) (aj (fC (.int b)) az))) (aj (aQ (aj (fC (.int c)) (aj (fC (.int d)) az))) az))))] m=.ok (.dct [.inr "s"] [.tup [qd a b,qd c d]]):=λa b c d m=>by
  simp [Ax,Cu,fC,aQ,aj,az,Ft,uw,putD]
 have de:HQ (.dct [] []) (.dct [] [])=some true:=rfl;have h0:∀a b c:Sl,bf 0 (aQ (aj (fC (.str "deal")) (aj (fC (.str "e")) (aj (aQ (aj (aQ (aj (aQ (aj (fC (.int 1)) (aj (fC (.int 51)) az))) (aj (aQ (aj (fC (.str "end")) (aj (aQ (aj (fC (.int 1)) (aj (fC (.int 1)) az))) az))) az))) (aj (aQ (aj (aQ (aj (fC (.int 50)) (aj (fC (.int 51)) az))) (aj (aQ (aj (fC (.str "end")) (aj (aQ (aj (fC (.int 2)) (aj (fC (.int 1)) az))) az))) az))) az))) az)))) [a,b,c]=.ok (.nx,[.fz inD,b,c]):=λa b c=>by
  simp [bf,aQ,aj,az,fC]
 have h1:∀a b c:Sl,bf 1 (aQ (aj (fC (.str "move")) (aj (fC (.int 1)) (aj (fC (.str "s")) (aj (aQ (aj (aQ (aj (fC (.str "a")) (aj (aQ (aj (fC (.str "end")) (aj (aQ (aj (fC (.int 3)) (aj (fC (.int 1)) az))) az))) az))) (aj (aQ (aj (fC (.str "b")) (aj (aQ (aj (fC (.str "end")) (aj (aQ (aj (fC (.int 4)) (aj (fC (.int 1)) az))) az))) az))) az))) az))))) [a,b,c]=.ok (.nx,[a,.fz mvD,c]):=λa b c=>by
  simp [bf,aQ,aj,az,fC]
 have h2:∀c:Sl,bf 2 (fFn fo (aj (aQ (aj (fC (.str "deal")) (aj (fC (.str "d")) (aj (aQ (aj (aQ (aj (aQ (aj (fC (.int 1)) (aj (fC (.int 52)) az))) (aj (aH 0) az))) (aj (aQ (aj (aQ (aj (fC (.int 51)) (aj (fC (.int 52)) az))) (aj (aH 1) az))) az))) az)))) az)) [.fz inD,.fz mvD,c]=.ok (.nx,[.fz inD,.fz mvD,.fz g]):=λc=>by
  simp [bf,fFn,aQ,aj,az,fC,aH,hf]
 simp [aW,lR,aM,h0,h1,h2,gIf,gP,aU,fFn,aj,az,aH,fC,d1,s1,n1,sW,s2,n2,gNx,bz,Me.let,Sl.let,vH,fTv,r1,al1,qG,r2,de]
theorem Sx:lU []=.ok (false,.bl true):=by
 obtain ⟨r2,s2⟩:=Bw (g:=gC) (s:=2) Mq.len Mq.sd Mq.dp Mq.sz TJ;exact MT (QQ 9) Ih s2 SM r2 Ng
theorem U5 {sh rd nu ga te ca:Zac}{ns X g:D}{fi x20 x21 x22 x23:Int}{W:Str}
  (h1:nu [ns]=.ok (true,X)) (h2:ga [X]=.ok (false,g)) (i20:gIx X (.int 20)=some (.int x20)) (i21:gIx X (.int 21)=some (.int x21)) (i22:gIx X (.int 22)=some (.int x22)) (i23:gIx X (.int 23)=some (.int x23))
  (t1:te [g,.int 1,.int x20]=.ok (false,.bl true)) (t2:te [g,.int 2,.int x21]=.ok (false,.bl true)) (hs:∀m:Me,m[2]? = some (.fz g)->aD gIx (aD gIx (aD gIx (aD gIx (ao 2) (fC (.int 2))) (fC (.int 0))) (fC (.int 1))) (fC (.int 1)) m=.ok (.int fi))
  (gs:zT [.int (x22 % 9)]=some (.str W)) (wl:W.length<=100)
  (r:rd [.tup [.str "move",.int fi,.str "alone",.tup [.tup [.str (Str.ofString "a" ++ W),.tup [.str "end",qd (x23 % 9) 1]]]],.int (3-fi),.str ""]=.ok (true,.dct [] [])) (s:sh [.tup [.str "move",.int fi,.str "alone",.tup [.tup [.str (Str.ofString "a" ++ W),.tup [.str "end",qd (x23 % 9) 1]]]],.int (3-fi),.dct [] []]=.ok (false,.str ""))
  (hc:ca []=.ok (false,.bl true)):aW 6 1 (LK sh rd nu ga te ca) [ns]=.ok (false,.bl true):=by
 have d1:=kZ (a:=x22) (b:=9) (by decide);have d2:=kZ (a:=x23) (b:=9) (by decide);have al:(Str.ofString "a").length=1:=by decide +kernel
 have ad:cN (.str (Str.ofString "a")) (.str W)=some (.str (Str.ofString "a" ++ W)):=if_pos (by rw [al,show sizeLine=16777216 from rfl];omega);have n2:gNe (.str "") (.str "")=some false:=by simp [gNe,gEq]
 have de:BV (.dct [] []) (.dct [] [])=some false:=rfl;have it:∀a b c d e:Sl,jo "dict" (ao 5) [a,b,c,d,e,.fz (.dct [] [])]=.ok (.bl true):=λ_ _ _ _ _=>rfl;have hs':∀a b d e f:Sl,aD gIx (aD gIx (aD gIx (aD gIx (ao 2) (fC (.int 2))) (fC (.int 0))) (fC (.int 1))) (fC (.int 1)) [a,b,.fz g,d,e,f]=.ok (.int fi):=λ_ _ _ _ _=>hs _ rfl;generalize hP:D.tup [.str "move",.int fi,.str "alone",.tup [.tup [.str (Str.ofString "a" ++ W),.tup [.str "end",qd (x23 % 9) 1]]]]=P at *;have h4:∀a b c e f:Sl,b=.fz X->bf 4 (aQ (aj (fC (.str "move")) (aj (aH 3) (aj (fC (.str "alone")) (aj (aQ (aj (aQ (aj (aD cN (fC (.str "a")) (aX zT (aj (aD iy (aD gIx (ao 1) (fC (.int 22))) (fC (.int 9))) az))) (aj (aQ (aj (fC (.str "end")) (aj (aQ (aj (aD iy (aD gIx (ao 1) (fC (.int 23))) (fC (.int 9))) (aj (fC (.int 1)) az))) az))) az))) az)) az))))) [a,b,c,.fz (.int fi),e,f]=.ok (.nx,[a,b,c,.fz (.int fi),.fz P,f]):=λa b c e f hb=>by
  subst hb;rw [← hP];simp [bf,aQ,aj,az,fC,aH,aD,ao,aX,i22,i23,d1,d2,gs,ad]
 have h3:∀a b d e f:Sl,bf 3 (aD gIx (aD gIx (aD gIx (aD gIx (ao 2) (fC (.int 2))) (fC (.int 0))) (fC (.int 1))) (fC (.int 1))) [a,b,.fz g,d,e,f]=.ok (.nx,[a,b,.fz g,.fz (.int fi),e,f]):=λa b d e f=>by
  unfold bf;rw [hs'];rfl
 have g1:∀a:Sl,bf 1 (fFn nu (aj (aH 0) az)) [.fz ns,.un,.un,.un,.un,.un]=.ok (.nx,[.fz ns,.fz X,.un,.un,.un,.un]):=λ_=>by simp [bf,fFn,aj,az,aH,h1]
 have g2:∀a:Sl,bf 2 (fFn ga (aj (aH 1) az)) [.fz ns,.fz X,.un,.un,.un,.un]=.ok (.nx,[.fz ns,.fz X,.fz g,.un,.un,.un]):=λ_=>by simp [bf,fFn,aj,az,aH,h2]
 have g3:gIf (gP (cJ (fTv (fFn te (aj (aH 2) (aj (fC (.int 1)) (aj (aD gIx (ao 1) (fC (.int 20))) az)))))) (cJ (fTv (fFn te (aj (aH 2) (aj (fC (.int 2)) (aj (aD gIx (ao 1) (fC (.int 21))) az))))))) (bz (fC (.bl false))) gNx [.fz ns,.fz X,.fz g,.un,.un,.un]=.ok (.nx,[.fz ns,.fz X,.fz g,.un,.un,.un]):=by
  simp [gIf,gP,cJ,fTv,fFn,aj,az,aH,fC,aD,ao,i20,i21,t1,t2,gNx]
 simp only [aW,LK,List.length_cons,List.length_nil,List.map_cons,List.map_nil];simp [aM,g1 .un,g2 .un,g3,h3,h4];simp [bf,fFn,aj,az,aH,aD,fC,ao,Am,r,gIf,gP,aU,sW,de,cJ,fTv,it,s,n2,gNx,bz,Me.let,Sl.let,hc]
theorem RL:∀ns:List Int,ns.length<=63->∃fr,Wt [.lst (ns.map D.int)]=.ok (fr,.bl true):=by
 intro ns hz;obtain ⟨f,hf,h1⟩:=YS ns (by omega);have h2:=Va f;have hA:nS (f 1) (f 2) 0≠nS (f 1) (f 2) 1:=λz=>absurd (Wf (by decide) (by decide) z) (by decide);have hB:nS (f 3) (f 4) 0≠nS (f 3) (f 4) 1:=λz=>absurd (Wf (by decide) (by decide) z) (by decide);have h0:=Int.emod_nonneg (f 0) (b:=2) (by decide);have h0':=Int.emod_lt_of_pos (f 0) (b:=2) (by decide);have fi2:1+f 0 % 2=1\/1+f 0 % 2=2:=by omega
 have to:=λ(s x:Int) (hs:s=1\/s=2) (x0:0<=x) (x1:x<=1000003)=>Xh (f:=f) (A:=nS (f 1) (f 2)) (B:=nS (f 3) (f 4)) (C:=nS (f 5) (f 6)) (fi:=1+f 0 % 2) (sh:=1+f 7 % 4) fi2 hs hA hB (Qc _ _) (Qc _ _) x0 x1;have t1:=to 1 (f 20) (.inl rfl) (hf 20).1 (by have:=(hf 20).2;omega);have t2:=to 2 (f 21) (.inr rfl) (hf 21).1 (by have:=(hf 21).2;omega);have ix:∀i:Nat,i<40->gIx (xsD f) (.int (i:Int))=some (.int (f i)):=λi hi=>uL (c:=40) (F:=λk=>.int (f k)) hi;have e9:=Int.emod_nonneg (f 22) (b:=9) (by decide);have e9':=Int.emod_lt_of_pos (f 22) (b:=9) (by decide);have big:(f 22 % 9).natAbs<10 ^ 30:=Nat.lt_of_lt_of_le (by omega:(f 22 % 9).natAbs<10) (by decide);have gs:=uQ big;have wl:=qR big;generalize hfi:1+f 0 % 2=fi at *;generalize hw:tx (sg (f 22 % 9))=W at *;have wl2:W.length<=100:=by rw [← hw,bR];omega
 have ne:¬fi=3-fi:=by omega
 obtain ⟨r,s⟩:=Bw (g:=.move fi "alone" (.cons (.str (Str.ofString "a" ++ W)) (.fin (f 23 % 9,1)) .nil)) (s:=3-fi) (by simp [iB,qz,lB]) (by simp [sdG,sdW,fi2]) (by simp [dp,dpW]) (by simp [szG,szW]) (by simp [rowsOf,prG,prW,tbl,tst,dB,kn,pC,sdD,ne]);exact ⟨false,U5 (x20:=f 20) (x21:=f 21) (x22:=f 22) (x23:=f 23) (fi:=fi) (W:=W) h1 h2 (ix 20 (by decide)) (ix 21 (by decide)) (ix 22 (by decide)) (ix 23 (by decide)) t1 t2 (λm hm=>by
  simp only [aD,ao,hm];rfl) gs wl2 r s Sx⟩
end K70
namespace F
open PySem PySem.Spec PyProof.Rows L2 Hd
section
variable {X:Cx}{E:XK}{j k:Nat}{x:Str}{ps:List Str}{Φ:Zac}{p pos tp yp cp dp:Pos}{f f1 f2 f3:Zae}
theorem Zz {elts x1}(Fh:FF X.prog X.w X.K X.mg X.base k x ps Φ)(hr:fM j X.A)(hx:Passes (CX1 X.prog X.w) X E)(h:Wr (FE X E (.Tuple elts x1 tp) f))(hk:k<=j:=by decide)(hg:Gl X x:=by rfl)(hdb:(x == ("__debug__" : Str))=false:=by decide):
  Wr (FE X E (.Call (.Name x p) [.Tuple elts x1 tp] [] pos) (fFn Φ (aj f az))):=⟨bK Fh hr hx (ak h.out aB) hk hg hdb⟩
theorem ZQ {y c cj ks vs}(Fh:FF X.prog X.w X.K X.mg X.base k x ps Φ)(hr:fM j X.A)(hx:Passes (CX1 X.prog X.w) X E)(h1:FE X E (.Name y yp) f1)(h2:FE X E (.Constant c cj cp) f2)(h3:Wr (FE X E (.Dict ks vs dp) f3))(hk:k<=j:=by decide)(hg:Gl X x:=by rfl)(hdb:(x == ("__debug__" : Str))=false:=by decide):
  Wr (FE X E (.Call (.Name x p) [.Name y yp,.Constant c cj cp,.Dict ks vs dp] [] pos) (fFn Φ (aj f1 (aj f2 (aj f3 az))))):=⟨bK Fh hr hx (ak h1 (ak h2 (ak h3.out aB))) hk hg hdb⟩
theorem aaj {g as kw ks vs}(Fh:FF X.prog X.w X.K X.mg X.base k x ps Φ)(hr:fM j X.A)(hx:Passes (CX1 X.prog X.w) X E)(h1:Wr (FE X E (.Call g as kw cp) f1))(h3:Wr (FE X E (.Dict ks vs dp) f3))(hk:k<=j:=by decide)(hg:Gl X x:=by rfl)(hdb:(x == ("__debug__" : Str))=false:=by decide):
  Wr (FE X E (.Call (.Name x p) [.Call g as kw cp,.Dict ks vs dp] [] pos) (fFn Φ (aj f1 (aj f3 az)))):=⟨bK Fh hr hx (ak h1.out (ak h3.out aB)) hk hg hdb⟩
theorem Ls {ke ve:Expr}{fk fv:Zae}(hk:FE X E ke fk)(hv:Wr (FE X E ve fv)):Wr (FE X E (.Dict [some ke] [ve] dp) (Ax [(fk,fv)])):=⟨dw (V0 (Pj hk hv.out VR) rfl rfl (λz=>nomatch z) (by simp))⟩
end
end F
namespace K70
open PySem L2 Hd F Pk Lw
def top (i:Nat):Stmt:=PySem.Challenge.pw_hushduel_k70_plans_as_text.main.body.getD i (.Pass ⟨0,0,0,0⟩)
theorem PK:bootBuiltins "abs" = some (.builtin "abs"):=by decide +kernel
theorem Fj:bootBuiltins "all" = some (.builtin "all"):=by decide +kernel
theorem Ef:bootBuiltins "bool" = some (.type "bool"):=by decide +kernel
theorem xn:bootBuiltins "dict" = some (.type "dict"):=by decide +kernel
theorem yz:bootBuiltins "int" = some (.type "int"):=by decide +kernel
theorem bT:bootBuiltins "isinstance" = some (.builtin "isinstance"):=by decide +kernel
theorem gq:bootBuiltins "len" = some (.builtin "len"):=by decide +kernel
theorem xH:bootBuiltins "list" = some (.type "list"):=by decide +kernel
theorem pZ:bootBuiltins "str" = some (.type "str"):=by decide +kernel
theorem jn:bootBuiltins "tuple" = some (.type "tuple"):=by decide +kernel
structure Bt (mg:Zp):Prop where
 ValueError:mg "ValueError" = none
 abs:mg "abs" = none
 all:mg "all" = none
 bool:mg "bool" = none
 dict:mg "dict" = none
 enumerate:mg "enumerate" = none
 int:mg "int" = none
 isinstance:mg "isinstance" = none
 len:mg "len" = none
 list:mg "list" = none
 range:mg "range" = none
 reversed:mg "reversed" = none
 str:mg "str" = none
 tuple:mg "tuple" = none
structure CnT (K:W.Frag)(mg:Zp):Prop where
 NOUGHT:∃v u,mg "NOUGHT" = some u/\RelV v u/\∀O H,DV ⟨K,mg⟩ O H v (.tup [(.int 0),(.int 1)])
 ONE:∃v u,mg "ONE" = some u/\RelV v u/\∀O H,DV ⟨K,mg⟩ O H v (.tup [(.int 1),(.int 1)])
 FIGURES:∃v u,mg "FIGURES" = some u/\RelV v u/\∀O H,DV ⟨K,mg⟩ O H v (.str "0123456789")
 MOST_FIGURES:∃v u,mg "MOST_FIGURES" = some u/\RelV v u/\∀O H,DV ⟨K,mg⟩ O H v (.int 30)
 NAME_SIGNS:∃v u,mg "NAME_SIGNS" = some u/\RelV v u/\∀O H,DV ⟨K,mg⟩ O H v (.str "abcdefghijklmnopqrstuvwxyz0123456789")
 MOST_SIGNS:∃v u,mg "MOST_SIGNS" = some u/\RelV v u/\∀O H,DV ⟨K,mg⟩ O H v (.int 8)
theorem wz {X:Cx}{E:XK}{pos:Pos}(Cn:CnT X.K X.mg)(hg:Gl X "NOUGHT"):FE X E (.Name "NOUGHT" pos) (fC (.tup [(.int 0),(.int 1)])):=by
 obtain ⟨v,u,h1,h2,h3⟩:=Cn.NOUGHT;exact rO hg h1 h2 h3
theorem XH {X:Cx}{E:XK}{pos:Pos}(Cn:CnT X.K X.mg)(hg:Gl X "ONE"):FE X E (.Name "ONE" pos) (fC (.tup [(.int 1),(.int 1)])):=by
 obtain ⟨v,u,h1,h2,h3⟩:=Cn.ONE;exact rO hg h1 h2 h3
theorem Ig {X:Cx}{E:XK}{pos:Pos}(Cn:CnT X.K X.mg)(hg:Gl X "FIGURES"):FE X E (.Name "FIGURES" pos) (fC (.str "0123456789")):=by
 obtain ⟨v,u,h1,h2,h3⟩:=Cn.FIGURES;exact rO hg h1 h2 h3
theorem xj {X:Cx}{E:XK}{pos:Pos}(Cn:CnT X.K X.mg)(hg:Gl X "MOST_FIGURES"):FE X E (.Name "MOST_FIGURES" pos) (fC (.int 30)):=by
 obtain ⟨v,u,h1,h2,h3⟩:=Cn.MOST_FIGURES;exact rO hg h1 h2 h3
theorem zW {X:Cx}{E:XK}{pos:Pos}(Cn:CnT X.K X.mg)(hg:Gl X "NAME_SIGNS"):FE X E (.Name "NAME_SIGNS" pos) (fC (.str "abcdefghijklmnopqrstuvwxyz0123456789")):=by
 obtain ⟨v,u,h1,h2,h3⟩:=Cn.NAME_SIGNS;exact rO hg h1 h2 h3
theorem zZ {X:Cx}{E:XK}{pos:Pos}(Cn:CnT X.K X.mg)(hg:Gl X "MOST_SIGNS"):FE X E (.Name "MOST_SIGNS" pos) (fC (.int 8)):=by
 obtain ⟨v,u,h1,h2,h3⟩:=Cn.MOST_SIGNS;exact rO hg h1 h2 h3
abbrev um:Stmt:=top 9
theorem Iz:aY ["thing"] ["thing"] (aJ um):=⟨rfl,rfl,rfl,by decide +kernel,rfl,by decide +kernel,by decide +kernel⟩
abbrev jP:Stmt:=top 10
theorem dM:aY ["first", "second", "great", "small", "rest"] ["first", "second"] (aJ jP):=⟨rfl,rfl,rfl,by decide +kernel,rfl,by decide +kernel,by decide +kernel⟩
abbrev zF:Stmt:=top 11
theorem yu:aY ["top", "bottom", "divisor"] ["top", "bottom"] (aJ zF):=⟨rfl,rfl,rfl,by decide +kernel,rfl,by decide +kernel,by decide +kernel⟩
abbrev t6:Stmt:=top 12
theorem HF:aY ["thing"] ["thing"] (aJ t6):=⟨rfl,rfl,rfl,by decide +kernel,rfl,by decide +kernel,by decide +kernel⟩
abbrev Jc:Stmt:=top 13
theorem Yj:aY ["first", "second"] ["first", "second"] (aJ Jc):=⟨rfl,rfl,rfl,by decide +kernel,rfl,by decide +kernel,by decide +kernel⟩
abbrev Cr:Stmt:=top 14
theorem U3:aY ["first", "second"] ["first", "second"] (aJ Cr):=⟨rfl,rfl,rfl,by decide +kernel,rfl,by decide +kernel,by decide +kernel⟩
abbrev Cj:Stmt:=top 15
theorem Vc:aY ["first", "second"] ["first", "second"] (aJ Cj):=⟨rfl,rfl,rfl,by decide +kernel,rfl,by decide +kernel,by decide +kernel⟩
abbrev Ff:Stmt:=top 16
theorem xN:aY ["some", "result", "each"] ["some"] (aJ Ff):=⟨rfl,rfl,rfl,by decide +kernel,rfl,by decide +kernel,by decide +kernel⟩
abbrev p8:Stmt:=top 17
theorem qg:aY ["first", "top", "bottom"] ["first"] (aJ p8):=⟨rfl,rfl,rfl,by decide +kernel,rfl,by decide +kernel,by decide +kernel⟩
abbrev jX:Stmt:=top 18
theorem zN:aY ["text"] ["text"] (aJ jX):=⟨rfl,rfl,rfl,by decide +kernel,rfl,by decide +kernel,by decide +kernel⟩
abbrev qp:Stmt:=top 19
theorem gw:aY ["text", "halves", "top", "bottom", "bare", "result"] ["text"] (aJ qp):=⟨rfl,rfl,rfl,by decide +kernel,rfl,by decide +kernel,by decide +kernel⟩
abbrev rR:Stmt:=top 23
theorem Mx:aY ["thing"] ["thing"] (aJ rR):=⟨rfl,rfl,rfl,by decide +kernel,rfl,by decide +kernel,by decide +kernel⟩
abbrev j7:Stmt:=top 24
theorem z7:aY ["game"] ["game"] (aJ j7):=⟨rfl,rfl,rfl,by decide +kernel,rfl,by decide +kernel,by decide +kernel⟩
abbrev rm:Stmt:=top 25
theorem Ht:aY ["game", "ways"] ["game", "ways"] (aJ rm):=⟨rfl,rfl,rfl,by decide +kernel,rfl,by decide +kernel,by decide +kernel⟩
abbrev nY:Stmt:=top 26
theorem lr:aY ["game", "places", "waiting", "place", "behind"] ["game"] (aJ nY):=⟨rfl,rfl,rfl,by decide +kernel,rfl,by decide +kernel,by decide +kernel⟩
abbrev pM:Stmt:=top 28
theorem Jf:aY ["move"] ["move"] (aJ pM):=⟨rfl,rfl,rfl,by decide +kernel,rfl,by decide +kernel,by decide +kernel⟩
abbrev jJ:Stmt:=top 29
theorem pH:aY ["place", "records", "number", "pair"] ["place", "records", "number"] (aJ jJ):=⟨rfl,rfl,rfl,by decide +kernel,rfl,by decide +kernel,by decide +kernel⟩
abbrev fW:Stmt:=top 30
theorem cz:aY ["game", "known", "found", "way", "place", "number"] ["game"] (aJ fW):=⟨rfl,rfl,rfl,by decide +kernel,rfl,by decide +kernel,by decide +kernel⟩
abbrev zq:Stmt:=top 31
theorem QS:aY ["move", "records"] ["move", "records"] (aJ zq):=⟨rfl,rfl,rfl,by decide +kernel,rfl,by decide +kernel,by decide +kernel⟩
abbrev ue:Stmt:=top 32
theorem nq:aY ["game", "rows", "way", "place", "records"] ["game"] (aJ ue):=⟨rfl,rfl,rfl,by decide +kernel,rfl,by decide +kernel,by decide +kernel⟩
abbrev su:Stmt:=top 33
theorem Mr:aY ["game", "side"] ["game", "side"] (aJ su):=⟨rfl,rfl,rfl,by decide +kernel,rfl,by decide +kernel,by decide +kernel⟩
abbrev fX:Stmt:=top 35
theorem vh:aY ["thing", "count"] ["thing", "count"] (aJ fX):=⟨rfl,rfl,rfl,by decide +kernel,rfl,by decide +kernel,by decide +kernel⟩
abbrev jZ:Stmt:=top 36
theorem zU:aY ["rows", "thing"] ["rows", "thing"] (aJ jZ):=⟨rfl,rfl,rfl,by decide +kernel,rfl,by decide +kernel,by decide +kernel⟩
abbrev v7:Stmt:=top 37
theorem Nm:aY ["game", "side", "thing"] ["game", "side", "thing"] (aJ v7):=⟨rfl,rfl,rfl,by decide +kernel,rfl,by decide +kernel,by decide +kernel⟩
abbrev jN:Stmt:=top 38
theorem vU:aY ["game", "side", "thing"] ["game", "side", "thing"] (aJ jN):=⟨rfl,rfl,rfl,by decide +kernel,rfl,by decide +kernel,by decide +kernel⟩
abbrev nO:Stmt:=top 40
theorem wJ:aY ["game", "side", "plan", "shown_rows"] ["game", "side", "plan"] (aJ nO):=⟨rfl,rfl,rfl,by decide +kernel,rfl,by decide +kernel,by decide +kernel⟩
abbrev qb:Stmt:=top 41
theorem zf:aY ["text", "parts"] ["text"] (aJ qb):=⟨rfl,rfl,rfl,by decide +kernel,rfl,by decide +kernel,by decide +kernel⟩
abbrev nJ:Stmt:=top 42
theorem Fq:aY ["text"] ["text"] (aJ nJ):=⟨rfl,rfl,rfl,by decide +kernel,rfl,by decide +kernel,by decide +kernel⟩
abbrev qP:Stmt:=top 43
theorem qU:aY ["game", "side", "text", "rows", "plan"] ["game", "side", "text"] (aJ qP):=⟨rfl,rfl,rfl,by decide +kernel,rfl,by decide +kernel,by decide +kernel⟩
abbrev mF:Stmt:=top 45
theorem DX:aY ["share", "branch"] ["share", "branch"] (aJ mF):=⟨rfl,rfl,rfl,by decide +kernel,rfl,by decide +kernel,by decide +kernel⟩
abbrev jg:Stmt:=top 46
theorem jk:aY ["ways", "shares", "share", "branch"] ["ways"] (aJ jg):=⟨rfl,rfl,rfl,by decide +kernel,rfl,by decide +kernel,by decide +kernel⟩
abbrev oZ:Stmt:=top 47
theorem gQ:aY ["deal", "ways", "share", "branch"] ["deal"] (aJ oZ):=⟨rfl,rfl,rfl,by decide +kernel,rfl,by decide +kernel,by decide +kernel⟩
abbrev uO:Stmt:=top 48
theorem Gp:aY ["game", "result"] ["game"] (aJ uO):=⟨rfl,rfl,rfl,by decide +kernel,rfl,by decide +kernel,by decide +kernel⟩
abbrev mK:Stmt:=top 50
theorem xV:aY ["_law_script", "_law_k"] ["_law_script", "_law_k"] (aJ mK):=⟨rfl,rfl,rfl,by decide +kernel,rfl,by decide +kernel,by decide +kernel⟩
abbrev iW:Stmt:=top 51
theorem xX:aY ["_law_script"] ["_law_script"] (aJ iW):=⟨rfl,rfl,rfl,by decide +kernel,rfl,by decide +kernel,by decide +kernel⟩
abbrev pR:Stmt:=top 52
theorem dH:aY ["_law_x", "_law_y", "_law_many", "_law_signs", "_law_size", "_law_at", "_law_names_here", "_law_k", "_law_name", "_law_j"] ["_law_x", "_law_y", "_law_many"] (aJ pR):=⟨rfl,rfl,rfl,by decide +kernel,rfl,by decide +kernel,by decide +kernel⟩
abbrev nW:Stmt:=top 53
theorem cu:aY ["_law_xs", "_law_first", "_law_ones", "_law_others", "_law_words", "_law_share", "_law_ways", "_law_k", "_law_parts", "_law_j", "_law_stakes", "_law_seen_here", "_law_part", "%1", "%2"] ["_law_xs"] (aJ nW):=⟨rfl,rfl,rfl,by decide +kernel,rfl,by decide +kernel,by decide +kernel⟩
abbrev nC:Stmt:=top 54
theorem iH:aY ["_law_game_here", "_law_side", "_law_found", "_law_label", "_law_part"] ["_law_game_here", "_law_side"] (aJ nC):=⟨rfl,rfl,rfl,by decide +kernel,rfl,by decide +kernel,by decide +kernel⟩
abbrev m6:Stmt:=top 55
theorem je:aY ["_law_one", "_law_other", "_law_rest"] ["_law_one", "_law_other"] (aJ m6):=⟨rfl,rfl,rfl,by decide +kernel,rfl,by decide +kernel,by decide +kernel⟩
abbrev n8:Stmt:=top 56
theorem gW:aY ["_law_x", "_law_low", "_law_top", "_law_by"] ["_law_x"] (aJ n8):=⟨rfl,rfl,rfl,by decide +kernel,rfl,by decide +kernel,by decide +kernel⟩
abbrev gk:Stmt:=top 57
theorem qT:aY ["_law_one"] ["_law_one"] (aJ gk):=⟨rfl,rfl,rfl,by decide +kernel,rfl,by decide +kernel,by decide +kernel⟩
abbrev nF:Stmt:=top 58
theorem wN:aY ["_law_names_here", "_law_plan", "_law_rows"] ["_law_names_here", "_law_plan"] (aJ nF):=⟨rfl,rfl,rfl,by decide +kernel,rfl,by decide +kernel,by decide +kernel⟩
abbrev pU:Stmt:=top 59
theorem pI:aY ["_law_found", "_law_plan", "_law_name", "_law_share"] ["_law_found", "_law_plan"] (aJ pU):=⟨rfl,rfl,rfl,by decide +kernel,rfl,by decide +kernel,by decide +kernel⟩
abbrev nU:Stmt:=top 60
theorem dI:aY ["_law_game_here", "_law_side", "_law_x", "_law_names_here", "_law_plan", "_law_k", "_law_handed", "_law_name", "_law_text_here", "_law_other", "_law_line", "_law_found"] ["_law_game_here", "_law_side", "_law_x"] (aJ nU):=⟨rfl,rfl,rfl,by decide +kernel,rfl,by decide +kernel,by decide +kernel⟩
abbrev pJ:Stmt:=top 61
theorem lZ:aY ["_law_inner", "_law_move", "_law_game_here"] [] (aJ pJ):=⟨rfl,rfl,rfl,by decide +kernel,rfl,by decide +kernel,by decide +kernel⟩
abbrev Bv:Stmt:=top 62
theorem BP:aY ["_law_script", "_law_xs", "_law_game_here", "_law_side", "_law_part", "_law_found"] ["_law_script"] (aJ Bv):=⟨rfl,rfl,rfl,by decide +kernel,rfl,by decide +kernel,by decide +kernel⟩
variable {P:Program}{w:World}{K:W.Frag}{mg:Zp}{base:Heap}{f:Addr}{fd:FuncData}
theorem Gg(B:Bt mg)(Fu:Fun K "is_whole" "is_whole" um f fd)  :
  cB P w K mg base (CX1 P w) 1 f fd ["thing"] (spF ⟨K,mg⟩ ql):=
 bj Fu Iz λcdv A outer s H E hr=>by
 have hu:=hr.units;unfold zu zH;exact (aF (bA (uc (jb (x:="") (au 0) rfl B.isinstance bT rfl B.int yz) (ud (R8 (jb (x:="") (au 0) rfl B.isinstance bT rfl B.bool Ef))))))
theorem uH(B:Bt mg)(Fu:Fun K "common_divisor" "common_divisor" jP f fd)  :
  cB P w K mg base (CX1 P w) 1 f fd ["first", "second"] (spF ⟨K,mg⟩ cR):=
 bj Fu dM λcdv A outer s H E hr=>by
 have hu:=hr.units;unfold jD jQ;exact (aC (bC (i:=2) dM.nd rfl (Or.inl rfl) (b8 Ak rfl B.abs PK (aK (au 0) aO)))
  (aC (bC (i:=3) dM.nd rfl (Or.inl rfl) (b8 Ak rfl B.abs PK (aK (au 1) aO)))
  (aC (yg PassesOwn.leaving (bQ (jx hu) (au 3) (aq aA) (bI _))
  (aC (bC (i:=4) dM.nd rfl (Or.inl rfl) (aN dF (au 2) (au 3)))
  (aC (bC (i:=2) dM.nd rfl (Or.inl rfl) (aG 3))
  (aF (bC (i:=3) dM.nd rfl (Or.inl rfl) (aG 4))))))
  (aF (bA (aG 2))))))
theorem Oj(B:Bt mg)(Fu:Fun K "lowest" "lowest" zF f fd)(Gcommon_divisor:FF P w K mg base 1 "common_divisor" ["first", "second"] cR):
  cB P w K mg base (CX1 P w) 2 f fd ["top", "bottom"] (spF ⟨K,mg⟩ fj):=
 bj Fu yu λcdv A outer s H E hr=>by
 have hu:=hr.units;unfold vd uK;exact (aC (bC (i:=2) yu.nd rfl (Or.inl rfl) (bK Gcommon_divisor hr aR (ak (aG 0) (ak (aG 1) aB))))
  (aC (dh (bQ (Ec hu) (au 1) (aq aA) (bI _))
  (aF (bC (i:=2) yu.nd rfl (Or.inl rfl) (Fv uF (au 2))))
  bL)
  (aF (bA (bG (ak (aN lV (au 0) (au 2)) (ak (aN lV (au 1) (au 2)) aB)))))))
theorem GC(B:Bt mg)(Fu:Fun K "is_ratio" "is_ratio" t6 f fd)(Gis_whole:FF P w K mg base 1 "is_whole" ["thing"] ql)(Gcommon_divisor:FF P w K mg base 1 "common_divisor" ["first", "second"] cR):
  cB P w K mg base (CX1 P w) 2 f fd ["thing"] (spF ⟨K,mg⟩ mW):=
 bj Fu HF λcdv A outer s H E hr=>by
 have hu:=hr.units;unfold ur t7;exact (aC (dh (uv (lA (eX (dN (jb (x:="") (au 0) rfl B.isinstance bT rfl B.tuple jn))) (jM (bQ (jx hu) (aq (b8 cG rfl B.len gq (aK (au 0) aO))) (aq aA) (bI _)))))
  (aF (bA lL))
  bL)
  (aC (dh (uv (lA (eX (dN (bK Gis_whole hr aR (ak (aP bB (au 0) (aq aA) (λ_ _=>rfl)) aB)))) (jM (eX (dN (bK Gis_whole hr aR (ak (aP bB (au 0) (aq aA) (λ_ _=>rfl)) aB)))))))
  (aF (bA lL))
  bL)
  (aF (bA (uc (pN YC (aq (aP bB (au 0) (aq aA) (λ_ _=>rfl))) (aq aA) (bI _)) (ud (pN (dY hu) (aq (bK Gcommon_divisor hr aR (ak (aP bB (au 0) (aq aA) (λ_ _=>rfl)) (ak (aP bB (au 0) (aq aA) (λ_ _=>rfl)) aB)))) (aq aA) (bI _))))))))
theorem Tt(B:Bt mg)(Fu:Fun K "plus" "plus" Jc f fd)(Glowest:FF P w K mg base 2 "lowest" ["top", "bottom"] fj):
  cB P w K mg base (CX1 P w) 3 f fd ["first", "second"] (spF ⟨K,mg⟩ o5):=
 bj Fu Yj λcdv A outer s H E hr=>by
 have hu:=hr.units;unfold CK De;exact (aF (bA (bK Glowest hr aR (ak (aN bO (aq (aN dU (aq (aP bB (au 0) (aq aA) (λ_ _=>rfl))) (aq (aP bB (au 1) (aq aA) (λ_ _=>rfl))))) (aq (aN dU (aq (aP bB (au 1) (aq aA) (λ_ _=>rfl))) (aq (aP bB (au 0) (aq aA) (λ_ _=>rfl)))))) (ak (aN dU (aq (aP bB (au 0) (aq aA) (λ_ _=>rfl))) (aq (aP bB (au 1) (aq aA) (λ_ _=>rfl)))) aB)))))
theorem Pb(B:Bt mg)(Fu:Fun K "times" "times" Cr f fd)(Glowest:FF P w K mg base 2 "lowest" ["top", "bottom"] fj):
  cB P w K mg base (CX1 P w) 3 f fd ["first", "second"] (spF ⟨K,mg⟩ lN):=
 bj Fu U3 λcdv A outer s H E hr=>by
 have hu:=hr.units;unfold Dk Dr;exact (aF (bA (bK Glowest hr aR (ak (aN dU (aq (aP bB (au 0) (aq aA) (λ_ _=>rfl))) (aq (aP bB (au 1) (aq aA) (λ_ _=>rfl)))) (ak (aN dU (aq (aP bB (au 0) (aq aA) (λ_ _=>rfl))) (aq (aP bB (au 1) (aq aA) (λ_ _=>rfl)))) aB)))))
theorem Ox(B:Bt mg)(Fu:Fun K "under" "under" Cj f fd)  :
  cB P w K mg base (CX1 P w) 1 f fd ["first", "second"] (spF ⟨K,mg⟩ uE):=
 bj Fu Vc λcdv A outer s H E hr=>by
 have hu:=hr.units;unfold BW Dn;exact (aF (bA (pN (Ec hu) (aq (aN dU (aq (aP bB (au 0) (aq aA) (λ_ _=>rfl))) (aq (aP bB (au 1) (aq aA) (λ_ _=>rfl))))) (aq (aN dU (aq (aP bB (au 1) (aq aA) (λ_ _=>rfl))) (aq (aP bB (au 0) (aq aA) (λ_ _=>rfl))))) (bI _))))
theorem Rt(B:Bt mg)(Cn:CnT K mg)(Fu:Fun K "total" "total" Ff f fd)(Gplus:FF P w K mg base 3 "plus" ["first", "second"] o5):
  cB P w K mg base (CX1 P w) 4 f fd ["some"] (spF ⟨K,mg⟩ uJ):=
 bj Fu xN λcdv A outer s H E hr=>by
 have hu:=hr.units;unfold Dt Dd;exact (aC (bC (i:=1) xN.nd rfl (Or.inl rfl) (wz Cn rfl))
  (aC (iu (k:=1000) PassesOwn.leaving rfl (xm (aG 0)) (aZ (i:=2) xN.nd rfl (Or.inl rfl))
  (aF (bC (i:=1) xN.nd rfl (Or.inl rfl) (bK Gplus hr aR (ak (aG 1) (ak (aG 2) aB))))))
  (aF (bA (aG 1)))))
theorem zY(B:Bt mg)(Fu:Fun K "show_ratio" "show_ratio" p8 f fd)  :
  cB P w K mg base (CX1 P w) 1 f fd ["first"] (spF ⟨K,mg⟩ dC):=
 bj Fu qg λcdv A outer s H E hr=>by
 have hu:=hr.units;unfold lY mD;exact (aC (bC (i:=1) qg.nd rfl (Or.inl rfl) (cQ mG rfl B.str pZ (aK (aq (aP bB (au 0) (aq aA) (λ_ _=>rfl))) aO)))
  (aC (dh (bQ (dY hu) (aq (aP bB (au 0) (aq aA) (λ_ _=>rfl))) (aq aA) (bI _))
  (aF (bA (aG 1)))
  bL)
  (aC (bC (i:=2) qg.nd rfl (Or.inl rfl) (cQ mG rfl B.str pZ (aK (aq (aP bB (au 0) (aq aA) (λ_ _=>rfl))) aO)))
  (aF (bA (Np (DK (R0 (au 1)) (DK bx (DK (R0 (au 2)) Xo)))))))))
theorem yJ(B:Bt mg)(Cn:CnT K mg)(Fu:Fun K "are_figures" "are_figures" jX f fd)  :
  cB P w K mg base (CX1 P w) 1 f fd ["text"] (spF ⟨K,mg⟩ gR):=
 bj Fu zN λcdv A outer s H E hr=>by
 have hu:=hr.units;unfold sU jT;exact (aF (bA (uc (Gd CP CP (aq aA) (aq (b8 cG rfl B.len gq (aK (au 0) aO))) (aq (xj Cn rfl))) (ud (b8 (rQ rfl) rfl B.all Fj (aK (aq (dw (d9 (aJ jX) ["sign"] [] 1 [] rfl ⟨rfl,by decide +kernel,by decide +kernel,by decide +kernel,by decide +kernel⟩ .nil (jK (Qw (aG 0))) (λ_ _ _ _ _ _=>(aZ (i:=0) (show List.Nodup (["sign"]:List Str) by decide) rfl (Or.inl rfl))) (λ_ _ _ _ _ _=>cL) (λ_ _ _ _ _ _=>(pN Ri (au 0) (aq (Ig Cn rfl)) (by with_unfolding_all rfl)))))) aO))))))
theorem Aa(B:Bt mg)(Fu:Fun K "read_ratio" "read_ratio" qp f fd)(Glowest:FF P w K mg base 2 "lowest" ["top", "bottom"] fj)(Gshow_ratio:FF P w K mg base 1 "show_ratio" ["first"] dC)(Gare_figures:FF P w K mg base 1 "are_figures" ["text"] gR):
  cB P w K mg base (CX1 P w) 3 f fd ["text"] (spF ⟨K,mg⟩ ji):=
 bj Fu gw λcdv A outer s H E hr=>by
 have hu:=hr.units;unfold vD fK;exact (aC (dh (eX (dN (jb (x:="") (au 0) rfl B.isinstance bT rfl B.str pZ)))
  (aF mU)
  bL)
  (aC (bC (i:=1) gw.nd rfl (Or.inl rfl) (wQ PySem.F.plainAttrs_str PySem.F.slot_str_partition PySem.F.type_str_partition zQ (au 0) (aK (aq bx) aO)))
  (aC (bC (i:=2) gw.nd rfl (Or.inl rfl) (aP bB (au 1) (aq aA) (λ_ _=>rfl)))
  (aC (bC (i:=3) gw.nd rfl (Or.inl rfl) (Fp (bQ (dY hu) (aq (aP bB (au 1) (aq aA) (λ_ _=>rfl))) (aq bx) (bI _)) (aP bB (au 1) (aq aA) (λ_ _=>rfl)) bx))
  (aC (bC (i:=4) gw.nd rfl (Or.inl rfl) (Fp (dN (wQ PySem.F.plainAttrs_str PySem.F.slot_str_startswith PySem.F.type_str_startswith Jl (au 2) (aK (aq bx) aO))) (xW (au 2) (Fe (aq aA)) Ek) (aG 2)))
  (aC (dh (uv (lA (eX (dN (bK Gare_figures hr aR (ak (aG 4) aB)))) (lA (eX (dN (bK Gare_figures hr aR (ak (aG 3) aB)))) (jM (bQ (dY hu) (aq (cQ rW rfl B.int yz (aK (au 3) aO))) (aq aA) (bI _))))))
  (aF mU)
  bL)
  (aC (bC (i:=5) gw.nd rfl (Or.inl rfl) (bK Glowest hr aR (ak (cQ rW rfl B.int yz (aK (au 2) aO)) (ak (cQ rW rfl B.int yz (aK (au 3) aO)) aB))))
  (aC (dh (bQ (jx hu) (aq (bK Gshow_ratio hr aR (ak (aG 5) aB))) (au 0) (bI _))
  (aF mU)
  bL)
  (aF (bA (aG 5)))))))))))
theorem Jj(B:Bt mg)(Cn:CnT K mg)(Fu:Fun K "is_name" "is_name" rR f fd)  :
  cB P w K mg base (CX1 P w) 1 f fd ["thing"] (spF ⟨K,mg⟩ rT):=
 bj Fu Mx λcdv A outer s H E hr=>by
 have hu:=hr.units;unfold Br rK;exact (aC (dh (eX (dN (jb (x:="") (au 0) rfl B.isinstance bT rfl B.str pZ)))
  (aF (bA lL))
  bL)
  (aF (bA (uc (Gd CP CP (aq aA) (aq (b8 cG rfl B.len gq (aK (au 0) aO))) (aq (zZ Cn rfl))) (ud (b8 (rQ rfl) rfl B.all Fj (aK (aq (dw (d9 (aJ rR) ["sign"] [] 1 [] rfl ⟨rfl,by decide +kernel,by decide +kernel,by decide +kernel,by decide +kernel⟩ .nil (jK (Qw (aG 0))) (λ_ _ _ _ _ _=>(aZ (i:=0) (show List.Nodup (["sign"]:List Str) by decide) rfl (Or.inl rfl))) (λ_ _ _ _ _ _=>cL) (λ_ _ _ _ _ _=>(pN Ri (au 0) (aq (zW Cn rfl)) (by with_unfolding_all rfl)))))) aO)))))))
theorem zg(B:Bt mg)(Fu:Fun K "branches_of" "branches_of" j7 f fd)  :
  cB P w K mg base (CX1 P w) 1 f fd ["game"] (spF ⟨K,mg⟩ eO):=
 bj Fu z7 λcdv A outer s H E hr=>by
 have hu:=hr.units;unfold tL fV;exact (aC (dh (bQ (dY hu) (aq (aP bB (au 0) (aq aA) (λ_ _=>rfl))) (aq bx) (bI _))
  (aF (lW (gj aB)))
  bL)
  (aF (lW (d9 (aJ j7) ["lead", "branch"] [] 2 [] rfl ⟨rfl,by decide +kernel,by decide +kernel,by decide +kernel,by decide +kernel⟩ .nil (jK (mR (aP bB (au 0) (aq (Fv uF (aq aA))) (λ_ _=>rfl)))) (λ_ _ _ _ _ _=>(mL rfl (bZ (aZ (i:=0) (show List.Nodup (["lead", "branch"]:List Str) by decide) rfl (Or.inl rfl)) (bZ (aZ (i:=1) (show List.Nodup (["lead", "branch"]:List Str) by decide) rfl (Or.inl rfl)) iY)))) (λ_ _ _ _ _ _=>cL) (λ_ _ _ _ _ _=>(aG 1))))))
theorem Fi(B:Bt mg)(Fu:Fun K "with_ways" "with_ways" rm f fd)  :
  cB P w K mg base (CX1 P w) 1 f fd ["game", "ways"] (spF ⟨K,mg⟩ dm):=
 bj Fu Ht λcdv A outer s H E hr=>by
 have hu:=hr.units;unfold nQ nD;exact (aF (bA (aN bO (aq (xW (au 0) Ek (Fe (aq (Fv uF (aq aA)))))) (aq (bG (ak (cQ lC rfl B.tuple jn (aK (au 1) aO)) aB))))))
theorem Er(B:Bt mg)(Fu:Fun K "places_of" "places_of" nY f fd)(Gbranches_of:FF P w K mg base 1 "branches_of" ["game"] eO):
  cB P w K mg base (CX1 P w) 2 f fd ["game"] (spF ⟨K,mg⟩ lq):=
 bj Fu lr λcdv A outer s H E hr=>by
 have hu:=hr.units;unfold wK nH;exact (aC (iV (i:=1) lr.nd rfl (Or.inl rfl) (gj aB))
  (aC (iV (i:=2) lr.nd rfl (Or.inl rfl) (gj (ak (bG (ak (bG aB) (ak (aG 0) aB))) aB)))
  (aC (yg PassesOwn.leaving (bQ O3 (aq (b8 cG rfl B.len gq (aK (au 2) aO))) (aq aA) (bI _))
  (aC (M7 3 2 lr.nd rfl (Or.inr rfl))
  (aC (pA 1 (aG 3))
  (aC (qx (i:=4) (aJ nY) ["number", "branch", "place"] ["place"] 2 [3] lr.nd rfl (Or.inl rfl) rfl ⟨rfl,by decide +kernel,by decide +kernel,by decide +kernel,by decide +kernel⟩ (.cons rfl .nil) (RD rfl B.enumerate (aK (aq (bK Gbranches_of hr aR (ak (aP bB (au 3) (aq aA) (λ_ _=>rfl)) aB))) aO)) (λ_ _ _ _ _ _=>(mL rfl (bZ (aZ (i:=0) (show List.Nodup (["number", "branch", "place"]:List Str) by decide) rfl (Or.inl rfl)) (bZ (aZ (i:=1) (show List.Nodup (["number", "branch", "place"]:List Str) by decide) rfl (Or.inl rfl)) iY)))) (λ_ _ _ _ _ _=>cL) (λ_ _ _ _ _ _=>(bG (ak (aN bO (aq (aP bB (au 2) (aq aA) (λ_ _=>rfl))) (aq (bG (ak (aG 0) aB)))) (ak (aG 1) aB)))))
  (aF (BK 2 (Vo rfl rfl B.list rfl B.reversed (aK (au 4) aO))))))))
  (aF (xr 1)))))
theorem Hm(B:Bt mg)(Fu:Fun K "words_at" "words_at" pM f fd)  :
  cB P w K mg base (CX1 P w) 1 f fd ["move"] (spF ⟨K,mg⟩ mV):=
 bj Fu Jf λcdv A outer s H E hr=>by
 have hu:=hr.units;unfold tV uA;exact (aF (bA (cQ lC rfl B.tuple jn (aK (aq (dw (d9 (aJ pM) ["word", "branch"] [] 2 [] rfl ⟨rfl,by decide +kernel,by decide +kernel,by decide +kernel,by decide +kernel⟩ .nil (jK (mR (aP bB (au 0) (aq aA) (λ_ _=>rfl)))) (λ_ _ _ _ _ _=>(mL rfl (bZ (aZ (i:=0) (show List.Nodup (["word", "branch"]:List Str) by decide) rfl (Or.inl rfl)) (bZ (aZ (i:=1) (show List.Nodup (["word", "branch"]:List Str) by decide) rfl (Or.inl rfl)) iY)))) (λ_ _ _ _ _ _=>cL) (λ_ _ _ _ _ _=>(aG 0))))) aO))))
theorem vI(B:Bt mg)(Fu:Fun K "records_behind" "records_behind" jJ f fd)  :
  cB P w K mg base (CX1 P w) 1 f fd ["place", "records", "number"] (spF ⟨K,mg⟩ cU):=
 bj Fu pH λcdv A outer s H E hr=>by
 have hu:=hr.units;unfold eZ eV;exact (aC (dh (bQ (jx hu) (aq (aP bB (au 0) (aq aA) (λ_ _=>rfl))) (aq bx) (bI _))
  (aF (bA (aG 1)))
  bL)
  (aC (bC (i:=3) pH.nd rfl (Or.inl rfl) (bG (ak (aP bB (au 0) (aq aA) (λ_ _=>rfl)) (ak (aP bB (aq (aP bB (aq (aP bB (au 0) (aq aA) (λ_ _=>rfl))) (au 2) (λ_ _=>rfl))) (aq aA) (λ_ _=>rfl)) aB))))
  (aC (dh (bQ (dY hu) (aq (aP bB (au 0) (aq aA) (λ_ _=>rfl))) (aq aA) (bI _))
  (aF (bA (bG (ak (aN bO (aq (aP bB (au 1) (aq aA) (λ_ _=>rfl))) (aq (bG (ak (aG 3) aB)))) (ak (aP bB (au 1) (aq aA) (λ_ _=>rfl)) aB)))))
  bL)
  (aF (bA (bG (ak (aP bB (au 1) (aq aA) (λ_ _=>rfl)) (ak (aN bO (aq (aP bB (au 1) (aq aA) (λ_ _=>rfl))) (aq (bG (ak (aG 3) aB)))) aB))))))))
theorem pX(B:Bt mg)(Fu:Fun K "places_with_records" "places_with_records" fW f fd)(Gbranches_of:FF P w K mg base 1 "branches_of" ["game"] eO)(Gplaces_of:FF P w K mg base 2 "places_of" ["game"] lq)(Grecords_behind:FF P w K mg base 1 "records_behind" ["place", "records", "number"] cU):
  cB P w K mg base (CX1 P w) 3 f fd ["game"] (spF ⟨K,mg⟩ cP):=
 bj Fu cz λcdv A outer s H E hr=>by
 have hu:=hr.units;unfold ju dR;refine Wr.out ?_;exact (ug (Wy (i:=1) cz.nd rfl (Or.inl rfl) (Wr.mk (Ro hr (bG aB) (bG (ak (bG aB) (ak (bG aB) aB)))))) (ug (Wy (i:=2) cz.nd rfl (Or.inl rfl) (aac (Wr.mk aB))) (ug (Wr.mk (iu (k:=1000) PassesOwn.leaving rfl (xm (bK Gplaces_of hr aR (ak (aG 0) aB))) (mL rfl (bZ (aZ (i:=3) cz.nd rfl (Or.inl rfl)) (bZ (aZ (i:=4) cz.nd rfl (Or.inl rfl)) iY))) (aC (pA 2 (bG (ak (aG 3) (ak (aG 4) (ak (Mg hr (au 1) (au 3) (λ_ _=>rfl)) aB))))) (aF (iu (k:=1000) PassesOwn.leaving rfl (gr rfl B.range (aK (aq (b8 cG rfl B.len gq (aK (aq (bK Gbranches_of hr aR (ak (aG 4) aB))) aO))) aO)) (aZ (i:=5) cz.nd rfl (Or.inl rfl)) (aF (Kw 1 hr (bK Grecords_behind hr aR (ak (aG 4) (ak (Mg hr (au 1) (au 3) (λ_ _=>rfl)) (ak (aG 5) aB)))) (aN bO (au 3) (aq (bG (ak (aG 5) aB))))))))))) (O4 (Wr.mk (xr 2))))))
theorem Mt(B:Bt mg)(Fu:Fun K "row_at" "row_at" zq f fd)(Gwords_at:FF P w K mg base 1 "words_at" ["move"] mV):
  cB P w K mg base (CX1 P w) 2 f fd ["move", "records"] (spF ⟨K,mg⟩ o7):=
 bj Fu QS λcdv A outer s H E hr=>by
 have hu:=hr.units;unfold vg uI;exact (aF (bA (bG (ak (aP bB (au 0) (aq aA) (λ_ _=>rfl)) (ak (aP bB (au 0) (aq aA) (λ_ _=>rfl)) (ak (bK Gwords_at hr aR (ak (aG 0) aB)) (ak (aP bB (au 1) (aq (aN qi (aq (aP bB (au 0) (aq aA) (λ_ _=>rfl))) (aq aA))) (λ_ _=>rfl)) aB)))))))
theorem HB(B:Bt mg)(Fu:Fun K "table_of" "table_of" ue f fd)(Gplaces_with_records:FF P w K mg base 3 "places_with_records" ["game"] cP)(Grow_at:FF P w K mg base 2 "row_at" ["move", "records"] o7):
  cB P w K mg base (CX1 P w) 4 f fd ["game"] (spF ⟨K,mg⟩ qe):=
 bj Fu nq λcdv A outer s H E hr=>by
 have hu:=hr.units;unfold yd qu;exact (aC (iV (i:=1) nq.nd rfl (Or.inl rfl) Lx)
  (aC (iu (k:=1000) PassesOwn.leaving rfl (xm (bK Gplaces_with_records hr aR (ak (aG 0) aB))) (mL rfl (bZ (aZ (i:=2) nq.nd rfl (Or.inl rfl)) (bZ (aZ (i:=3) nq.nd rfl (Or.inl rfl)) (bZ (aZ (i:=4) nq.nd rfl (Or.inl rfl)) iY))))
  (aF (dh (bQ (dY hu) (aq (aP bB (au 3) (aq aA) (λ_ _=>rfl))) (aq bx) (bI _))
  (aF (Y6 1 hr (bG (ak (aP bB (au 3) (aq aA) (λ_ _=>rfl)) (ak (aP bB (au 3) (aq aA) (λ_ _=>rfl)) aB))) (bK Grow_at hr aR (ak (aG 3) (ak (aG 4) aB))) ⟨rfl,rfl,rfl,rfl⟩))
  bL)))
  (aF (lW (Rr rfl rfl B.list (au 1))))))
theorem Jb(B:Bt mg)(Fu:Fun K "rows_of" "rows_of" su f fd)(Gtable_of:FF P w K mg base 4 "table_of" ["game"] qe):
  cB P w K mg base (CX1 P w) 5 f fd ["game", "side"] (spF ⟨K,mg⟩ iJ):=
 bj Fu Mr λcdv A outer s H E hr=>by
 have hu:=hr.units;unfold vR vW;exact (aF (lW (d9 (aJ su) ["row", "side"] ["side"] 1 [1] rfl ⟨rfl,by decide +kernel,by decide +kernel,by decide +kernel,by decide +kernel⟩ (.cons rfl .nil) (m8 (aq (bK Gtable_of hr aR (ak (aG 0) aB)))) (λ_ _ _ _ _ _=>(aZ (i:=0) (show List.Nodup (["row", "side"]:List Str) by decide) rfl (Or.inl rfl))) (λ_ _ _ _ _ _=>(Hk (bQ (dY hu) (aq (aP bB (au 0) (aq aA) (λ_ _=>rfl))) (au 1) (bI _)))) (λ_ _ _ _ _ _=>(aG 0)))))
theorem tQ(B:Bt mg)(Cn:CnT K mg)(Fu:Fun K "are_full_shares" "are_full_shares" fX f fd)(Gis_ratio:FF P w K mg base 2 "is_ratio" ["thing"] mW)(Gunder:FF P w K mg base 1 "under" ["first", "second"] uE)(Gtotal:FF P w K mg base 4 "total" ["some"] uJ):
  cB P w K mg base (CX1 P w) 5 f fd ["thing", "count"] (spF ⟨K,mg⟩ dq):=
 bj Fu vh λcdv A outer s H E hr=>by
 have hu:=hr.units;unfold iM iR;exact (aC (dh (uv (lA (eX (dN (jb (x:="") (au 0) rfl B.isinstance bT rfl B.tuple jn))) (jM (bQ (jx hu) (aq (b8 cG rfl B.len gq (aK (au 0) aO))) (au 1) (bI _)))))
  (aF (bA lL))
  bL)
  (aC (dh (eX (dN (b8 (rQ rfl) rfl B.all Fj (aK (aq (dw (d9 (aJ fX) ["share"] [] 1 [] rfl ⟨rfl,by decide +kernel,by decide +kernel,by decide +kernel,by decide +kernel⟩ .nil (jK (mR (aG 0))) (λ_ _ _ _ _ _=>(aZ (i:=0) (show List.Nodup (["share"]:List Str) by decide) rfl (Or.inl rfl))) (λ_ _ _ _ _ _=>cL) (λ_ _ _ _ _ _=>(uc (bK Gis_ratio hr sV (ak (aG 0) aB)) (ud (R8 (bK Gunder hr sV (ak (aG 0) (ak (wz Cn rfl) aB)))))))))) aO))))
  (aF (bA lL))
  bL)
  (aF (bA (pN (dY hu) (aq (bK Gtotal hr aR (ak (dw (By Io rfl B.list xH (aK (au 0) aO))) aB))) (aq (XH Cn rfl)) (bI _))))))
theorem yO(B:Bt mg)(Fu:Fun K "is_plan_for" "is_plan_for" jZ f fd)(Gare_full_shares:FF P w K mg base 5 "are_full_shares" ["thing", "count"] dq):
  cB P w K mg base (CX1 P w) 6 f fd ["rows", "thing"] (spF ⟨K,mg⟩ gY):=
 bj Fu zU λcdv A outer s H E hr=>by
 have hu:=hr.units;unfold oV oF;exact (aC (dh (uv (lA (eX (dN (jb (x:="") (au 1) rfl B.isinstance bT rfl B.dict xn))) (jM (bQ (jx hu) (aq (b8 cG rfl B.len gq (aK (au 1) aO))) (aq (b8 cG rfl B.len gq (aK (au 0) aO))) (bI _)))))
  (aF (bA lL))
  bL)
  (aF (bA (b8 (rQ rfl) rfl B.all Fj (aK (aq (dw (d9 (aJ jZ) ["row", "thing"] ["thing"] 1 [1] rfl ⟨rfl,by decide +kernel,by decide +kernel,by decide +kernel,by decide +kernel⟩ (.cons rfl .nil) (m8 (au 0)) (λ_ _ _ _ _ _=>(aZ (i:=0) (show List.Nodup (["row", "thing"]:List Str) by decide) rfl (Or.inl rfl))) (λ_ _ _ _ _ _=>cL) (λ_ _ _ _ _ _=>(uc (pN (Xd hr) (aq (aP bB (au 0) (aq aA) (λ_ _=>rfl))) (au 1) (by with_unfolding_all rfl)) (ud (bK Gare_full_shares hr sV (ak (rP hr (au 1) (aq (aP bB (au 0) (aq aA) (λ_ _=>rfl))) (λ_ _=>rfl)) (ak (b8 cG rfl B.len gq (aK (aq (aP bB (au 0) (aq aA) (λ_ _=>rfl))) aO)) aB))))))))) aO)))))
theorem Jy(B:Bt mg)(Fu:Fun K "is_plan" "is_plan" v7 f fd)(Grows_of:FF P w K mg base 5 "rows_of" ["game", "side"] iJ)(Gis_plan_for:FF P w K mg base 6 "is_plan_for" ["rows", "thing"] gY):
  cB P w K mg base (CX1 P w) 7 f fd ["game", "side", "thing"] (spF ⟨K,mg⟩ o8):=
 bj Fu Nm λcdv A outer s H E hr=>by
 have hu:=hr.units;unfold vN vY;exact (aF (bA (bK Gis_plan_for hr aR (ak (bK Grows_of hr aR (ak (aG 0) (ak (aG 1) aB))) (ak (aG 2) aB)))))
theorem vo(B:Bt mg)(Fu:Fun K "refuse_no_plan" "refuse_no_plan" jN f fd)(Gis_plan:FF P w K mg base 7 "is_plan" ["game", "side", "thing"] o8):
  cB P w K mg base (CX1 P w) 8 f fd ["game", "side", "thing"] (spF ⟨K,mg⟩ cT):=
 bj Fu vU λcdv A outer s H E hr=>by
 have hu:=hr.units;unfold jG jL;exact (aF (dh (eX (dN (bK Gis_plan hr aR (ak (aG 0) (ak (aG 1) (ak (aG 2) aB))))))
  (aF mU)
  bL))
theorem Cm(B:Bt mg)(Fu:Fun K "show_plan" "show_plan" nO f fd)(Gshow_ratio:FF P w K mg base 1 "show_ratio" ["first"] dC)(Grows_of:FF P w K mg base 5 "rows_of" ["game", "side"] iJ)(Grefuse_no_plan:FF P w K mg base 8 "refuse_no_plan" ["game", "side", "thing"] cT):
  cB P w K mg base (CX1 P w) 9 f fd ["game", "side", "plan"] (spF ⟨K,mg⟩ c7):=
 bj Fu wJ λcdv A outer s H E hr=>by
 have hu:=hr.units;unfold wF nP;exact (aC (LQ (bK Grefuse_no_plan hr aR (ak (aG 0) (ak (aG 1) (ak (aG 2) aB)))))
  (aC (qx (i:=3) (aJ nO) ["row", "plan"] ["plan"] 1 [2] wJ.nd rfl (Or.inl rfl) rfl ⟨rfl,by decide +kernel,by decide +kernel,by decide +kernel,by decide +kernel⟩ (.cons rfl .nil) (m8 (aq (bK Grows_of hr aR (ak (aG 0) (ak (aG 1) aB))))) (λ_ _ _ _ _ _=>(aZ (i:=0) (show List.Nodup (["row", "plan"]:List Str) by decide) rfl (Or.inl rfl))) (λ_ _ _ _ _ _=>cL) (λ_ _ _ _ _ _=>(wQ PySem.F.plainAttrs_str PySem.F.slot_str_join PySem.F.type_str_join uX (aq bx) (aK (aq (aN bO (aq (dw (gj (ak (aP bB (au 0) (aq aA) (λ_ _=>rfl)) aB)))) (aq (dw (d9 ({ kind:=.function,names:=[(".0",.local),("row",.local),("plan",.cell)],isGenerator:=false,isCoroutine:=false }:Scope) ["share"] [] 1 [] rfl ⟨rfl,by decide +kernel,by decide +kernel,by decide +kernel,by decide +kernel⟩ .nil (jK (mR (rP hr (au 1) (aq (aP bB (au 0) (aq aA) (λ_ _=>rfl))) (λ_ _=>rfl)))) (λ_ _ _ _ _ _=>(aZ (i:=0) (show List.Nodup (["share"]:List Str) by decide) rfl (Or.inl rfl))) (λ_ _ _ _ _ _=>cL) (λ_ _ _ _ _ _=>(bK Gshow_ratio hr sV (ak (aG 0) aB)))))))) aO))))
  (aF (bA (wQ PySem.F.plainAttrs_str PySem.F.slot_str_join PySem.F.type_str_join uX (aq bx) (aK (au 3) aO))))))
theorem Hy(B:Bt mg)(Fu:Fun K "read_row" "read_row" qb f fd)(Gread_ratio:FF P w K mg base 3 "read_ratio" ["text"] ji)(Gis_name:FF P w K mg base 1 "is_name" ["thing"] rT):
  cB P w K mg base (CX1 P w) 4 f fd ["text"] (spF ⟨K,mg⟩ pY):=
 bj Fu zf λcdv A outer s H E hr=>by
 have hu:=hr.units;unfold yE pL;exact (aC (bC (i:=1) zf.nd rfl (Or.inl rfl) (wQ PySem.F.plainAttrs_str PySem.F.slot_str_split PySem.F.type_str_split Ah (au 0) (aK (aq bx) aO)))
  (aC (dh (uv (lA (eX (dN (bK Gis_name hr aR (ak (aP bB (au 1) (aq aA) (λ_ _=>rfl)) aB)))) (jM (bQ (dY hu) (aq (b8 cG rfl B.len gq (aK (au 1) aO))) (aq aA) (bI _)))))
  (aF mU)
  bL)
  (aF (bA (bG (ak (aP bB (au 1) (aq aA) (λ_ _=>rfl)) (ak (cQ lC rfl B.tuple jn (aK (aq (dw (d9 (aJ qb) ["part"] [] 1 [] rfl ⟨rfl,by decide +kernel,by decide +kernel,by decide +kernel,by decide +kernel⟩ .nil (m8 (aq (xW (au 1) (Fe (aq aA)) Ek))) (λ_ _ _ _ _ _=>(aZ (i:=0) (show List.Nodup (["part"]:List Str) by decide) rfl (Or.inl rfl))) (λ_ _ _ _ _ _=>cL) (λ_ _ _ _ _ _=>(bK Gread_ratio hr sV (ak (aG 0) aB)))))) aO)) aB)))))))
theorem Fb(B:Bt mg)(Fu:Fun K "read_rows" "read_rows" nJ f fd)(Gread_row:FF P w K mg base 4 "read_row" ["text"] pY):
  cB P w K mg base (CX1 P w) 5 f fd ["text"] (spF ⟨K,mg⟩ fZ):=
 bj Fu Fq λcdv A outer s H E hr=>by
 have hu:=hr.units;unfold wX iK;exact (aF (bA (Fp (bQ (dY hu) (au 0) (aq bx) (bI _)) (dw (gj aB)) (dw (d9 (aJ nJ) ["part"] [] 1 [] rfl ⟨rfl,by decide +kernel,by decide +kernel,by decide +kernel,by decide +kernel⟩ .nil (m8 (aq (wQ PySem.F.plainAttrs_str PySem.F.slot_str_split PySem.F.type_str_split Ah (au 0) (aK (aq bx) aO)))) (λ_ _ _ _ _ _=>(aZ (i:=0) (show List.Nodup (["part"]:List Str) by decide) rfl (Or.inl rfl))) (λ_ _ _ _ _ _=>cL) (λ_ _ _ _ _ _=>(bK Gread_row hr sV (ak (aG 0) aB))))))))
theorem Cd(B:Bt mg)(Fu:Fun K "read_plan" "read_plan" qP f fd)(Grefuse_no_plan:FF P w K mg base 8 "refuse_no_plan" ["game", "side", "thing"] cT)(Gread_rows:FF P w K mg base 5 "read_rows" ["text"] fZ):
  cB P w K mg base (CX1 P w) 9 f fd ["game", "side", "text"] (spF ⟨K,mg⟩ dJ):=
 bj Fu qU λcdv A outer s H E hr=>by
 have hu:=hr.units;unfold wU nM;exact (aC (dh (eX (dN (jb (x:="") (au 2) rfl B.isinstance bT rfl B.str pZ)))
  (aF mU)
  bL)
  (aC (bC (i:=3) qU.nd rfl (Or.inl rfl) (bK Gread_rows hr aR (ak (aG 2) aB)))
  (aC (iV (i:=4) qU.nd rfl (Or.inl rfl) (By (Hz rfl) rfl B.dict xn (aK (au 3) aO)))
  (aC (dh (bQ (Ec hu) (aq (b8 cG rfl B.len gq (aK (au 4) aO))) (aq (b8 cG rfl B.len gq (aK (au 3) aO))) (bI _))
  (aF mU)
  bL)
  (aC (LQ (ux Grefuse_no_plan hr aR (aK (au 0) (aK (au 1) (aK (au 4) aO)))))
  (aF (xr 4)))))))
theorem z9(B:Bt mg)(Fu:Fun K "opened_out" "opened_out" mF f fd)(Gtimes:FF P w K mg base 3 "times" ["first", "second"] lN):
  cB P w K mg base (CX1 P w) 4 f fd ["share", "branch"] (spF ⟨K,mg⟩ cW):=
 bj Fu DX λcdv A outer s H E hr=>by
 have hu:=hr.units;unfold lQ mj;exact (aC (dh (bQ (jx hu) (aq (aP bB (au 1) (aq aA) (λ_ _=>rfl))) (aq bx) (bI _))
  (aF (lW (gj (ak (bG (ak (aG 0) (ak (aG 1) aB))) aB))))
  bL)
  (aF (lW (d9 (aJ mF) ["part", "inner", "share"] ["share"] 2 [0] rfl ⟨rfl,by decide +kernel,by decide +kernel,by decide +kernel,by decide +kernel⟩ (.cons rfl .nil) (jK (mR (aP bB (au 1) (aq aA) (λ_ _=>rfl)))) (λ_ _ _ _ _ _=>(mL rfl (bZ (aZ (i:=0) (show List.Nodup (["part", "inner", "share"]:List Str) by decide) rfl (Or.inl rfl)) (bZ (aZ (i:=1) (show List.Nodup (["part", "inner", "share"]:List Str) by decide) rfl (Or.inl rfl)) iY)))) (λ_ _ _ _ _ _=>cL) (λ_ _ _ _ _ _=>(bG (ak (bK Gtimes hr sV (ak (aG 2) (ak (aG 0) aB))) (ak (aG 1) aB))))))))
theorem w5(B:Bt mg)(Cn:CnT K mg)(Fu:Fun K "put_together" "put_together" jg f fd)(Gplus:FF P w K mg base 3 "plus" ["first", "second"] o5):
  cB P w K mg base (CX1 P w) 4 f fd ["ways"] (spF ⟨K,mg⟩ gn):=
 bj Fu jk λcdv A outer s H E hr=>by
 have hu:=hr.units;unfold mY m7;exact (aC (iV (i:=1) jk.nd rfl (Or.inl rfl) Lx)
  (aC (iu (k:=1000) PassesOwn.leaving rfl (xm (aG 0)) (mL rfl (bZ (aZ (i:=2) jk.nd rfl (Or.inl rfl)) (bZ (aZ (i:=3) jk.nd rfl (Or.inl rfl)) iY)))
  (aF (Kw 1 hr (bK Gplus hr aR (ak (RW hr (au 1) (au 3) (wz Cn rfl) ⟨rfl,rfl,rfl,rfl⟩) (ak (aG 2) aB))) (aG 3))))
  (VB 1 (aF (lW (d9 (aJ jg) ["branch", "share"] [] 2 [] rfl ⟨rfl,by decide +kernel,by decide +kernel,by decide +kernel,by decide +kernel⟩ .nil (jK (QV (aG 1))) (λ_ _ _ _ _ _=>(mL rfl (bZ (aZ (i:=0) (show List.Nodup (["branch", "share"]:List Str) by decide) rfl (Or.inl rfl)) (bZ (aZ (i:=1) (show List.Nodup (["branch", "share"]:List Str) by decide) rfl (Or.inl rfl)) iY)))) (λ_ _ _ _ _ _=>cL) (λ_ _ _ _ _ _=>(bG (ak (aG 1) (ak (aG 0) aB))))))))))
theorem zK(B:Bt mg)(Fu:Fun K "folded_deal" "folded_deal" oZ f fd)(Gwith_ways:FF P w K mg base 1 "with_ways" ["game", "ways"] dm)(Gopened_out:FF P w K mg base 4 "opened_out" ["share", "branch"] cW)(Gput_together:FF P w K mg base 4 "put_together" ["ways"] gn):
  cB P w K mg base (CX1 P w) 5 f fd ["deal"] (spF ⟨K,mg⟩ fQ):=
 bj Fu gQ λcdv A outer s H E hr=>by
 have hu:=hr.units;unfold oE oN;exact (aC (iV (i:=1) gQ.nd rfl (Or.inl rfl) (gj aB))
  (aC (iu (k:=1000) PassesOwn.leaving rfl (mR (aP bB (au 0) (aq aA) (λ_ _=>rfl))) (mL rfl (bZ (aZ (i:=2) gQ.nd rfl (Or.inl rfl)) (bZ (aZ (i:=3) gQ.nd rfl (Or.inl rfl)) iY)))
  (aF (BK 1 (Qo Gopened_out hr aR (ak (aG 2) (ak (aG 3) aB))))))
  (Ur 1 (aC (iV (i:=1) gQ.nd rfl (Or.inl rfl) (Qo Gput_together hr aR (ak (aG 1) aB)))
  (aF (bA (Fp (bQ (dY hu) (aq (b8 cG rfl B.len gq (aK (au 1) aO))) (aq aA) (bI _)) (aP bB (aq (aP bB (au 1) (aq aA) (λ_ _=>rfl))) (aq aA) (λ_ _=>rfl)) (bK Gwith_ways hr aR (ak (aG 0) (ak (aG 1) aB))))))))))
theorem M9(B:Bt mg)(Fu:Fun K "folded" "folded" uO f fd)(Gwith_ways:FF P w K mg base 1 "with_ways" ["game", "ways"] dm)(Gfolded_deal:FF P w K mg base 5 "folded_deal" ["deal"] fQ)(n:Nat)(Gfolded:FF P w K mg base (5+n) "folded" ["game"] (cA n)):
  cB P w K mg base (CX1 P w) (5+n+1) f fd ["game"] (spF ⟨K,mg⟩ (cA (n+1))):=
 bj Fu Gp λcdv A outer s H E hr=>by
 have hu:=hr.units;unfold rJ;exact (aC (dh (bQ (dY hu) (aq (aP bB (au 0) (aq aA) (λ_ _=>rfl))) (aq bx) (bI _))
  (aF (bA (aG 0)))
  bL)
  (aC (bC (i:=1) Gp.nd rfl (Or.inl rfl) (bK Gwith_ways hr aR (ak (aG 0) (ak (dw (d9 (aJ uO) ["lead", "branch"] [] 2 [] rfl ⟨rfl,by decide +kernel,by decide +kernel,by decide +kernel,by decide +kernel⟩ .nil (jK (mR (aP bB (au 0) (aq (Fv uF (aq aA))) (λ_ _=>rfl)))) (λ_ _ _ _ _ _=>(mL rfl (bZ (aZ (i:=0) (show List.Nodup (["lead", "branch"]:List Str) by decide) rfl (Or.inl rfl)) (bZ (aZ (i:=1) (show List.Nodup (["lead", "branch"]:List Str) by decide) rfl (Or.inl rfl)) iY)))) (λ_ _ _ _ _ _=>cL) (λ_ _ _ _ _ _=>(bG (ak (aG 0) (ak (bK Gfolded hr sV (ak (aG 1) aB) (hk:=by omega)) aB)))))) aB)) (hk:=by omega)))
  (aF (bA (Fp (bQ (dY hu) (aq (aP bB (au 0) (aq aA) (λ_ _=>rfl))) (aq bx) (bI _)) (bK Gfolded_deal hr aR (ak (aG 1) aB) (hk:=by omega)) (aG 1))))))
theorem xf(B:Bt mg)(Fu:Fun K "_law_cell_at" "_law_cell_at" mK f fd)  :
  cB P w K mg base (CX1 P w) 1 f fd ["_law_script", "_law_k"] (spF ⟨K,mg⟩ cY):=
 bj Fu xV λcdv A outer s H E hr=>by
 have hu:=hr.units;unfold iQ iU;exact (aC (dh (bQ (Ec hu) (au 1) (aq (b8 cG rfl B.len gq (aK (au 0) aO))) (bI _))
  (aF (bA (aP bB (au 0) (au 1) (λ_ _=>rfl))))
  bL)
  (aF (bA aA)))
theorem w6(B:Bt mg)(Fu:Fun K "_law_numbers" "_law_numbers" iW f fd)(G_law_cell_at:FF P w K mg base 1 "_law_cell_at" ["_law_script", "_law_k"] cY):
  cB P w K mg base (CX1 P w) 2 f fd ["_law_script"] (spF ⟨K,mg⟩ jf):=
 bj Fu xX λcdv A outer s H E hr=>by
 have hu:=hr.units;unfold qY jc;exact (aF (lW (d9 (aJ iW) ["_law_k", "_law_script"] ["_law_script"] 1 [0] rfl ⟨rfl,by decide +kernel,by decide +kernel,by decide +kernel,by decide +kernel⟩ (.cons rfl .nil) (jK (gr rfl B.range (aK (aq aA) aO))) (λ_ _ _ _ _ _=>(aZ (i:=0) (show List.Nodup (["_law_k", "_law_script"]:List Str) by decide) rfl (Or.inl rfl))) (λ_ _ _ _ _ _=>cL) (λ_ _ _ _ _ _=>(aN dF (aq (aN dU (aq (aN bO (aq (aN bO (aq (aN bO (aq (aN dF (aq (bK G_law_cell_at hr sV (ak (aG 1) (ak (aG 0) aB)))) (aq aA))) (aq (aN dU (aq (aN dU (aq aA) (au 0))) (au 0))))) (aq (aN dU (aq aA) (au 0))))) (aq aA))) (aq aA))) (aq aA))))))
theorem z8(B:Bt mg)(Fu:Fun K "_law_names" "_law_names" pR f fd)  :
  cB P w K mg base (CX1 P w) 1 f fd ["_law_x", "_law_y", "_law_many"] (spF ⟨K,mg⟩ jm):=
 bj Fu dH λcdv A outer s H E hr=>by
 have hu:=hr.units;unfold uV lX;exact (aC (bC (i:=3) dH.nd rfl (Or.inl rfl) bx)
  (aC (bC (i:=4) dH.nd rfl (Or.inl rfl) (aN bO (aq aA) (aq (aN dF (au 0) (aq aA)))))
  (aC (bC (i:=5) dH.nd rfl (Or.inl rfl) (aN dF (au 1) (au 4)))
  (aC (iV (i:=6) dH.nd rfl (Or.inl rfl) (gj aB))
  (aC (iu (k:=1000) PassesOwn.leaving rfl (gr rfl B.range (aK (au 2) aO)) (aZ (i:=7) dH.nd rfl (Or.inl rfl))
  (aC (bC (i:=8) dH.nd rfl (Or.inl rfl) bx)
  (aC (iu (k:=1000) PassesOwn.leaving rfl (gr rfl B.range (aK (au 4) aO)) (aZ (i:=9) dH.nd rfl (Or.inl rfl))
  (aF (bC (i:=8) dH.nd rfl (Or.inl rfl) (aN bO (au 8) (aq (aP bB (au 3) (aq (aN dF (aq (aN bO (aq (aN bO (aq (aN lV (au 0) (aq (aN bO (au 9) (aq aA))))) (aq (aN dU (au 9) (au 9))))) (aq (aN dU (aq (aN bO (au 7) (aq aA))) (aq (cQ rW rfl B.int yz (aK (aq (pN (dY hu) (au 9) (au 5) (bI _))) aO))))))) (aq aA))) (λ_ _=>rfl)))))))
  (aF (pA 6 (aG 8))))))
  (aF (xr 6)))))))
theorem Dp(B:Bt mg)(Fu:Fun K "_law_game" "_law_game" nW f fd)(G_law_names:FF P w K mg base 1 "_law_names" ["_law_x", "_law_y", "_law_many"] jm):
  cB P w K mg base (CX1 P w) 2 f fd ["_law_xs"] (spF ⟨K,mg⟩ nZ):=
 bj Fu cu λcdv A outer s H E hr=>by
 have hu:=hr.units;unfold wL nG;exact (aC (bC (i:=1) cu.nd rfl (Or.inl rfl) (aN bO (aq aA) (aq (aN dF (aq (aP bB (au 0) (aq aA) (λ_ _=>rfl))) (aq aA)))))
  (aC (bC (i:=2) cu.nd rfl (Or.inl rfl) (bK G_law_names hr aR (ak (aP bB (au 0) (aq aA) (λ_ _=>rfl)) (ak (aP bB (au 0) (aq aA) (λ_ _=>rfl)) (ak aA aB)))))
  (aC (bC (i:=3) cu.nd rfl (Or.inl rfl) (bK G_law_names hr aR (ak (aP bB (au 0) (aq aA) (λ_ _=>rfl)) (ak (aP bB (au 0) (aq aA) (λ_ _=>rfl)) (ak aA aB)))))
  (aC (bC (i:=4) cu.nd rfl (Or.inl rfl) (bK G_law_names hr aR (ak (aP bB (au 0) (aq aA) (λ_ _=>rfl)) (ak (aP bB (au 0) (aq aA) (λ_ _=>rfl)) (ak aA aB)))))
  (aC (bC (i:=5) cu.nd rfl (Or.inl rfl) (aN bO (aq aA) (aq (aN dF (aq (aP bB (au 0) (aq aA) (λ_ _=>rfl))) (aq aA)))))
  (aC (iV (i:=6) cu.nd rfl (Or.inl rfl) (gj aB))
  (aC (iu (k:=1000) PassesOwn.leaving rfl (gr rfl B.range (aK (aq aA) aO)) (aZ (i:=7) cu.nd rfl (Or.inr rfl))
  (aC (iV (i:=8) cu.nd rfl (Or.inl rfl) (gj aB))
  (aC (iu (k:=1000) PassesOwn.leaving rfl (gr rfl B.range (aK (aq aA) aO)) (aZ (i:=9) cu.nd rfl (Or.inr rfl))
  (aC (qx (i:=10) (aJ nW) ["_law_i", "_law_xs", "_law_j", "_law_k"] ["_law_xs", "_law_j", "_law_k"] 1 [0,9,7] cu.nd rfl (Or.inl rfl) rfl ⟨rfl,by decide +kernel,by decide +kernel,by decide +kernel,by decide +kernel⟩ (.cons rfl (.cons rfl (.cons rfl .nil))) (jK (gr rfl B.range (aK (aq aA) aO))) (λ_ _ _ _ _ _=>(aZ (i:=0) (show List.Nodup (["_law_i", "_law_xs", "_law_j", "_law_k"]:List Str) by decide) rfl (Or.inl rfl))) (λ_ _ _ _ _ _=>cL) (λ_ _ _ _ _ _=>(bG (ak (aN qi (aq (aN dF (aq (aP bB (au 1) (aq (aN bO (aq (aN bO (aq (aN bO (aq aA) (aq (aN dU (aq aA) (au 3))))) (aq (aN dU (aq aA) (au 2))))) (au 0))) (λ_ _=>rfl))) (aq aA))) (aq aA)) (ak aA aB)))))
  (aC (bC (i:=11) cu.nd rfl (Or.inl rfl) (aP bB (au 3) (aq (aP bB (aq (dw (gj (ak aA (ak (aG 9) (ak (aG 7) aB)))))) (aq (aN dF (aq (aP bB (au 0) (aq aA) (λ_ _=>rfl))) (aq aA))) (λ_ _=>rfl))) (λ_ _=>rfl)))
  (aC (bC (i:=12) cu.nd rfl (Or.inl rfl) (bG (ak bx (ak (aN qi (aq aA) (au 1)) (ak (aG 11) (ak (bG (ak (bG (ak (aP bB (au 4) (aq aA) (λ_ _=>rfl)) (ak (bG (ak bx (ak (aP bB (au 10) (aq aA) (λ_ _=>rfl)) aB))) aB))) (ak (bG (ak (aP bB (au 4) (aq aA) (λ_ _=>rfl)) (ak (bG (ak bx (ak (aP bB (au 10) (aq aA) (λ_ _=>rfl)) aB))) aB))) aB))) aB))))))
  (aC (dh (uv (R7 (bQ (dY hu) (au 9) (aq aA) (bI _)) (Lf (bQ (dY hu) (aq (aN dF (aq (aP bB (au 0) (aq aA) (λ_ _=>rfl))) (aq aA))) (aq aA) (bI _)))))
  (aF (bC (i:=12) cu.nd rfl (Or.inl rfl) (bG (ak bx (ak (aP bB (au 10) (aq aA) (λ_ _=>rfl)) aB)))))
  bL)
  (aF (pA 8 (bG (ak (aP bB (au 4) (au 9) (λ_ _=>rfl)) (ak (aG 12) aB))))))))))
  (aF (pA 6 (bG (ak (bG (ak (aP bB (aq (dw (gj (ak (aG 5) (ak (aN qi (aq aA) (au 5)) aB))))) (au 7) (λ_ _=>rfl)) (ak aA aB))) (ak (bG (ak bx (ak (aG 1) (ak (aP bB (au 2) (aq (aN dU (au 7) (aq (aN dF (aq (aP bB (au 0) (aq aA) (λ_ _=>rfl))) (aq aA))))) (λ_ _=>rfl)) (ak (cQ lC rfl B.tuple jn (aK (au 8) aO)) aB))))) aB))))))))
  (aF (bA (bG (ak bx (ak bx (ak (cQ lC rfl B.tuple jn (aK (au 6) aO)) aB)))))))))))))
theorem Di(B:Bt mg)(Fu:Fun K "_law_seen" "_law_seen" nC f fd)  (n:Nat)(G_law_seen:FF P w K mg base (0+n) "_law_seen" ["_law_game_here", "_law_side"] (cF n)):
  cB P w K mg base (CX1 P w) (0+n+1) f fd ["_law_game_here", "_law_side"] (spF ⟨K,mg⟩ (cF (n+1))):=
 bj Fu iH λcdv A outer s H E hr=>by
 have hu:=hr.units;unfold fD;exact (aC (dh (bQ (dY hu) (aq (aP bB (au 0) (aq aA) (λ_ _=>rfl))) (aq bx) (bI _))
  (aF (lW (gj aB)))
  bL)
  (aC (bC (i:=2) iH.nd rfl (Or.inr rfl) (dw (gj aB)))
  (aC (dh (uv (R7 (bQ (dY hu) (aq (aP bB (au 0) (aq aA) (λ_ _=>rfl))) (aq bx) (bI _)) (Lf (bQ (dY hu) (aq (aP bB (au 0) (aq aA) (λ_ _=>rfl))) (au 1) (bI _)))))
  (aF (bC (i:=2) iH.nd rfl (Or.inr rfl) (dw (gj (ak (aP bB (au 0) (aq aA) (λ_ _=>rfl)) aB)))))
  bL)
  (aC (iu (k:=1000) PassesOwn.leaving rfl (mR (aP bB (au 0) (aq (Fv uF (aq aA))) (λ_ _=>rfl))) (mL rfl (bZ (aZ (i:=3) iH.nd rfl (Or.inl rfl)) (bZ (aZ (i:=4) iH.nd rfl (Or.inl rfl)) iY)))
  (aF (bC (i:=2) iH.nd rfl (Or.inr rfl) (aN bO (au 2) (aq (dw (d9 (aJ nC) ["_law_name", "_law_found"] ["_law_found"] 1 [2] rfl ⟨rfl,by decide +kernel,by decide +kernel,by decide +kernel,by decide +kernel⟩ (.cons rfl .nil) (m8 (aq (bK G_law_seen hr aR (ak (aG 4) (ak (aG 1) aB)) (hk:=by omega)))) (λ_ _ _ _ _ _=>(aZ (i:=0) (show List.Nodup (["_law_name", "_law_found"]:List Str) by decide) rfl (Or.inl rfl))) (λ_ _ _ _ _ _=>(Hk (bQ Ti (au 0) (au 1) (by with_unfolding_all rfl)))) (λ_ _ _ _ _ _=>(aG 0)))))))))
  (aF (bA (aG 2)))))))
theorem xg(B:Bt mg)(Fu:Fun K "_law_divisor" "_law_divisor" m6 f fd)  :
  cB P w K mg base (CX1 P w) 1 f fd ["_law_one", "_law_other"] (spF ⟨K,mg⟩ fB):=
 bj Fu je λcdv A outer s H E hr=>by
 have hu:=hr.units;unfold ni mZ;exact (aC (yg PassesOwn.leaving (bQ O3 (au 1) (aq aA) (bI _))
  (aC (bC (i:=2) je.nd rfl (Or.inl rfl) (aN dF (au 0) (au 1)))
  (aC (bC (i:=0) je.nd rfl (Or.inl rfl) (aG 1))
  (aF (bC (i:=1) je.nd rfl (Or.inl rfl) (aG 2))))))
  (aF (bA (aG 0))))
theorem ym(B:Bt mg)(Fu:Fun K "_law_shares" "_law_shares" n8 f fd)(G_law_divisor:FF P w K mg base 1 "_law_divisor" ["_law_one", "_law_other"] fB):
  cB P w K mg base (CX1 P w) 2 f fd ["_law_x"] (spF ⟨K,mg⟩ j8):=
 bj Fu gW λcdv A outer s H E hr=>by
 have hu:=hr.units;unfold sZ ie;exact (aC (bC (i:=1) gW.nd rfl (Or.inl rfl) (aN bO (aq aA) (aq (aN dF (au 0) (aq aA)))))
  (aC (dh (bQ (dY hu) (aq (aN dF (au 0) (aq aA))) (aq aA) (bI _))
  (aF (bC (i:=1) gW.nd rfl (Or.inl rfl) (aN bO (aq (aN bO (aq (aN Tp (aq aA) (aq aA))) (aq aA))) (au 0))))
  bL)
  (aC (bC (i:=2) gW.nd rfl (Or.inl rfl) (aN dF (aq (aN dU (aq (aN lV (au 0) (aq aA))) (aq aA))) (aq (aN bO (au 1) (aq aA)))))
  (aC (bC (i:=3) gW.nd rfl (Or.inl rfl) (bK G_law_divisor hr aR (ak (aG 1) (ak (aG 2) aB))))
  (aF (bA (bG (ak (bG (ak (aN lV (au 2) (au 3)) (ak (aN lV (au 1) (au 3)) aB))) (ak (bG (ak (aN lV (aq (aN qi (au 1) (au 2))) (au 3)) (ak (aN lV (au 1) (au 3)) aB))) aB)))))))))
theorem qH(B:Bt mg)(Fu:Fun K "_law_fraction_text" "_law_fraction_text" gk f fd)  :
  cB P w K mg base (CX1 P w) 1 f fd ["_law_one"] (spF ⟨K,mg⟩ cH):=
 bj Fu qT λcdv A outer s H E hr=>by
 have hu:=hr.units;unfold eE eF;exact (aC (dh (bQ (dY hu) (aq (aP bB (au 0) (aq aA) (λ_ _=>rfl))) (aq aA) (bI _))
  (aF (bA (cQ mG rfl B.str pZ (aK (aq (aP bB (au 0) (aq aA) (λ_ _=>rfl))) aO))))
  bL)
  (aF (bA (aN bO (aq (aN bO (aq (cQ mG rfl B.str pZ (aK (aq (aP bB (au 0) (aq aA) (λ_ _=>rfl))) aO))) (aq bx))) (aq (cQ mG rfl B.str pZ (aK (aq (aP bB (au 0) (aq aA) (λ_ _=>rfl))) aO)))))))
theorem Eb(B:Bt mg)(Fu:Fun K "_law_text" "_law_text" nF f fd)(G_law_fraction_text:FF P w K mg base 1 "_law_fraction_text" ["_law_one"] cH):
  cB P w K mg base (CX1 P w) 2 f fd ["_law_names_here", "_law_plan"] (spF ⟨K,mg⟩ nR):=
 bj Fu wN λcdv A outer s H E hr=>by
 have hu:=hr.units;unfold wH nT;exact (aC (qx (i:=2) (aJ nF) ["_law_name", "_law_plan"] ["_law_plan"] 1 [1] wN.nd rfl (Or.inl rfl) rfl ⟨rfl,by decide +kernel,by decide +kernel,by decide +kernel,by decide +kernel⟩ (.cons rfl .nil) (m8 (au 0)) (λ_ _ _ _ _ _=>(aZ (i:=0) (show List.Nodup (["_law_name", "_law_plan"]:List Str) by decide) rfl (Or.inl rfl))) (λ_ _ _ _ _ _=>cL) (λ_ _ _ _ _ _=>(wQ PySem.F.plainAttrs_str PySem.F.slot_str_join PySem.F.type_str_join uX (aq bx) (aK (aq (aN bO (aq (dw (gj (ak (aG 0) aB)))) (aq (dw (d9 ({ kind:=.function,names:=[(".0",.local),("_law_name",.local),("_law_plan",.cell)],isGenerator:=false,isCoroutine:=false }:Scope) ["_law_share"] [] 1 [] rfl ⟨rfl,by decide +kernel,by decide +kernel,by decide +kernel,by decide +kernel⟩ .nil (jK (mR (rP hr (au 1) (au 0) (λ_ _=>rfl)))) (λ_ _ _ _ _ _=>(aZ (i:=0) (show List.Nodup (["_law_share"]:List Str) by decide) rfl (Or.inl rfl))) (λ_ _ _ _ _ _=>cL) (λ_ _ _ _ _ _=>(bK G_law_fraction_text hr sV (ak (aG 0) aB)))))))) aO))))
  (aF (bA (wQ PySem.F.plainAttrs_str PySem.F.slot_str_join PySem.F.type_str_join uX (aq bx) (aK (au 2) aO)))))
theorem zR(B:Bt mg)(Fu:Fun K "_law_alike" "_law_alike" pU f fd)  :
  cB P w K mg base (CX1 P w) 1 f fd ["_law_found", "_law_plan"] (spF ⟨K,mg⟩ fL):=
 bj Fu pI λcdv A outer s H E hr=>by
 have hu:=hr.units;unfold uG my;exact (aC (dh (uv (lA (eX (dN (jb (x:="") (au 0) rfl B.isinstance bT rfl B.dict xn))) (jM (bQ (DG hr) (au 0) (au 1) (bI _)))))
  (aF (bA lL))
  bL)
  (aC (Qx (i:=0) (k:=1000) PassesOwn.leaving rfl (Vu (i:=0) rfl (Or.inl rfl)) IV (aZ (i:=2) pI.nd rfl (Or.inl rfl))
  (aC (dh (eX (dN (jb (x:="") (aq (rP hr (au 0) (au 2) (λ_ _=>rfl))) rfl B.isinstance bT rfl B.tuple jn)))
  (aF (bA lL))
  bL)
  (aF (iu (k:=1000) PassesOwn.leaving rfl (mR (rP hr (au 0) (au 2) (λ_ _=>rfl))) (aZ (i:=3) pI.nd rfl (Or.inl rfl))
  (aF (dh (uv (lA (eX (dN (jb (x:="") (au 3) rfl B.isinstance bT rfl B.tuple jn))) (lA (dN (jb (x:="") (aq (aP bB (au 3) (aq aA) (λ_ _=>rfl))) rfl B.isinstance bT rfl B.bool Ef)) (jM (dN (jb (x:="") (aq (aP bB (au 3) (aq aA) (λ_ _=>rfl))) rfl B.isinstance bT rfl B.bool Ef))))))
  (aF (bA lL))
  bL))))))
  (aF (bA lL))))
theorem DR(B:Bt mg)(Fu:Fun K "_law_told" "_law_told" nU f fd)(Gshow_plan:FF P w K mg base 9 "show_plan" ["game", "side", "plan"] c7)(Gread_plan:FF P w K mg base 9 "read_plan" ["game", "side", "text"] dJ)(G_law_seen:FF P w K mg base 30 "_law_seen" ["_law_game_here", "_law_side"] (cF 30))(G_law_shares:FF P w K mg base 2 "_law_shares" ["_law_x"] j8)(G_law_text:FF P w K mg base 2 "_law_text" ["_law_names_here", "_law_plan"] nR)(G_law_alike:FF P w K mg base 1 "_law_alike" ["_law_found", "_law_plan"] fL):
  cB P w K mg base (CX1 P w) 31 f fd ["_law_game_here", "_law_side", "_law_x"] (spF ⟨K,mg⟩ kY):=
 bj Fu dI λcdv A outer s H E hr=>by
 have hu:=hr.units;unfold wR n6;exact (aC (bC (i:=3) dI.nd rfl (Or.inr rfl) (bK G_law_seen hr aR (ak (aG 0) (ak (aG 1) aB))))
  (aC (iV (i:=4) dI.nd rfl (Or.inl rfl) rY)
  (aC (iu (k:=1000) PassesOwn.leaving rfl (gr rfl B.range (aK (aq (b8 cG rfl B.len gq (aK (au 3) aO))) aO)) (aZ (i:=5) dI.nd rfl (Or.inl rfl))
  (aF (EY 4 hr (bK G_law_shares hr aR (ak (aN bO (aq (aN lV (au 2) (aq (aN bO (au 5) (aq aA))))) (aq (aN dU (aq aA) (au 5)))) aB)) (aP bB (au 3) (au 5) (λ_ _=>rfl)))))
  (aC (iV (i:=6) dI.nd rfl (Or.inl rfl) rY)
  (aC (iu (k:=1000) PassesOwn.leaving rfl (Zd rfl B.reversed (ak (aG 3) aB)) (aZ (i:=7) dI.nd rfl (Or.inl rfl))
  (aF (EY 6 hr (rP hr (au 4) (au 7) (λ_ _=>rfl)) (aG 7))))
  (aC (bC (i:=8) dI.nd rfl (Or.inl rfl) (ux G_law_text hr aR (aK (au 3) (aK (au 4) aO))))
  (aC (dh (uv (lA (bQ (jx hu) (aq (ux Gshow_plan hr aR (aK (au 0) (aK (au 1) (aK (au 6) aO))))) (au 8) (bI _)) (lA (bQ (DG hr) (au 6) (au 4) (bI _)) (jM (bQ (jx hu) (aq (ux Gshow_plan hr aR (aK (au 0) (aK (au 1) (aK (au 6) aO))))) (au 8) (bI _))))))
  (aF (bA lL))
  bL)
  (aC (bC (i:=9) dI.nd rfl (Or.inl rfl) (ux G_law_text hr aR (aK (aq (dw (d9 (aJ nU) ["_law_k", "_law_names_here", "_law_x"] ["_law_names_here", "_law_x"] 1 [3,2] rfl ⟨rfl,by decide +kernel,by decide +kernel,by decide +kernel,by decide +kernel⟩ (.cons rfl (.cons rfl .nil)) (jK (gr rfl B.range (aK (aq (b8 cG rfl B.len gq (aK (au 3) aO))) aO))) (λ_ _ _ _ _ _=>(aZ (i:=0) (show List.Nodup (["_law_k", "_law_names_here", "_law_x"]:List Str) by decide) rfl (Or.inl rfl))) (λ_ _ _ _ _ _=>cL) (λ_ _ _ _ _ _=>(aP bB (au 1) (aq (aN dF (aq (aN bO (au 0) (au 2))) (aq (b8 cG rfl B.len gq (aK (au 1) aO))))) (λ_ _=>rfl)))))) (aK (au 4) aO))))
  (aC (iu (k:=1000) PassesOwn.leaving rfl (mR (bG (ak (aG 8) (ak (aG 9) (ak (aG 8) aB))))) (aZ (i:=10) dI.nd rfl (Or.inl rfl))
  (aC (iV (i:=11) dI.nd rfl (Or.inl rfl) (Qo Gread_plan hr aR (ak (aG 0) (ak (aG 1) (ak (aG 10) aB)))))
  (aC (dh (uv (lA (eX (dN (ux G_law_alike hr aR (aK (au 11) (aK (au 4) aO))))) (jM (bQ (jx hu) (aq (ux Gshow_plan hr aR (aK (au 0) (aK (au 1) (aK (au 11) aO))))) (au 8) (bI _)))))
  (aF (bA lL))
  bL)
  (aF (EY 11 hr (bG aB) bx)))))
  (aF (bA lL)))))))))))
theorem Ac(B:Bt mg)(Fu:Fun K "_law_cards" "_law_cards" pJ f fd)(Gshow_plan:FF P w K mg base 9 "show_plan" ["game", "side", "plan"] c7)(Gread_plan:FF P w K mg base 9 "read_plan" ["game", "side", "text"] dJ)(Gfolded:FF P w K mg base 17 "folded" ["game"] (cA 12))(G_law_alike:FF P w K mg base 1 "_law_alike" ["_law_found", "_law_plan"] fL):
  cB P w K mg base (CX1 P w) 18 f fd [] (spF ⟨K,mg⟩ lU):=
 bj Fu lZ λcdv A outer s H E hr=>by
 have hu:=hr.units;unfold uC lR;refine Wr.out ?_;exact (ug (Q7 (i:=0) lZ.nd rfl (Or.inl rfl) (dX (bH (Wr.mk bx) (bH (Wr.mk bx) (bH (dX (bH (dX (bH (dX (bH (Wr.mk aA) (bH (Wr.mk aA) (Wr.mk aB)))) (bH (dX (bH (Wr.mk bx) (bH (dX (bH (Wr.mk aA) (bH (Wr.mk aA) (Wr.mk aB)))) (Wr.mk aB)))) (Wr.mk aB)))) (bH (dX (bH (dX (bH (Wr.mk aA) (bH (Wr.mk aA) (Wr.mk aB)))) (bH (dX (bH (Wr.mk bx) (bH (dX (bH (Wr.mk aA) (bH (Wr.mk aA) (Wr.mk aB)))) (Wr.mk aB)))) (Wr.mk aB)))) (Wr.mk aB)))) (Wr.mk aB)))))) (ug (Q7 (i:=1) lZ.nd rfl (Or.inl rfl) (dX (bH (Wr.mk bx) (bH (Wr.mk aA) (bH (Wr.mk bx) (bH (dX (bH (dX (bH (Wr.mk bx) (bH (dX (bH (Wr.mk bx) (bH (dX (bH (Wr.mk aA) (bH (Wr.mk aA) (Wr.mk aB)))) (Wr.mk aB)))) (Wr.mk aB)))) (bH (dX (bH (Wr.mk bx) (bH (dX (bH (Wr.mk bx) (bH (dX (bH (Wr.mk aA) (bH (Wr.mk aA) (Wr.mk aB)))) (Wr.mk aB)))) (Wr.mk aB)))) (Wr.mk aB)))) (Wr.mk aB))))))) (ug (Q7 (i:=2) lZ.nd rfl (Or.inl rfl) (Wr.mk (Wr.out (Zz Gfolded hr aR (dX (bH (Wr.mk bx) (bH (Wr.mk bx) (bH (dX (bH (dX (bH (dX (bH (Wr.mk aA) (bH (Wr.mk aA) (Wr.mk aB)))) (bH (Wr.mk (aG 0)) (Wr.mk aB)))) (bH (dX (bH (dX (bH (Wr.mk aA) (bH (Wr.mk aA) (Wr.mk aB)))) (bH (Wr.mk (aG 1)) (Wr.mk aB)))) (Wr.mk aB)))) (Wr.mk aB))))))))) (ug (abD (Wr.mk (uv (lA (bQ (jx hu) (aq (Wr.out (ZQ Gshow_plan hr aR (aG 2) aA (Ls bx (dX (bH (dX (bH (Wr.mk aA) (bH (Wr.mk aA) (Wr.mk aB)))) (bH (dX (bH (Wr.mk aA) (bH (Wr.mk aA) (Wr.mk aB)))) (Wr.mk aB)))))))) (aq bx) (bI _)) (jM (bQ (jx hu) (aq (bK Gshow_plan hr aR (ak (aG 2) (ak aA (ak (dw rY) aB))))) (aq bx) (bI _)))))) (O4 (Wz (Wr.mk lL))) (Wr.mk bL)) (O4 (Wz (Wr.mk (uc (Wr.out (aaj G_law_alike hr aR (Wr.mk (bK Gread_plan hr aR (ak (aG 2) (ak aA (ak bx aB))))) (Ls bx (dX (bH (dX (bH (Wr.mk aA) (bH (Wr.mk aA) (Wr.mk aB)))) (bH (dX (bH (Wr.mk aA) (bH (Wr.mk aA) (Wr.mk aB)))) (Wr.mk aB))))))) (ud (pN (Uu hr) (aq (bK Gread_plan hr aR (ak (aG 2) (ak aA (ak bx aB))))) (aq (dw rY)) (bI _)))))))))))
theorem Xc(B:Bt mg)(Fu:Fun K "law" "law" Bv f fd)(Gshow_plan:FF P w K mg base 9 "show_plan" ["game", "side", "plan"] c7)(Gread_plan:FF P w K mg base 9 "read_plan" ["game", "side", "text"] dJ)(G_law_numbers:FF P w K mg base 2 "_law_numbers" ["_law_script"] jf)(G_law_game:FF P w K mg base 2 "_law_game" ["_law_xs"] nZ)(G_law_told:FF P w K mg base 31 "_law_told" ["_law_game_here", "_law_side", "_law_x"] kY)(G_law_cards:FF P w K mg base 18 "_law_cards" [] lU):
  cB P w K mg base (CX1 P w) 32 f fd ["_law_script"] (spF ⟨K,mg⟩ Wt):=
 bj Fu BP λcdv A outer s H E hr=>by
 have hu:=hr.units;unfold Ww LK;exact (aC (bC (i:=1) BP.nd rfl (Or.inl rfl) (bK G_law_numbers hr aR (ak (aG 0) aB)))
  (aC (bC (i:=2) BP.nd rfl (Or.inl rfl) (bK G_law_game hr aR (ak (aG 1) aB)))
  (aC (dh (uv (lA (eX (dN (bK G_law_told hr aR (ak (aG 2) (ak aA (ak (aP bB (au 1) (aq aA) (λ_ _=>rfl)) aB)))))) (jM (eX (dN (bK G_law_told hr aR (ak (aG 2) (ak aA (ak (aP bB (au 1) (aq aA) (λ_ _=>rfl)) aB)))))))))
  (aF (bA lL))
  bL)
  (aC (bC (i:=3) BP.nd rfl (Or.inl rfl) (aP bB (aq (aP bB (aq (aP bB (aq (aP bB (au 2) (aq aA) (λ_ _=>rfl))) (aq aA) (λ_ _=>rfl))) (aq aA) (λ_ _=>rfl))) (aq aA) (λ_ _=>rfl)))
  (aC (bC (i:=4) BP.nd rfl (Or.inl rfl) (bG (ak bx (ak (aG 3) (ak bx (ak (bG (ak (bG (ak (aN bO (aq bx) (aq (cQ mG rfl B.str pZ (aK (aq (aN dF (aq (aP bB (au 1) (aq aA) (λ_ _=>rfl))) (aq aA))) aO)))) (ak (bG (ak bx (ak (bG (ak (aN dF (aq (aP bB (au 1) (aq aA) (λ_ _=>rfl))) (aq aA)) (ak aA aB))) aB))) aB))) aB)) aB))))))
  (aC (bC (i:=5) BP.nd rfl (Or.inl rfl) (bK Gread_plan hr aR (ak (aG 4) (ak (aN qi (aq aA) (au 3)) (ak bx aB)))))
  (aC (dh (uv (lA (bQ (DG hr) (au 5) (aq (dw rY)) (bI _)) (lA (eX (dN (jb (x:="") (au 5) rfl B.isinstance bT rfl B.dict xn))) (jM (bQ (jx hu) (aq (bK Gshow_plan hr aR (ak (aG 4) (ak (aN qi (aq aA) (au 3)) (ak (dw rY) aB))))) (aq bx) (bI _))))))
  (aF (bA lL))
  bL)
  (aF (bA (Y7 G_law_cards hr aR))))))))))
theorem all_mk {l:W.OpenLaw}{w:World}{K:W.Frag}{h:Heap}{mg:Zp}{fa:Addr}(X:K.In h)(G:h.Ns mainGlobals mg)(hfa:mg "law" = some (.ref fa))
  (q0:QD K "is_whole" um)
  (q1:QD K "common_divisor" jP)
  (q2:QD K "lowest" zF)
  (q3:QD K "is_ratio" t6)
  (q4:QD K "plus" Jc)
  (q5:QD K "times" Cr)
  (q6:QD K "under" Cj)
  (q7:QD K "total" Ff)
  (q8:QD K "show_ratio" p8)
  (q9:QD K "are_figures" jX)
  (q10:QD K "read_ratio" qp)
  (q11:QD K "is_name" rR)
  (q12:QD K "branches_of" j7)
  (q13:QD K "with_ways" rm)
  (q14:QD K "places_of" nY)
  (q15:QD K "words_at" pM)
  (q16:QD K "records_behind" jJ)
  (q17:QD K "places_with_records" fW)
  (q18:QD K "row_at" zq)
  (q19:QD K "table_of" ue)
  (q20:QD K "rows_of" su)
  (q21:QD K "are_full_shares" fX)
  (q22:QD K "is_plan_for" jZ)
  (q23:QD K "is_plan" v7)
  (q24:QD K "refuse_no_plan" jN)
  (q25:QD K "show_plan" nO)
  (q26:QD K "read_row" qb)
  (q27:QD K "read_rows" nJ)
  (q28:QD K "read_plan" qP)
  (q29:QD K "opened_out" mF)
  (q30:QD K "put_together" jg)
  (q31:QD K "folded_deal" oZ)
  (q32:QD K "folded" uO)
  (q33:QD K "_law_cell_at" mK)
  (q34:QD K "_law_numbers" iW)
  (q35:QD K "_law_names" pR)
  (q36:QD K "_law_game" nW)
  (q37:QD K "_law_seen" nC)
  (q38:QD K "_law_divisor" m6)
  (q39:QD K "_law_shares" n8)
  (q40:QD K "_law_fraction_text" gk)
  (q41:QD K "_law_text" nF)
  (q42:QD K "_law_alike" pU)
  (q43:QD K "_law_told" nU)
  (q44:QD K "_law_cards" pJ)
  (q45:QD K "law" Bv)
  (zValueError:W.nsIn K mainGlobals "ValueError" = some none)
  (zabs:W.nsIn K mainGlobals "abs" = some none)
  (zall:W.nsIn K mainGlobals "all" = some none)
  (zbool:W.nsIn K mainGlobals "bool" = some none)
  (zdict:W.nsIn K mainGlobals "dict" = some none)
  (zenumerate:W.nsIn K mainGlobals "enumerate" = some none)
  (zint:W.nsIn K mainGlobals "int" = some none)
  (zisinstance:W.nsIn K mainGlobals "isinstance" = some none)
  (zlen:W.nsIn K mainGlobals "len" = some none)
  (zlist:W.nsIn K mainGlobals "list" = some none)
  (zrange:W.nsIn K mainGlobals "range" = some none)
  (zreversed:W.nsIn K mainGlobals "reversed" = some none)
  (zstr:W.nsIn K mainGlobals "str" = some none)
  (ztuple:W.nsIn K mainGlobals "tuple" = some none)
  {CNOUGHT:Addr} (nNOUGHT:W.nsIn K mainGlobals "NOUGHT" = some (some (.ref CNOUGHT)))
  {odNOUGHT:Option Addr} {nnNOUGHT:Nat} {slNOUGHT:Array (Option Value)} {tNOUGHT0 tNOUGHT1:Tok} (vNOUGHT:K.lookup CNOUGHT=some ⟨.type "tuple",odNOUGHT,.seq #[.int 0 tNOUGHT0,.int 1 tNOUGHT1] nnNOUGHT,slNOUGHT⟩)
  {CONE:Addr} (nONE:W.nsIn K mainGlobals "ONE" = some (some (.ref CONE)))
  {odONE:Option Addr} {nnONE:Nat} {slONE:Array (Option Value)} {tONE0 tONE1:Tok} (vONE:K.lookup CONE=some ⟨.type "tuple",odONE,.seq #[.int 1 tONE0,.int 1 tONE1] nnONE,slONE⟩)
  {tFIGURES:Tok} (nFIGURES:W.nsIn K mainGlobals "FIGURES" = some (some (.str "0123456789" tFIGURES)))
  {tMOST_FIGURES:Tok} (nMOST_FIGURES:W.nsIn K mainGlobals "MOST_FIGURES" = some (some (.int 30 tMOST_FIGURES)))
  {tNAME_SIGNS:Tok} (nNAME_SIGNS:W.nsIn K mainGlobals "NAME_SIGNS" = some (some (.str "abcdefghijklmnopqrstuvwxyz0123456789" tNAME_SIGNS)))
  {tMOST_SIGNS:Tok} (nMOST_SIGNS:W.nsIn K mainGlobals "MOST_SIGNS" = some (some (.int 8 tMOST_SIGNS)))
  : ∃fd:FuncData,(∀(s:Shared) (v:Value),BindsTo s fd ⟨[v],[]⟩ [("_law_script",v)])/\∀base:Heap,K.In base->base.Ns mainGlobals mg->cB l.prog w K mg base (CX1 l.prog w) 32 fa fd ["_law_script"] (KY K):=by
 obtain ⟨f,fd,F0,a⟩:=q45.ex;have e:=hfa.symm.trans (W.mg_of X G a);cases e;have D0:=q0.df (ps:=["thing"]) X G (λ_ _ _ _ _ _=>xb1 λ_=>rfl);have D1:=q1.df (ps:=["first", "second"]) X G (λ_ _ _ _ _ _=>xb2 λ_ _=>rfl);have D2:=q2.df (ps:=["top", "bottom"]) X G (λ_ _ _ _ _ _=>xb2 λ_ _=>rfl);have D3:=q3.df (ps:=["thing"]) X G (λ_ _ _ _ _ _=>xb1 λ_=>rfl);have D4:=q4.df (ps:=["first", "second"]) X G (λ_ _ _ _ _ _=>xb2 λ_ _=>rfl);have D5:=q5.df (ps:=["first", "second"]) X G (λ_ _ _ _ _ _=>xb2 λ_ _=>rfl);have D6:=q6.df (ps:=["first", "second"]) X G (λ_ _ _ _ _ _=>xb2 λ_ _=>rfl);have D7:=q7.df (ps:=["some"]) X G (λ_ _ _ _ _ _=>xb1 λ_=>rfl);have D8:=q8.df (ps:=["first"]) X G (λ_ _ _ _ _ _=>xb1 λ_=>rfl);have D9:=q9.df (ps:=["text"]) X G (λ_ _ _ _ _ _=>xb1 λ_=>rfl);have D10:=q10.df (ps:=["text"]) X G (λ_ _ _ _ _ _=>xb1 λ_=>rfl);have D11:=q11.df (ps:=["thing"]) X G (λ_ _ _ _ _ _=>xb1 λ_=>rfl);have D12:=q12.df (ps:=["game"]) X G (λ_ _ _ _ _ _=>xb1 λ_=>rfl);have D13:=q13.df (ps:=["game", "ways"]) X G (λ_ _ _ _ _ _=>xb2 λ_ _=>rfl);have D14:=q14.df (ps:=["game"]) X G (λ_ _ _ _ _ _=>xb1 λ_=>rfl);have D15:=q15.df (ps:=["move"]) X G (λ_ _ _ _ _ _=>xb1 λ_=>rfl);have D16:=q16.df (ps:=["place", "records", "number"]) X G (λ_ _ _ _ _ _=>xb3 λ_ _ _=>rfl);have D17:=q17.df (ps:=["game"]) X G (λ_ _ _ _ _ _=>xb1 λ_=>rfl);have D18:=q18.df (ps:=["move", "records"]) X G (λ_ _ _ _ _ _=>xb2 λ_ _=>rfl);have D19:=q19.df (ps:=["game"]) X G (λ_ _ _ _ _ _=>xb1 λ_=>rfl);have D20:=q20.df (ps:=["game", "side"]) X G (λ_ _ _ _ _ _=>xb2 λ_ _=>rfl);have D21:=q21.df (ps:=["thing", "count"]) X G (λ_ _ _ _ _ _=>xb2 λ_ _=>rfl);have D22:=q22.df (ps:=["rows", "thing"]) X G (λ_ _ _ _ _ _=>xb2 λ_ _=>rfl);have D23:=q23.df (ps:=["game", "side", "thing"]) X G (λ_ _ _ _ _ _=>xb3 λ_ _ _=>rfl);have D24:=q24.df (ps:=["game", "side", "thing"]) X G (λ_ _ _ _ _ _=>xb3 λ_ _ _=>rfl);have D25:=q25.df (ps:=["game", "side", "plan"]) X G (λ_ _ _ _ _ _=>xb3 λ_ _ _=>rfl);have D26:=q26.df (ps:=["text"]) X G (λ_ _ _ _ _ _=>xb1 λ_=>rfl);have D27:=q27.df (ps:=["text"]) X G (λ_ _ _ _ _ _=>xb1 λ_=>rfl);have D28:=q28.df (ps:=["game", "side", "text"]) X G (λ_ _ _ _ _ _=>xb3 λ_ _ _=>rfl);have D29:=q29.df (ps:=["share", "branch"]) X G (λ_ _ _ _ _ _=>xb2 λ_ _=>rfl);have D30:=q30.df (ps:=["ways"]) X G (λ_ _ _ _ _ _=>xb1 λ_=>rfl);have D31:=q31.df (ps:=["deal"]) X G (λ_ _ _ _ _ _=>xb1 λ_=>rfl);have D32:=q32.df (ps:=["game"]) X G (λ_ _ _ _ _ _=>xb1 λ_=>rfl);have D33:=q33.df (ps:=["_law_script", "_law_k"]) X G (λ_ _ _ _ _ _=>xb2 λ_ _=>rfl);have D34:=q34.df (ps:=["_law_script"]) X G (λ_ _ _ _ _ _=>xb1 λ_=>rfl);have D35:=q35.df (ps:=["_law_x", "_law_y", "_law_many"]) X G (λ_ _ _ _ _ _=>xb3 λ_ _ _=>rfl);have D36:=q36.df (ps:=["_law_xs"]) X G (λ_ _ _ _ _ _=>xb1 λ_=>rfl);have D37:=q37.df (ps:=["_law_game_here", "_law_side"]) X G (λ_ _ _ _ _ _=>xb2 λ_ _=>rfl);have D38:=q38.df (ps:=["_law_one", "_law_other"]) X G (λ_ _ _ _ _ _=>xb2 λ_ _=>rfl);have D39:=q39.df (ps:=["_law_x"]) X G (λ_ _ _ _ _ _=>xb1 λ_=>rfl);have D40:=q40.df (ps:=["_law_one"]) X G (λ_ _ _ _ _ _=>xb1 λ_=>rfl);have D41:=q41.df (ps:=["_law_names_here", "_law_plan"]) X G (λ_ _ _ _ _ _=>xb2 λ_ _=>rfl);have D42:=q42.df (ps:=["_law_found", "_law_plan"]) X G (λ_ _ _ _ _ _=>xb2 λ_ _=>rfl);have D43:=q43.df (ps:=["_law_game_here", "_law_side", "_law_x"]) X G (λ_ _ _ _ _ _=>xb3 λ_ _ _=>rfl);have D44:=q44.df (ps:=[]) X G (λ_ _ _ _ _ _ us hl=>match us,hl with | [],_=>rfl);have B:Bt mg:=⟨W.mg_none_of X G zValueError,W.mg_none_of X G zabs,W.mg_none_of X G zall,W.mg_none_of X G zbool,W.mg_none_of X G zdict,W.mg_none_of X G zenumerate,W.mg_none_of X G zint,W.mg_none_of X G zisinstance,W.mg_none_of X G zlen,W.mg_none_of X G zlist,W.mg_none_of X G zrange,W.mg_none_of X G zreversed,W.mg_none_of X G zstr,W.mg_none_of X G ztuple⟩;have Cn:CnT K mg:=⟨⟨.ref CNOUGHT,_,W.mg_of X G nNOUGHT,rfl,λ_ _=>.tup (xs:=[.int 0,.int 1]) (.inr ⟨_,_,_,vNOUGHT,rfl,rfl,(show 2<=sizeLine by decide),(.cons ⟨tNOUGHT0,rfl⟩ (.cons ⟨tNOUGHT1,rfl⟩ .nil))⟩) (.cons (.int 0) (.cons (.int 1) .nil))⟩,⟨.ref CONE,_,W.mg_of X G nONE,rfl,λ_ _=>.tup (xs:=[.int 1,.int 1]) (.inr ⟨_,_,_,vONE,rfl,rfl,(show 2<=sizeLine by decide),(.cons ⟨tONE0,rfl⟩ (.cons ⟨tONE1,rfl⟩ .nil))⟩) (.cons (.int 1) (.cons (.int 1) .nil))⟩,⟨.str "0123456789",_,W.mg_of X G nFIGURES,⟨tFIGURES,rfl⟩,λ_ _=>.str "0123456789"⟩,⟨.int 30,_,W.mg_of X G nMOST_FIGURES,⟨tMOST_FIGURES,rfl⟩,λ_ _=>.int 30⟩,⟨.str "abcdefghijklmnopqrstuvwxyz0123456789",_,W.mg_of X G nNAME_SIGNS,⟨tNAME_SIGNS,rfl⟩,λ_ _=>.str "abcdefghijklmnopqrstuvwxyz0123456789"⟩,⟨.int 8,_,W.mg_of X G nMOST_SIGNS,⟨tMOST_SIGNS,rfl⟩,λ_ _=>.int 8⟩⟩;obtain ⟨oc,od,kV,doc,pm,an,cdv,ct,osl,rfl,lk,hcd⟩:=F0.ex;refine ⟨W.fnOf "law" "law" (pP Bv) (mq Bv) (aJ Bv) .none kV doc pm an cdv ct,λs v=>.of_eq rfl,λbase kb nb=>?_⟩;have Gis_whole:=D0.fn (P:=l.prog) (w:=w) (base:=base) λf fd F=>Gg B F;have Gcommon_divisor:=D1.fn (P:=l.prog) (w:=w) (base:=base) λf fd F=>uH B F;have Glowest:=D2.fn (P:=l.prog) (w:=w) (base:=base) λf fd F=>Oj B F Gcommon_divisor;have Gis_ratio:=D3.fn (P:=l.prog) (w:=w) (base:=base) λf fd F=>GC B F Gis_whole Gcommon_divisor;have Gplus:=D4.fn (P:=l.prog) (w:=w) (base:=base) λf fd F=>Tt B F Glowest;have Gtimes:=D5.fn (P:=l.prog) (w:=w) (base:=base) λf fd F=>Pb B F Glowest;have Gunder:=D6.fn (P:=l.prog) (w:=w) (base:=base) λf fd F=>Ox B F;have Gtotal:=D7.fn (P:=l.prog) (w:=w) (base:=base) λf fd F=>Rt B Cn F Gplus;have Gshow_ratio:=D8.fn (P:=l.prog) (w:=w) (base:=base) λf fd F=>zY B F;have Gare_figures:=D9.fn (P:=l.prog) (w:=w) (base:=base) λf fd F=>yJ B Cn F;have Gread_ratio:=D10.fn (P:=l.prog) (w:=w) (base:=base) λf fd F=>Aa B F Glowest Gshow_ratio Gare_figures;have Gis_name:=D11.fn (P:=l.prog) (w:=w) (base:=base) λf fd F=>Jj B Cn F;have Gbranches_of:=D12.fn (P:=l.prog) (w:=w) (base:=base) λf fd F=>zg B F;have Gwith_ways:=D13.fn (P:=l.prog) (w:=w) (base:=base) λf fd F=>Fi B F;have Gplaces_of:=D14.fn (P:=l.prog) (w:=w) (base:=base) λf fd F=>Er B F Gbranches_of;have Gwords_at:=D15.fn (P:=l.prog) (w:=w) (base:=base) λf fd F=>Hm B F;have Grecords_behind:=D16.fn (P:=l.prog) (w:=w) (base:=base) λf fd F=>vI B F;have Gplaces_with_records:=D17.fn (P:=l.prog) (w:=w) (base:=base) λf fd F=>pX B F Gbranches_of Gplaces_of Grecords_behind;have Grow_at:=D18.fn (P:=l.prog) (w:=w) (base:=base) λf fd F=>Mt B F Gwords_at;have Gtable_of:=D19.fn (P:=l.prog) (w:=w) (base:=base) λf fd F=>HB B F Gplaces_with_records Grow_at;have Grows_of:=D20.fn (P:=l.prog) (w:=w) (base:=base) λf fd F=>Jb B F Gtable_of;have Gare_full_shares:=D21.fn (P:=l.prog) (w:=w) (base:=base) λf fd F=>tQ B Cn F Gis_ratio Gunder Gtotal;have Gis_plan_for:=D22.fn (P:=l.prog) (w:=w) (base:=base) λf fd F=>yO B F Gare_full_shares;have Gis_plan:=D23.fn (P:=l.prog) (w:=w) (base:=base) λf fd F=>Jy B F Grows_of Gis_plan_for;have Grefuse_no_plan:=D24.fn (P:=l.prog) (w:=w) (base:=base) λf fd F=>vo B F Gis_plan;have Gshow_plan:=D25.fn (P:=l.prog) (w:=w) (base:=base) λf fd F=>Cm B F Gshow_ratio Grows_of Grefuse_no_plan;have Gread_row:=D26.fn (P:=l.prog) (w:=w) (base:=base) λf fd F=>Hy B F Gread_ratio Gis_name;have Gread_rows:=D27.fn (P:=l.prog) (w:=w) (base:=base) λf fd F=>Fb B F Gread_row;have Gread_plan:=D28.fn (P:=l.prog) (w:=w) (base:=base) λf fd F=>Cd B F Grefuse_no_plan Gread_rows;have Gopened_out:=D29.fn (P:=l.prog) (w:=w) (base:=base) λf fd F=>z9 B F Gtimes;have Gput_together:=D30.fn (P:=l.prog) (w:=w) (base:=base) λf fd F=>w5 B Cn F Gplus;have Gfolded_deal:=D31.fn (P:=l.prog) (w:=w) (base:=base) λf fd F=>zK B F Gwith_ways Gopened_out Gput_together;have Gfolded:∀n:Nat,FF l.prog w K mg base (5+n) "folded" ["game"] (cA n):=by
  intro n;induction n with
  |zero=>exact D32.fn λf fd F=>Wx
  |succ n ih=>exact D32.fn λf fd F=>M9 B F Gwith_ways Gfolded_deal n ih
 have G_law_cell_at:=D33.fn (P:=l.prog) (w:=w) (base:=base) λf fd F=>xf B F;have G_law_numbers:=D34.fn (P:=l.prog) (w:=w) (base:=base) λf fd F=>w6 B F G_law_cell_at;have G_law_names:=D35.fn (P:=l.prog) (w:=w) (base:=base) λf fd F=>z8 B F;have G_law_game:=D36.fn (P:=l.prog) (w:=w) (base:=base) λf fd F=>Dp B F G_law_names;have G_law_seen:∀n:Nat,FF l.prog w K mg base (0+n) "_law_seen" ["_law_game_here", "_law_side"] (cF n):=by
  intro n;induction n with
  |zero=>exact D37.fn λf fd F=>Wx
  |succ n ih=>exact D37.fn λf fd F=>Di B F  n ih
 have G_law_divisor:=D38.fn (P:=l.prog) (w:=w) (base:=base) λf fd F=>xg B F;have G_law_shares:=D39.fn (P:=l.prog) (w:=w) (base:=base) λf fd F=>ym B F G_law_divisor;have G_law_fraction_text:=D40.fn (P:=l.prog) (w:=w) (base:=base) λf fd F=>qH B F;have G_law_text:=D41.fn (P:=l.prog) (w:=w) (base:=base) λf fd F=>Eb B F G_law_fraction_text;have G_law_alike:=D42.fn (P:=l.prog) (w:=w) (base:=base) λf fd F=>zR B F;have G_law_told:=D43.fn (P:=l.prog) (w:=w) (base:=base) λf fd F=>DR B F Gshow_plan Gread_plan (G_law_seen 30) G_law_shares G_law_text G_law_alike;have G_law_cards:=D44.fn (P:=l.prog) (w:=w) (base:=base) λf fd F=>Ac B F Gshow_plan Gread_plan (Gfolded 12) G_law_alike;exact V5 RL (Xc B F0 Gshow_plan Gread_plan G_law_numbers G_law_game G_law_told G_law_cards)
theorem walk {l:W.OpenLaw}{q:Program}{loose:List Str}{XP:(Zp)->Heap->Prop}{YP:World->Heap->Prop}{d:DefRec}{K:Params->W.Frag}(hn:l.most=some 63)(hdf:d.params.defaults=[])
  (hY:∀(w:World) (h:Heap),YP w h->(K w.params).In h)
  (F:∀(w:World) (mg:Zp) (fa:Addr) (h:Heap),(K w.params).In h->h.Ns mainGlobals mg->mg d.name=some (.ref fa)->
   ∃fd:FuncData,(∀(s:Shared) (u:Value),BindsTo s fd ⟨[u],[]⟩ [("_law_script",u)])/\∀base:Heap,(K w.params).In base->base.Ns mainGlobals mg->cB l.prog w (K w.params) mg base (CX1 l.prog w) 32 fa fd ["_law_script"] (KY (K w.params))):
  W.WalkO q loose XP YP l.row.toRowW d [] (λf vs=>PySem.call f vs):=
 L2.Uz (n:=63) (k:=32) (x:="_law_script") (CX:=λw=>CX1 l.prog w) (sp:=λw=>KY (K w.params)) hn (by decide) hdf ⟨rfl,by decide,by decide,rfl⟩ hY F (λ_ _ a ns hl _ hS=>⟨a,ns,rfl,hS,hl,λ_=>rfl⟩) λ_ _ _ _ _ ⟨_,_,_,_,_,_,z⟩=>z.elim
end K70
namespace PySem.W.Fast
theorem tw14695256158876021869:True:=⟨⟩
theorem tw4365179012712964509:True:=⟨⟩
theorem tw10558679656484814776:True:=⟨⟩
theorem tw12199597874203576081:True:=⟨⟩
theorem tw13635639345818162129:True:=⟨⟩
theorem tw17781193101645868117:True:=⟨⟩
theorem tw573804767039049046:True:=⟨⟩
theorem tw6105852134722102974:True:=⟨⟩
theorem tw18334183255106209339:True:=⟨⟩
theorem tw2288388347593780852:True:=⟨⟩
theorem tw17169235023383561159:True:=⟨⟩
theorem tw4117056491561103937:True:=⟨⟩
theorem tw4722696046677548730:True:=⟨⟩
theorem tw5324726416297655405:True:=⟨⟩
theorem tw225676542768856828:True:=⟨⟩
theorem tw17614142483924665465:True:=⟨⟩
theorem tw16171676318508988432:True:=⟨⟩
theorem tw5424138096357982817:True:=⟨⟩
theorem tw16822312314682937984:True:=⟨⟩
theorem tw3245781265355235129:True:=⟨⟩
theorem tw1092752874623712688:True:=⟨⟩
theorem tw11538131431914679667:True:=⟨⟩
theorem tw3819057872479253220:True:=⟨⟩
theorem tw10506858324040106487:True:=⟨⟩
theorem tw7657766399908480286:True:=⟨⟩
theorem tw1025765930549115227:True:=⟨⟩
theorem tw17799263689078631631:True:=⟨⟩
theorem tw5547010125761236152:True:=⟨⟩
theorem tw10360111826528073622:True:=⟨⟩
theorem tw11653358842890660861:True:=⟨⟩
theorem tw15676290580780144868:True:=⟨⟩
theorem tw6952026511530808353:True:=⟨⟩
theorem tw1031737452660552687:True:=⟨⟩
theorem tw17500633351522202993:True:=⟨⟩
theorem tw5598621785546635304:True:=⟨⟩
theorem tw1239706100891352492:True:=⟨⟩
theorem tw2870299435693968039:True:=⟨⟩
theorem tw6952775796466479561:True:=⟨⟩
theorem tw15873170977718076136:True:=⟨⟩
theorem tw10111879474263801931:True:=⟨⟩
theorem tw12111219780133766378:True:=⟨⟩
theorem tw17913791533431602770:True:=⟨⟩
theorem tw17162658801858637207:True:=⟨⟩
theorem tw12734062292487601203:True:=⟨⟩
theorem tw8156316356361422620:True:=⟨⟩
theorem tw6925155881142888081:True:=⟨⟩
theorem tw18059082250524742353:True:=⟨⟩
theorem tw3367982837149135789:True:=⟨⟩
theorem tw15341709246610246172:True:=⟨⟩
theorem tw17678292224474752899:True:=⟨⟩
theorem tw15243947832703574958:True:=⟨⟩
theorem tw461572382196343834:True:=⟨⟩
theorem tw2723436334769023931:True:=⟨⟩
theorem tw3213372830592999874:True:=⟨⟩
theorem tw12580310228734592339:True:=⟨⟩
theorem tw15503833757834806537:True:=⟨⟩
theorem tw6051137443286003078:True:=⟨⟩
theorem tw16333033625080172493:True:=⟨⟩
theorem tw8853750834331561505:True:=⟨⟩
theorem tw3756080691991543693:True:=⟨⟩
theorem tw16303690838658106742:True:=⟨⟩
theorem tw12278016179320427868:True:=⟨⟩
theorem tw4036664504426844431:True:=⟨⟩
theorem tw12093554192696585462:True:=⟨⟩
theorem tw14456724586904250743:True:=⟨⟩
theorem tw150404068117861030:True:=⟨⟩
theorem tw3748726586851799964:True:=⟨⟩
theorem tw5546304282815805673:True:=⟨⟩
theorem tw3892951401808118187:True:=⟨⟩
theorem tw14374324544950299646:True:=⟨⟩
theorem tw11968593825681882646:True:=⟨⟩
theorem tw16503056133213727869:True:=⟨⟩
theorem tw13165507504909660233:True:=⟨⟩
theorem tw5453311714669686632:True:=⟨⟩
theorem tw15978729657770490074:True:=⟨⟩
theorem tw16839443573099186696:True:=⟨⟩
theorem tw6512295623696177022:True:=⟨⟩
theorem tw15474757684087124520:True:=⟨⟩
theorem tw14908208832789108627:True:=⟨⟩
theorem tw415967818546396609:True:=⟨⟩
theorem tw1449366903762829235:True:=⟨⟩
theorem tw17106392991264545650:True:=⟨⟩
theorem tw4120463756808766997:True:=⟨⟩
theorem tw2131471113131741561:True:=⟨⟩
theorem tw9382424291441078831:True:=⟨⟩
theorem tw1215564568189779413:True:=⟨⟩
theorem tw886359712839919222:True:=⟨⟩
theorem tw5918374538912510913:True:=⟨⟩
theorem tw14441282599872675525:True:=⟨⟩
theorem tw3672830762899028857:True:=⟨⟩
theorem tw11512409782532715680:True:=⟨⟩
theorem tw12043800889119981178:True:=⟨⟩
theorem tw4691498588496522511:True:=⟨⟩
theorem tw14405987079075348203:True:=⟨⟩
theorem tw15769500790779526071:True:=⟨⟩
theorem tw11750086042658119050:True:=⟨⟩
theorem tw9315683597960855081:True:=⟨⟩
theorem tw2855453419791147960:True:=⟨⟩
theorem tw155414413423099041:True:=⟨⟩
theorem tw9682170847691583737:True:=⟨⟩
theorem tw4317118278419107068:True:=⟨⟩
theorem tw15801441712769943533:True:=⟨⟩
theorem tw1298929050112303704:True:=⟨⟩
theorem tw6085050896633667072:True:=⟨⟩
theorem tw7360630917738887234:True:=⟨⟩
theorem tw12310427509010257973:True:=⟨⟩
theorem tw17776937086381815910:True:=⟨⟩
theorem tw12002593350244306246:True:=⟨⟩
theorem tw9859491522089165139:True:=⟨⟩
theorem tw17906524427568943167:True:=⟨⟩
theorem tw14349703656417409373:True:=⟨⟩
theorem tw3701404218218547610:True:=⟨⟩
theorem tw13205249710639151579:True:=⟨⟩
theorem tw16894485573038459304:True:=⟨⟩
theorem tw15615567750673348872:True:=⟨⟩
theorem tw3027842178668189269:True:=⟨⟩
theorem tw8362755347304379932:True:=⟨⟩
theorem tw15788574222235920556:True:=⟨⟩
theorem tw8012491049075580297:True:=⟨⟩
theorem tw16526357552624764064:True:=⟨⟩
theorem tw163091700215655165:True:=⟨⟩
theorem tw2585652718259100725:True:=⟨⟩
theorem tw8301712932545552890:True:=⟨⟩
theorem tw2272448743301181188:True:=⟨⟩
theorem tw14991093549144561265:True:=⟨⟩
theorem tw9408982352908536195:True:=⟨⟩
theorem tw12594063164444868010:True:=⟨⟩
theorem tw8734734417085243736:True:=⟨⟩
theorem tw3512535337657923926:True:=⟨⟩
theorem tw17728022154737739465:True:=⟨⟩
theorem tw10172711270436421542:True:=⟨⟩
theorem tw16564590418186816423:True:=⟨⟩
theorem tw8224528252345064132:True:=⟨⟩
theorem tw4994962405837655190:True:=⟨⟩
theorem tw1624382372522902933:True:=⟨⟩
theorem tw2308356973465144363:True:=⟨⟩
theorem tw17020446001090549386:True:=⟨⟩
theorem tw6968125691207402418:True:=⟨⟩
theorem tw13907295798111225605:True:=⟨⟩
theorem tw1045809936500594184:True:=⟨⟩
theorem tw10213185539262807431:True:=⟨⟩
theorem tw11340859308030914234:True:=⟨⟩
theorem tw8263916206711168348:True:=⟨⟩
theorem tw14266878542382676357:True:=⟨⟩
theorem tw15300364563194242236:True:=⟨⟩
theorem tw8938159155266558480:True:=⟨⟩
theorem tw6776087375938608682:True:=⟨⟩
theorem tw5277860482213140239:True:=⟨⟩
theorem tw5201571541024226389:True:=⟨⟩
theorem tw500928933220894:True:=⟨⟩
theorem tw11858068747952123905:True:=⟨⟩
theorem tw11553668071784804540:True:=⟨⟩
theorem tw11385422041984769014:True:=⟨⟩
theorem tw10815038672027348834:True:=⟨⟩
theorem tw18324218598688080669:True:=⟨⟩
theorem tw17919501910793185174:True:=⟨⟩
theorem tw1785050556232290807:True:=⟨⟩
theorem tw16597655218064036234:True:=⟨⟩
theorem tw15758820715653880783:True:=⟨⟩
theorem tw15468588037789178140:True:=⟨⟩
theorem tw14809178885850667928:True:=⟨⟩
theorem tw14346125443076001913:True:=⟨⟩
theorem tw12977112752281846318:True:=⟨⟩
theorem tw12440228466319619908:True:=⟨⟩
theorem tw7909735803175133738:True:=⟨⟩
theorem tw4251911939623393978:True:=⟨⟩
theorem tw3432005840404097059:True:=⟨⟩
theorem tw3316859671935116969:True:=⟨⟩
theorem tw3050949131519804354:True:=⟨⟩
theorem tw1918042098796728656:True:=⟨⟩
theorem tw17850255671150977843:True:=⟨⟩
theorem tw17664145305188885648:True:=⟨⟩
theorem tw1675906882018706664:True:=⟨⟩
theorem tw15918951448126675405:True:=⟨⟩
theorem tw14001056707725931934:True:=⟨⟩
theorem tw1285454764991271248:True:=⟨⟩
theorem tw12357382516604933034:True:=⟨⟩
theorem tw9679182459003046349:True:=⟨⟩
theorem tw9565625125978599816:True:=⟨⟩
theorem tw9228135421870846287:True:=⟨⟩
theorem tw883979645873752296:True:=⟨⟩
theorem tw8511248115177709593:True:=⟨⟩
theorem tw8003045287721749555:True:=⟨⟩
theorem tw7768951098278428660:True:=⟨⟩
theorem tw735934474837139204:True:=⟨⟩
theorem tw6823942537452829082:True:=⟨⟩
theorem tw6818033596083560442:True:=⟨⟩
theorem tw6753994162848289415:True:=⟨⟩
theorem tw6457987957850362188:True:=⟨⟩
theorem tw5964395160150460643:True:=⟨⟩
theorem tw5762455891411192059:True:=⟨⟩
theorem tw5738659549822135690:True:=⟨⟩
theorem tw5582396363435306860:True:=⟨⟩
theorem tw4942958730386194309:True:=⟨⟩
theorem tw4870280392236563206:True:=⟨⟩
theorem tw4835464599020224266:True:=⟨⟩
theorem tw11948849515014911455:True:=⟨⟩
theorem tw4322134805479495901:True:=⟨⟩
theorem tw12787850996714010379:True:=⟨⟩
theorem tw16463264651644490745:True:=⟨⟩
theorem tw16580786700883159541:True:=⟨⟩
theorem tw17423425676516041549:True:=⟨⟩
theorem tw7985606709015621223:True:=⟨⟩
theorem tw7385362959481363960:True:=⟨⟩
theorem tw6238348578582054719:True:=⟨⟩
theorem tw6161547220880890233:True:=⟨⟩
theorem tw1927348249474135949:True:=⟨⟩
theorem tw2595821269563887827:True:=⟨⟩
theorem tw5368670058653908893:True:=⟨⟩
theorem tw12239239006397144257:True:=⟨⟩
theorem tw16151219013400085591:True:=⟨⟩
theorem tw17815600635075133713:True:=⟨⟩
theorem tw15406161311270819776:True:=⟨⟩
theorem tw5327911876911242325:True:=⟨⟩
theorem tw8769660238552289565:True:=⟨⟩
theorem tw2872440321726464529:True:=⟨⟩
theorem tw9087896264352200648:True:=⟨⟩
theorem tw4784370017805733104:True:=⟨⟩
theorem tw1001713898659683936:True:=⟨⟩
theorem tw15174924391746128907:True:=⟨⟩
theorem tw8161026478932220630:True:=⟨⟩
theorem tw4436453604339994687:True:=⟨⟩
theorem tw4277040373489065952:True:=⟨⟩
theorem tw3940430810680994790:True:=⟨⟩
theorem tw16473841464857619899:True:=⟨⟩
theorem tw1208370184771721545:True:=⟨⟩
theorem tw12006337337068995590:True:=⟨⟩
theorem tw1200212737712822641:True:=⟨⟩
theorem tw11897594700009934855:True:=⟨⟩
theorem tw11697176460621821998:True:=⟨⟩
theorem tw11678646091266142446:True:=⟨⟩
theorem tw11660218281984004289:True:=⟨⟩
theorem tw11577146109452797688:True:=⟨⟩
theorem tw11556605927577953832:True:=⟨⟩
theorem tw11522952224669214472:True:=⟨⟩
theorem tw11481563664124425348:True:=⟨⟩
theorem tw11479396284207481527:True:=⟨⟩
theorem tw11008203618591522579:True:=⟨⟩
theorem tw10588940489679232022:True:=⟨⟩
theorem tw10258316921487788837:True:=⟨⟩
theorem tw10179169349604861805:True:=⟨⟩
theorem tw1015407989785646541:True:=⟨⟩
theorem tw10064230465519094975:True:=⟨⟩
theorem tw9901267932963492398:True:=⟨⟩
theorem tw9480989485300528782:True:=⟨⟩
theorem tw9378424815777530472:True:=⟨⟩
theorem tw905006643429163153:True:=⟨⟩
theorem tw9037757869825225787:True:=⟨⟩
theorem tw894404092267748096:True:=⟨⟩
theorem tw8838520414066850290:True:=⟨⟩
theorem tw8830829405187011551:True:=⟨⟩
theorem tw8769628082558112494:True:=⟨⟩
theorem tw8761683701940912903:True:=⟨⟩
theorem tw8564696908998071577:True:=⟨⟩
theorem tw8484827283162636046:True:=⟨⟩
theorem tw8454396742044768869:True:=⟨⟩
theorem tw8187704828716122394:True:=⟨⟩
theorem tw7840750220292278870:True:=⟨⟩
theorem tw7814566772367986755:True:=⟨⟩
theorem tw7575093087500088096:True:=⟨⟩
theorem tw7460908692446249468:True:=⟨⟩
theorem tw729830675795007610:True:=⟨⟩
theorem tw721211833939363611:True:=⟨⟩
theorem tw7187247004094528601:True:=⟨⟩
theorem tw7148677173070579571:True:=⟨⟩
theorem tw7088178751767981352:True:=⟨⟩
theorem tw6650077516030749321:True:=⟨⟩
theorem tw6140275141936231268:True:=⟨⟩
theorem tw5965275155420731307:True:=⟨⟩
theorem tw5789456614903467990:True:=⟨⟩
theorem tw5645511381376452195:True:=⟨⟩
theorem tw5462033549128524537:True:=⟨⟩
theorem tw5302184006625620578:True:=⟨⟩
theorem tw5011500766004946648:True:=⟨⟩
theorem tw4826764640744072346:True:=⟨⟩
theorem tw4022611361350488342:True:=⟨⟩
theorem tw3806295079952960526:True:=⟨⟩
theorem tw3358079833086153751:True:=⟨⟩
theorem tw3262141773019359219:True:=⟨⟩
theorem tw3147176532259495888:True:=⟨⟩
theorem tw3114349469676452660:True:=⟨⟩
theorem tw3018112874074336209:True:=⟨⟩
theorem tw2944103322428236594:True:=⟨⟩
theorem tw2032673723857662429:True:=⟨⟩
theorem tw18366698081260986457:True:=⟨⟩
theorem tw18249554260341708301:True:=⟨⟩
theorem tw17949988879227653992:True:=⟨⟩
theorem tw17681885560537514842:True:=⟨⟩
theorem tw17574086471070827036:True:=⟨⟩
theorem tw17528429798303856044:True:=⟨⟩
theorem tw17096217431657990690:True:=⟨⟩
theorem tw16972078665761865667:True:=⟨⟩
theorem tw16847296677011838857:True:=⟨⟩
theorem tw16325909685449433947:True:=⟨⟩
theorem tw16079369340109478736:True:=⟨⟩
theorem tw15755345989663510489:True:=⟨⟩
theorem tw1552211801555514548:True:=⟨⟩
theorem tw15410656825908754210:True:=⟨⟩
theorem tw14281872627797459953:True:=⟨⟩
end PySem.W.Fast
open PySem PySem.W PyProof.Rows
set_option maxRecDepth 100000 in
set_option maxHeartbeats 0 in
theorem PySem.Challenge.cw_hushduel_k70_plans_as_text_holds : PySem.Challenge.rw_hushduel_k70_plans_as_text.Holds := by
 w_on;o_law;k_head;(case hw=>w_witness2)
 k_fill
 refine K70.walk (l:=PySem.Challenge.rw_hushduel_k70_plans_as_text) rfl rfl (λw h Y=>PySem.W.kIn_of Y) ?F
 case F=>
  intro w mg fa h KX G hmg;refine' K70.all_mk KX G hmg ?_ ?_ ?_ ?_ ?_ ?_ ?_ ?_ ?_ ?_ ?_ ?_ ?_ ?_ ?_ ?_ ?_ ?_ ?_ ?_ ?_ ?_ ?_ ?_ ?_ ?_ ?_ ?_ ?_ ?_ ?_ ?_ ?_ ?_ ?_ ?_ ?_ ?_ ?_ ?_ ?_ ?_ ?_ ?_ ?_ ?_ ?_ ?_ ?_ ?_ ?_ ?_ ?_ ?_ ?_ ?_ ?_ ?_ ?_ ?_ ?_ ?_ ?_ ?_ ?_ ?_ ?_ ?_
  all_goals try first | (refine' F.qd ?a ?l ?c ?k;(case a=>k_is);(case l=>k_is);(case c=>k_is);(case k=>k_is)) | (refine' F.qm ?a ?i ?l ?c ?k;(case a=>k_is);(case i=>k_is);(case l=>k_is);(case c=>k_is);(case k=>k_is)) | k_is
