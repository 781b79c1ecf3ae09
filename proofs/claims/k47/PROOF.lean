import PyProof.Rows.All
import Wide.All
import OpenK.AllK
import Wide.FinOn
import Lean
import PyProof.EqAt
import PyProof.EqKinds
import PyProof.TupleCall
import PyProof.TupleKey
import KE.KRevSl
import PyProof.P3Eq
import KE.LcSums
import PyProof.EnumMake
import PyProof.StrWalks
import PyProof.Conv_int_bool
import KE.KIntText
import PyProof.Rows.StrNews2
import PyProof.StrBlock2
import PyProof.Rows.StrNews
import PyProof.StrLawsRepr
import PyProof.ReprStr
import PyProof.ReprRoads
import PyProof.DictIter
import PyProof.Rows.SetFrom
import KE.KDictList
import KE.KDictOf
import PyProof.AttrMissHeap
import KE.KEqDict
import PyProof.DictItems
import KE.KPairComp
import KE.IntTextText
import PyProof.StrLawsFirst
import PySem.Challenge.RW_hushduel_k47_deals_in_deals

set_option Elab.async false
set_option linter.all false
set_option maxRecDepth 100000
/-! THE HAND LAYER, for ints, bools, texts, own classes, LISTS and tuples (index, slices, in, append, pop ..), calls, loops. Paste it whole ahead of your own text; what your proof does not reach may be deleted. -/
namespace L2
open PySem PySem.Spec PyProof.Rows

/-- a key: an int or a str -/
abbrev Key := Sum Int Str
def keyIs : Key → Value → Bool
  | .inl k, v => Value.isInt k v
  | .inr x, v => Value.isStrOf x v
def keyH (w : World) : Key → Int
  | .inl k => hashInt k
  | .inr x => hashStr w x
theorem keyIs_shape : ∀ {k : Key} {v : Value}, keyIs k v = true → (∃ i t, k = Sum.inl i ∧ v = Value.int i t) ∨ (∃ x t, k = Sum.inr x ∧ v = Value.str x t)
  | .inl i, v, h => by
    obtain ⟨t, e⟩ := Value.isInt_shape (k := i) (v := v) h
    exact .inl ⟨i, t, rfl, e⟩
  | .inr x, v, h => by
    obtain ⟨t, e⟩ := Value.isStrOf_shape (x := x) (v := v) h
    exact .inr ⟨x, t, rfl, e⟩
theorem keyIs_int (i : Int) (t : Tok) : keyIs (.inl i) (.int i t) = true := by simp [keyIs, Value.isInt]
theorem keyIs_str (x : Str) (t : Tok) : keyIs (.inr x) (.str x t) = true := by simp [keyIs, Value.isStrOf]
theorem key_ll (a b : Int) : decide ((Sum.inl a : Key) = Sum.inl b) = (a == b) := by
  by_cases e : a = b
  · subst e; simp
  · have h : ¬ (Sum.inl a : Key) = Sum.inl b := fun q => e (Sum.inl.inj q)
    rw [decide_eq_false h]
    exact (beq_eq_false_iff_ne.mpr e).symm
theorem key_rr (a b : Str) : decide ((Sum.inr a : Key) = Sum.inr b) = decide (a = b) := by
  by_cases e : a = b
  · subst e; simp
  · have h : ¬ (Sum.inr a : Key) = Sum.inr b := fun q => e (Sum.inr.inj q)
    rw [decide_eq_false h, decide_eq_false e]
theorem key_lr (a : Int) (b : Str) : decide ((Sum.inl a : Key) = Sum.inr b) = false := decide_eq_false (fun q => nomatch q)
theorem key_rl (a : Str) (b : Int) : decide ((Sum.inr a : Key) = Sum.inl b) = false := decide_eq_false (fun q => nomatch q)

def mixKind (prog : Program) (w : World) : PySem.KeyKind prog w Key where
  is := keyIs
  hash := keyH w
  inj := fun v a b ha hb => by
    rcases keyIs_shape ha with ⟨i, t, rfl, rfl⟩ | ⟨x, t, rfl, rfl⟩
    · rcases keyIs_shape hb with ⟨j, u, rfl, e⟩ | ⟨y, u, rfl, e⟩
      · injection e with e1 _; rw [e1]
      · exact nomatch e
    · rcases keyIs_shape hb with ⟨j, u, rfl, e⟩ | ⟨y, u, rfl, e⟩
      · exact nomatch e
      · injection e with e1 _; rw [e1]
  byValue := fun k v h => by
    rcases keyIs_shape h with ⟨i, t, rfl, rfl⟩ | ⟨x, t, rfl, rfl⟩ <;> rfl
  pyHash := fun hv h => by
    rcases keyIs_shape hv with ⟨i, t, rfl, rfl⟩ | ⟨x, t, rfl, rfl⟩
    · exact wpAny_pyHash_int h
    · exact wpAny_pyHash_str h
  eqBool := fun hu hv h => by
    rcases keyIs_shape hu with ⟨i, t, rfl, rfl⟩ | ⟨x, t, rfl, rfl⟩
    · rcases keyIs_shape hv with ⟨j, u, rfl, rfl⟩ | ⟨y, u, rfl, rfl⟩
      · rw [key_ll] at h; exact wpAny_eqBool_int h
      · rw [key_lr] at h; exact SeqAt.EqAt.int_str i t y u _ _ _ _ h
    · rcases keyIs_shape hv with ⟨j, u, rfl, rfl⟩ | ⟨y, u, rfl, rfl⟩
      · rw [key_rl] at h; exact SeqAt.EqAt.str_int x t j u _ _ _ _ h
      · rw [key_rr] at h; exact wpAny_eqBool_str h
  «strs» := fun k x t v h => by
    rcases keyIs_shape h with ⟨i, u, rfl, e⟩ | ⟨y, u, rfl, e⟩
    · exact nomatch e
    · injection e with e1 _
      subst e1
      cases v <;> rfl

theorem mixKind_int (prog : Program) (w : World) (i : Int) (t : Tok) : (mixKind prog w).is (.inl i) (.int i t) = true := keyIs_int i t
theorem mixKind_str (prog : Program) (w : World) (x : Str) (t : Tok) : (mixKind prog w).is (.inr x) (.str x t) = true := keyIs_str x t
/-! ### keys: tuples of ints, texts and such tuples again -/
inductive Kt where
  | k (x : Key) | t (xs : List Kt)
mutual
def Kt.dec : (a b : Kt) → Decidable (a = b)
  | .k x, .k y => if h : x = y then .isTrue (by rw [h]) else .isFalse fun e => h (by injection e)
  | .t xs, .t ys => match Kt.decs xs ys with
    | .isTrue h => .isTrue (by rw [h])
    | .isFalse h => .isFalse fun e => h (by injection e)
  | .k _, .t _ => .isFalse fun e => nomatch e
  | .t _, .k _ => .isFalse fun e => nomatch e
def Kt.decs : (a b : List Kt) → Decidable (a = b)
  | [], [] => .isTrue rfl
  | [], _ :: _ => .isFalse fun e => nomatch e
  | _ :: _, [] => .isFalse fun e => nomatch e
  | x :: xs, y :: ys => match Kt.dec x y, Kt.decs xs ys with
    | .isTrue h, .isTrue g => .isTrue (by rw [h, g])
    | .isFalse h, _ => .isFalse fun e => h (by injection e)
    | _, .isFalse g => .isFalse fun e => g (by injection e)
end
instance : DecidableEq Kt := Kt.dec
mutual
def ktHash (w : World) : Kt → Int
  | .k x => keyH w x
  | .t xs => reduceHash (Builtin.Tuple.tupleHashOf (ktHashs w xs))
def ktHashs (w : World) : List Kt → List Int
  | [] => []
  | x :: xs => ktHash w x :: ktHashs w xs
end
mutual
def ktDraws : Kt → Nat
  | .k _ => 1
  | .t xs => ktDrawss xs + 1
def ktDrawss : List Kt → Nat
  | [] => 0
  | x :: xs => ktDraws x + ktDrawss xs
end
/-- what a value is, as a key, at most n tuples deep -/
def KtIs (h : Heap) : Nat → Kt → Value → Prop
  | _, .k x, v => keyIs x v = true
  | 0, .t _, _ => False
  | n + 1, .t xs, v => ∃ a o items m, v = .ref a ∧ h.get? a = some o ∧ o.cls = .type "tuple" ∧ o.data = .seq items m ∧ Paired (KtIs h n) xs items.toList
theorem ktIs_t {h : Heap} {n : Nat} {xs : List Kt} {v : Value} : KtIs h (n + 1) (.t xs) v ↔ ∃ a o items m, v = .ref a ∧ h.get? a = some o ∧ o.cls = .type "tuple" ∧ o.data = .seq items m ∧ Paired (KtIs h n) xs items.toList := by rw [KtIs]
theorem ktIs_k {h : Heap} {n : Nat} {x : Key} {v : Value} : KtIs h n (.k x) v ↔ keyIs x v = true := by cases n <;> rw [KtIs]
theorem paired_imp {α β : Type} {F G : α → β → Prop} (f : ∀ a b, F a b → G a b) : ∀ {l : List α} {m : List β}, Paired F l m → Paired G l m
  | _, _, .nil => .nil
  | _, _, .cons r t => .cons (f _ _ r) (paired_imp f t)
theorem paired_inj {α β : Type} {F : α → β → Prop} (f : ∀ x y b, F x b → F y b → x = y) : ∀ {l l' : List α} {m : List β}, Paired F l m → Paired F l' m → l = l'
  | _, _, _, .nil, .nil => rfl
  | _, _, _, .cons r t, .cons r' t' => by rw [f _ _ _ r r', paired_inj f t t']
theorem ktIs_inj {h : Heap} : ∀ (n : Nat) (x y : Kt) (v : Value), KtIs h n x v → KtIs h n y v → x = y
  | n, .k x, .k y, v, hx, hy => by
    rw [ktIs_k] at hx hy
    rcases keyIs_shape hx with ⟨i, t, rfl, rfl⟩ | ⟨z, t, rfl, rfl⟩
    · rcases keyIs_shape hy with ⟨j, u, rfl, e⟩ | ⟨y, u, rfl, e⟩
      · injection e with e1 _; rw [e1]
      · exact nomatch e
    · rcases keyIs_shape hy with ⟨j, u, rfl, e⟩ | ⟨y, u, rfl, e⟩
      · exact nomatch e
      · injection e with e1 _; rw [e1]
  | 0, .t _, _, _, hx, _ => by rw [KtIs] at hx; exact hx.elim
  | 0, .k _, .t _, _, _, hy => by rw [KtIs] at hy; exact hy.elim
  | n + 1, .k x, .t ys, v, hx, hy => by
    rw [ktIs_k] at hx
    obtain ⟨a, _, _, _, e, _⟩ := ktIs_t.mp hy
    subst e
    rcases keyIs_shape hx with ⟨_, _, _, e⟩ | ⟨_, _, _, e⟩ <;> exact nomatch e
  | n + 1, .t xs, .k y, v, hx, hy => by
    rw [ktIs_k] at hy
    obtain ⟨a, _, _, _, e, _⟩ := ktIs_t.mp hx
    subst e
    rcases keyIs_shape hy with ⟨_, _, _, e⟩ | ⟨_, _, _, e⟩ <;> exact nomatch e
  | n + 1, .t xs, .t ys, v, hx, hy => by
    obtain ⟨a, o, it, m, e, g, _, d, p⟩ := ktIs_t.mp hx
    obtain ⟨a', o', it', m', e', g', _, d', p'⟩ := ktIs_t.mp hy
    subst e
    injection e' with e'
    subst e'
    cases g.symm.trans g'
    rw [d] at d'
    injection d' with d' _
    subst d'
    rw [paired_inj (ktIs_inj n) p p']
theorem ktIs_keeps {h h' : Heap} {d : Addr} {o : Obj} {es ep} (ho : h.get? d = some o) (hd : o.data = .dict es ep) (hs : Heap.SameBut d h h') : ∀ (n : Nat) (x : Kt) (v : Value), KtIs h n x v → KtIs h' n x v
  | n, .k x, v, hx => by rw [ktIs_k] at hx ⊢; exact hx
  | 0, .t _, _, hx => by rw [KtIs] at hx; exact hx.elim
  | n + 1, .t xs, v, hx => by
    obtain ⟨a, o', it, m, e, g, c, dd, p⟩ := ktIs_t.mp hx
    have ne : a ≠ d := by
      rintro rfl
      cases g.symm.trans ho
      rw [hd] at dd
      cases dd
    exact ktIs_t.mpr ⟨a, o', it, m, e, (hs.2 a ne).trans g, c, dd, paired_imp (ktIs_keeps ho hd hs n) p⟩
section
variable {pr : Program} {wo : World} {E : Value → Shared → Prop}
theorem ktHashs_map (w : World) : ∀ xs : List Kt, ktHashs w xs = xs.map (ktHash w)
  | [] => by rw [ktHashs]; rfl
  | x :: xs => by rw [ktHashs, ktHashs_map w xs]; rfl
theorem ktDrawss_app : ∀ xs ys : List Kt, ktDrawss (xs ++ ys) = ktDrawss xs + ktDrawss ys
  | [], ys => by rw [List.nil_append, ktDrawss, Nat.zero_add]
  | x :: xs, ys => by rw [List.cons_append, ktDrawss, ktDrawss, ktDrawss_app xs ys, Nat.add_assoc]
theorem ktDrawss_one (x : Kt) : ktDrawss [x] = ktDraws x := by rw [ktDrawss, ktDrawss, Nat.add_zero]
theorem ktHash_is : ∀ (n : Nat) {A : Around} {s : Shared} {x : Kt} {v : Value} {Q : Int → Shared → Prop}, A.units + n < cLine → KtIs s.heap n x v → Q (ktHash wo x) { s with toks := s.toks + ktDraws x } → wpAny (model pr wo) A (pyHash v) Q E s
  | n, A, s, .k x, v, Q, hu, hx, q => by
    rw [ktIs_k] at hx
    rw [ktHash, ktDraws] at q
    exact (mixKind pr wo).pyHash hx q
  | 0, _, _, .t _, _, _, _, hx, _ => by rw [KtIs] at hx; exact hx.elim
  | n + 1, A, s, .t xs, v, Q, hu, hx, h => by
    obtain ⟨a, o, items, m, e, ho, hc, hd, hi⟩ := ktIs_t.mp hx
    subst e
    have hT : s.TypeIs (.ref a) "tuple" := ⟨o, ho, hc⟩
    rw [ktHash, ktDraws] at h
    unfold pyHash
    first | unfold pyHashByItsType | skip
    first | refine wpAny_bind (wpAny_cRoomFor_or (.inr (by omega)) ?_) | skip
    refine wpAny_bind (wpAny_specialOf hT PySem.F.slot_tuple_hash.lookup ?_)
    show wpAny _ _ (if (some (Value.builtin "tuple.__hash__") == some Value.none) = true then _ else _) Q E s
    rw [if_neg (by rw [beq_builtin_none]; exact Bool.false_ne_true)]
    refine wpAny_bind (wpAny_specialOf hT PySem.F.slot_tuple_hash.lookup ?_)
    show wpAny _ _ (callSpecialIfBoundUnlessNone? (.ref a) "__hash__" _ >>= _) Q E s
    refine wpAny_bind (wpAny_callSpecialIfBoundUnlessNone?_slot hT PySem.F.slot_tuple_hash (wpAny_call_entry PySem.F.slot_tuple_hash hT PySem.F.entry_tuple_hash ?_ (PySem.F.args_tuple_hash_1 _)))
    show wpAny _ _ (Builtin.Tuple.tupleItemsOf (.ref a) >>= _) _ _ s
    refine wpAny_bind (wpAny_tupleItemsOf ho hd ?_)
    refine wpAny_bind ?_
    rw [← Array.forIn_toList]
    refine wpAny_forIn_list _
      (fun rest (b : Array Int) s' => ∃ done left, xs = done ++ left ∧ Paired (KtIs s.heap n) left rest ∧ b.toList = done.map (ktHash wo) ∧ s' = { s with toks := s.toks + ktDrawss done })
      _ ?_ ?_ _ _ ⟨[], xs, rfl, hi, rfl, by rw [ktDrawss]; rfl⟩
    · rintro x rest b s' ⟨done, left, rfl, hl, hb, rfl⟩
      cases hl with
      | @cons k _ ks' _ h1 hl' =>
        refine wpAny_bind (ktHash_is n (A := A.in1) (show A.units + 1 + n < cLine by omega) (s := { s with toks := s.toks + ktDrawss done }) h1 ?_)
        refine wpAny_pure ⟨done ++ [k], ks', by simp, hl', by simp [hb], ?_⟩
        rw [ktDrawss_app, ktDrawss_one, Nat.add_assoc]
    · rintro b s' ⟨done, left, rfl, hl, hb, rfl⟩
      cases hl
      rw [List.append_nil] at h
      show wpAny _ _ (retInt (Builtin.Tuple.tupleHashOf b.toList)) _ _ _
      rw [hb, ← ktHashs_map]
      refine wpAny_ret_mkInt ?_
      show wpAny _ _ (if (decide (-(2 : Int) ^ 63 ≤ Builtin.Tuple.tupleHashOf (ktHashs wo done)) && decide (Builtin.Tuple.tupleHashOf (ktHashs wo done) < 2 ^ 63)) = true then _ else _) Q E _
      unfold reduceHash at h
      by_cases hr : (decide (-(2 : Int) ^ 63 ≤ Builtin.Tuple.tupleHashOf (ktHashs wo done)) && decide (Builtin.Tuple.tupleHashOf (ktHashs wo done) < 2 ^ 63)) = true
      · rw [if_pos hr]
        rw [if_pos hr] at h
        exact wpAny_pure (by simpa [Nat.add_assoc] using h)
      · rw [if_neg hr]
        rw [if_neg hr] at h
        exact wpAny_bind (wpAny_rule (wpAny_pure (by simpa [Nat.add_assoc] using h)))
def ktPair (xs ys : List Kt) (j : Nat) : Bool := match xs[j]?, ys[j]? with
  | some x, some y => decide (x = y)
  | _, _ => true
theorem ktPair_all : ∀ xs ys : List Kt, ((List.range (min xs.length ys.length)).all (ktPair xs ys) && xs.length == ys.length) = decide (xs = ys)
  | [], [] => by simp
  | [], _ :: _ => by simp
  | _ :: _, [] => by simp
  | x :: xs, y :: ys => by
    have ih := ktPair_all xs ys
    rw [List.length_cons, List.length_cons, Nat.succ_min_succ, List.range_succ_eq_map, List.all_cons, List.all_map]
    have e : (ktPair (x :: xs) (y :: ys) ∘ Nat.succ) = ktPair xs ys := by funext j; simp [ktPair]
    rw [e]
    have e0 : ktPair (x :: xs) (y :: ys) 0 = decide (x = y) := by simp [ktPair]
    rw [e0, Bool.and_assoc]
    have e1 : ((xs.length + 1 == ys.length + 1) : Bool) = (xs.length == ys.length) := by simp
    rw [e1, ih]
    by_cases a : x = y <;> by_cases b : xs = ys <;> simp [a, b]
theorem paired_at {α β : Type} {F : α → β → Prop} : ∀ {l : List α} {m : List β} (j : Nat) (h : j < m.length), Paired F l m → ∃ a, l[j]? = some a ∧ F a m[j]
  | _, _, j, h, .nil => absurd h (Nat.not_lt_zero _)
  | _, _, 0, _, .cons r _ => ⟨_, rfl, r⟩
  | _, _, j + 1, h, .cons _ t => by
    obtain ⟨a, h1, h2⟩ := paired_at j (by simpa using h) t
    exact ⟨a, by simpa using h1, by simpa using h2⟩
theorem ktEq_is : ∀ (n : Nat) (A : Around) (s : Shared) (x y : Kt) (v u : Value), A.units + n < cLine → KtIs s.heap n x v → KtIs s.heap n y u → SeqAt.EqAt A s v u (decide (x = y))
  | n, A, s, .k x, .k y, v, u, hu, hx, hy => by
    rw [ktIs_k] at hx hy
    intro pr wo E Q q
    refine (mixKind pr wo).eqBool (a := x) (b := y) hx hy ?_
    have e : decide (Kt.k x = Kt.k y) = decide (x = y) := decide_eq_decide.mpr ⟨fun e => by injection e, fun e => by rw [e]⟩
    rw [← e]
    exact q
  | 0, _, _, .t _, _, _, _, _, hx, _ => by rw [KtIs] at hx; exact hx.elim
  | 0, _, _, .k _, .t _, _, _, _, _, hy => by rw [KtIs] at hy; exact hy.elim
  | n + 1, A, s, .k x, .t ys, v, u, hu, hx, hy => by
    rw [ktIs_k] at hx
    obtain ⟨a, o, it, m, e, g, c, d, _⟩ := ktIs_t.mp hy
    subst e
    have hl : s.heap.IsTuple a it := ⟨o, g, c, m, d⟩
    rw [show decide (Kt.k x = Kt.t ys) = false from decide_eq_false fun e => nomatch e]
    rcases keyIs_shape hx with ⟨i, t, rfl, rfl⟩ | ⟨z, t, rfl, rfl⟩
    · exact SeqAt.EqAt.int_tuple i t hl (by omega)
    · exact SeqAt.EqAt.str_tuple z t hl (by omega)
  | n + 1, A, s, .t xs, .k y, v, u, hu, hx, hy => by
    rw [ktIs_k] at hy
    obtain ⟨a, o, it, m, e, g, c, d, _⟩ := ktIs_t.mp hx
    subst e
    have hl : s.heap.IsTuple a it := ⟨o, g, c, m, d⟩
    rw [show decide (Kt.t xs = Kt.k y) = false from decide_eq_false fun e => nomatch e]
    rcases keyIs_shape hy with ⟨i, t, rfl, rfl⟩ | ⟨z, t, rfl, rfl⟩
    · exact SeqAt.EqAt.tuple_int i t hl (by omega)
    · exact SeqAt.EqAt.tuple_str z t hl (by omega)
  | n + 1, A, s, .t xs, .t ys, v, u, hu, hx, hy => by
    have hx' := hx
    have hy' := hy
    obtain ⟨a, o, it, m, e, g, c, d, p⟩ := ktIs_t.mp hx
    obtain ⟨a', o', it', m', e', g', c', d', p'⟩ := ktIs_t.mp hy
    subst e e'
    by_cases ne : a = a'
    · subst ne
      rw [ktIs_inj _ _ _ _ hx' hy', decide_eq_true rfl]
      exact SeqAt.EqAt.same _
    · have hl : s.heap.IsTuple a it := ⟨o, g, c, m, d⟩
      have hl' : s.heap.IsTuple a' it' := ⟨o', g', c', m', d'⟩
      have n1 : it.size = xs.length := by have := Paired.length p; simpa using this.symm
      have n2 : it'.size = ys.length := by have := Paired.length p'; simpa using this.symm
      have e2 : decide (Kt.t xs = Kt.t ys) = decide (xs = ys) := decide_eq_decide.mpr ⟨fun e => by injection e, fun e => by rw [e]⟩
      rw [e2, ← ktPair_all xs ys, ← n1, ← n2]
      refine SeqAt.EqAt.of_refs ne (SeqAt.RcAt.tuples hl hl' (by omega) fun j j1 j2 => ?_)
      obtain ⟨b, q1, q2⟩ := paired_at j (by simpa using j1) p
      obtain ⟨b', r1, r2⟩ := paired_at j (by simpa using j2) p'
      have : ktPair xs ys j = decide (b = b') := by unfold ktPair; rw [q1, r1]
      rw [this]
      exact ktEq_is n A.in1 s b b' _ _ (show A.units + 1 + n < cLine by omega) (by simpa using q2) (by simpa using r2)
theorem ktQuiet : ∀ (n : Nat) {A : Around} {s : Shared} {x : Kt} {v : Value} {Q : Bool → Shared → Prop}, KtIs s.heap n x v → Q true s → wpAny (model pr wo) A (eqIsQuiet n v) Q E s
  | n, A, s, .k x, v, Q, hx, q => by
    rw [ktIs_k] at hx
    rw [eqIsQuiet_byValue _ ((mixKind pr wo).byValue _ _ hx)]
    exact wpAny_pure q
  | 0, _, _, .t _, _, _, hx, _ => by rw [KtIs] at hx; exact hx.elim
  | n + 1, A, s, .t xs, v, Q, hx, h => by
    obtain ⟨a, o, items, m, e, ho, hc, hd, hi⟩ := ktIs_t.mp hx
    subst e
    have hT : s.TypeIs (.ref a) "tuple" := ⟨o, ho, hc⟩
    unfold eqIsQuiet
    refine wpAny_bind (wpAny_specialOf hT PySem.F.slot_tuple_eq.lookup ?_)
    show wpAny _ _ (isInstance (.ref a) (.type "tuple") >>= _) _ _ s
    refine wpAny_bind (wpAny_isInstance hT isSubtype_tuple_tuple ?_)
    simp only [Bool.not_true, Bool.false_eq_true, if_false]
    refine wpAny_bind (wpAny_seqItems ho hd (wpAny_bind ?_))
    show wpAny _ _ (forIn items _ _) _ _ s
    rw [← Array.forIn_toList]
    refine wpAny_forIn_list _ (fun rest r s' => r.1 = none ∧ s' = s ∧ ∃ ks, Paired (KtIs s.heap n) ks rest) _ ?_ ?_ _ _ ⟨rfl, rfl, xs, hi⟩
    · rintro v rest r s' ⟨hr, rfl, ks, al⟩
      cases al with
      | cons h1 al' =>
        refine wpAny_bind (ktQuiet n h1 ?_)
        simp only [Bool.not_true, Bool.false_eq_true, if_false]
        exact wpAny_pure ⟨rfl, rfl, _, al'⟩
    · rintro ⟨r1, r2⟩ s' ⟨hr, rfl, _⟩
      simp only at hr
      subst hr
      exact wpAny_pure h
end
/-- a tuple as a key, at most eight deep -/
def treeKind (pr : Program) (wo : World) : HeapKind pr wo (List Kt) where
  is := fun h ks a => KtIs h 8 (.t ks) (.ref a)
  hash := fun ks => ktHash wo (.t ks)
  draws := fun ks => ktDraws (.t ks)
  room := fun A => A.units + 8 < cLine
  inj := fun a b => by have := ktIs_inj _ _ _ _ a b; injection this
  keeps := fun x a b c => ktIs_keeps a b c _ _ _ x
  pyHash := fun a b c => ktHash_is 8 a b c
  eqBool := fun {A E s x y a b Q} h1 h2 h3 h4 => by
    refine ktEq_is 8 A s _ _ _ _ h1 h2 h3 _ _ _ _ ?_
    rw [show decide (Kt.t x = Kt.t y) = decide (x = y) from decide_eq_decide.mpr ⟨fun e => by injection e, fun e => by rw [e]⟩]
    exact h4
  quiet := fun a b => ktQuiet 8 a b
end L2

namespace L2
open PySem PySem.Spec PyProof.Rows

/-- a value, without the heap -/
inductive V where
  | non | bl (b : Bool) | int (i : Int) | str (x : Str) | byt (b : Array UInt8) | flt (b : UInt64) | ref (a : Addr) | ty (n : String)
  deriving DecidableEq

def RelV : V → Value → Prop
  | .non, u => u = Value.none
  | .bl b, u => u = Value.bool b
  | .int i, u => ∃ t, u = Value.int i t
  | .str x, u => ∃ t, u = Value.str x t
  | .byt b, u => ∃ t, u = Value.bytes b t
  | .flt b, u => ∃ t, u = Value.float b t
  | .ref a, u => u = Value.ref a
  | .ty n, u => u = Value.type n

abbrev Vals : List V → List Value → Prop := Paired RelV
theorem Vals.length {xs : List V} {us : List Value} (r : Vals xs us) : xs.length = us.length := Paired.length r
theorem Vals.get : ∀ {xs : List V} {us : List Value} {i : Nat} {x : V}, Vals xs us → xs[i]? = some x → ∃ u, us[i]? = some u ∧ RelV x u
  | _, _, _, _, .nil, e => by simp at e
  | _, _, 0, _, .cons r _, e => by simp at e; subst e; exact ⟨_, rfl, r⟩
  | _, _, i + 1, x, .cons _ t, e => by
    obtain ⟨u, h1, h2⟩ := Vals.get (i := i) (x := x) t (by simpa using e)
    exact ⟨u, by simpa using h1, h2⟩
theorem Vals.set {x : V} {u : Value} (r : RelV x u) : ∀ {xs : List V} {us : List Value} (i : Nat), Vals xs us → Vals (xs.set i x) (us.set i u)
  | _, _, _, .nil => .nil
  | _, _, 0, .cons _ t => .cons r t
  | _, _, i + 1, .cons q t => .cons q (Vals.set r i t)
theorem Vals.append : ∀ {xs ys : List V} {us ws : List Value}, Vals xs us → Vals ys ws → Vals (xs ++ ys) (us ++ ws)
  | _, _, _, _, .nil, s => s
  | _, _, _, _, .cons r t, s => .cons r (Vals.append t s)
theorem Vals.take : ∀ {xs : List V} {us : List Value} (n : Nat), Vals xs us → Vals (xs.take n) (us.take n)
  | _, _, 0, _ => .nil
  | _, _, _ + 1, .nil => .nil
  | _, _, n + 1, .cons r t => .cons r (Vals.take n t)
theorem Vals.drop : ∀ {xs : List V} {us : List Value} (n : Nat), Vals xs us → Vals (xs.drop n) (us.drop n)
  | _, _, 0, r => r
  | _, _, _ + 1, .nil => .nil
  | _, _, n + 1, .cons _ t => Vals.drop n t
def RelO : Option V → Option Value → Prop
  | some v, some u => RelV v u
  | none, none => True
  | _, _ => False
def KV {κ : Type} : List (κ × V) → List (κ × Value) → Prop := Paired fun (p : κ × V) (q : κ × Value) => p.1 = q.1 ∧ RelV p.2 q.2

/-- a key of a dict (00_mix): an int or a text -/
def kV : Key → V
  | .inl i => .int i
  | .inr x => .str x

/-- what stands at a tracked address -/
inductive HO where
  /-- a list -/
  | lst (xs : List V)
  /-- a tuple (never changes) -/
  | tup (xs : List V)
  /-- a dict whose keys are ints and texts; one whose keys are tuples of ints and texts (the empty one is both) -/
  | dK (kvs : List (Key × V)) | dT (T : Addr → List V → Prop) (kvs : List (List Kt × V))
  /-- a set of ints: its members, its size -/
  | set (S : Int → Bool) (n : Nat)
  /-- an instance of the class at C, its dict at dx, its attributes -/
  | ins (C dx : Addr) (fs : List (Str × V))
  /-- the dict of the instance at x -/
  | own (x : Addr)
  /-- the dict of an exception -/
  | xd (fs : List (Str × V))
  /-- a bound method, f of x -/
  | met (f x : Addr)
  /-- a range object lo, lo + 1, .. below hi -/
  | rng (lo hi : Int)
  /-- a thing that is known to the object (the script; a dict while a loop walks it): read, never written while it is so -/
  | frz (o : Obj) (u : HO)
  /-- a code object's table -/
  | tbl (ps : Array Value)
  /-- any other thing, by what is true of its one object (a def of one's own: SetO a S n := HO.ext fun h => ..) -/
  | ext (φ : Heap → Prop)

abbrev Hp := Addr → Option HO
def upd (H : Hp) (a : Addr) (o : HO) : Hp := fun b => if b = a then some o else H b
theorem upd_same {H : Hp} {a : Addr} {o : HO} : upd H a o a = some o := by unfold upd; rw [if_pos rfl]
theorem upd_ne {H : Hp} {a b : Addr} {o : HO} (h : b ≠ a) : upd H a o b = H b := by unfold upd; rw [if_neg h]
/-- two objects of different content stand apart -/
theorem ne_of {H : Hp} {a b : Addr} {o u : HO} (h : H a = some o) (h' : H b = some u) (d : o ≠ u) : a ≠ b := by
  intro e; subst e; rw [h] at h'; exact d (Option.some.inj h')
theorem ne_of_none {H : Hp} {a b : Addr} {o : HO} (h : H a = some o) (h' : H b = none) : a ≠ b := by
  intro e; subst e; rw [h] at h'; cases h'

mutual
/-- a tuple of ints, texts and such tuples -/
inductive KtAt (T : Addr → List V → Prop) (H : Hp) : Nat → V → Kt → Prop where
  | k {n : Nat} {x : Key} : KtAt T H n (kV x) (.k x)
  | t {n : Nat} {b : Addr} {vs : List V} {ks : List Kt} : (H b = some (.tup vs) ∨ T b vs) → KtsAt T H n vs ks → KtAt T H (n + 1) (.ref b) (.t ks)
inductive KtsAt (T : Addr → List V → Prop) (H : Hp) : Nat → List V → List Kt → Prop where
  | nil {n : Nat} : KtsAt T H n [] []
  | cons {n : Nat} {v : V} {vs : List V} {k : Kt} {ks : List Kt} : KtAt T H n v k → KtsAt T H n vs ks → KtsAt T H n (v :: vs) (k :: ks)
end
def TrT (T : Addr → List V → Prop) (H : Hp) (b : Addr) (ks : List Kt) : Prop := ∃ vs, (H b = some (.tup vs) ∨ T b vs) ∧ KtsAt T H 7 vs ks
section
variable {T : Addr → List V → Prop} {H H' : Hp}
mutual
theorem KtAt.imp (ht : ∀ b xs, H b = some (.tup xs) → H' b = some (.tup xs)) : ∀ {n : Nat} {v : V} {k : Kt}, KtAt T H n v k → KtAt T H' n v k
  | _, _, _, .k => .k
  | _, _, _, .t h hs => .t (h.imp (ht _ _) id) (KtsAt.imp ht hs)
theorem KtsAt.imp (ht : ∀ b xs, H b = some (.tup xs) → H' b = some (.tup xs)) : ∀ {n : Nat} {vs : List V} {ks : List Kt}, KtsAt T H n vs ks → KtsAt T H' n vs ks
  | _, _, _, .nil => .nil
  | _, _, _, .cons h hs => .cons (KtAt.imp ht h) (KtsAt.imp ht hs)
end
theorem TrT.imp {b : Addr} {ks : List Kt} (h : TrT T H b ks) (ht : ∀ b xs, H b = some (.tup xs) → H' b = some (.tup xs)) : TrT T H' b ks :=
  let ⟨vs, h1, h2⟩ := h; ⟨vs, h1.imp (ht _ _) id, h2.imp ht⟩
end
section
variable (P : Program) (w : World)
def ObjOk (H : Hp) (h : Heap) (a : Addr) : HO → Prop
  | .lst xs => xs.length ≤ sizeLine ∧ ∃ (its : List Value) (n : Nat), Vals xs its ∧ h.get? a = some { cls := .type "list", data := .seq its.toArray n }
  | .tup xs => xs.length ≤ sizeLine ∧ ∃ its : List Value, Vals xs its ∧ IsTup h a its.toArray
  | .dK kvs => kvs.length ≤ sizeLine ∧ (a == sysModules) = false ∧ ∃ vs, KV kvs vs ∧ h.DictOf (mixKind P w) a vs
  | .dT T kvs => kvs.length ≤ sizeLine ∧ (a == sysModules) = false ∧ ∃ xs : List (List Kt × Addr × Value),
      Paired (fun (p : List Kt × V) (q : List Kt × Addr × Value) => p.1 = q.1 ∧ TrT T H q.2.1 p.1 ∧ RelV p.2 q.2.2) kvs xs ∧
      ∃ o es ep, h.get? a = some o ∧ o.ExactDict ∧ o.data = .dict es ep ∧ es.toList = xs.map (entryOfKey (treeKind P w)) ∧ (xs.map (·.1)).Nodup
  | .set S n => h.SetOf (intKind P w) a S n
  | .ins C dx fs => H dx = some (.own a) ∧ fs.length ≤ 1000 ∧ dx ≠ a ∧ h.get? a = some (PySem.W.instObj C dx) ∧
      ∃ mA, h.Ns1 dx mA ∧ (∀ f, RelO (fs.lookup f) (mA f)) ∧ PySem.Within mA (fs.map (·.1))
  | .own _ => ∃ o, h.get? a = some o
  | .xd fs => ∃ mA, h.Ns1 a mA ∧ ∀ f, RelO (fs.lookup f) (mA f)
  | .rng lo hi => ∃ t u v, h.get? a = some { cls := .type "range", data := .fields #[.int lo t, .int hi u, .int 1 v] }
  | .frz o u => h.get? a = some o ∧ ObjOk H h a u
  | .tbl ps => h.get? a = some { cls := .none, data := .fields ps }
  | .met f x => h.get? a = some (PySem.W.methodObj (.ref f) (.ref x))
  | .ext φ => φ h ∧ (∃ o, h.get? a = some o) ∧ ∀ h1 h2 : Heap, φ h1 → (∀ o, h1.get? a = some o → h2.get? a = some o) → φ h2
/-- the abstract heap is held -/
def HOk (H : Hp) (h : Heap) : Prop := ∀ a o, H a = some o → ObjOk P w H h a o
end

section
variable {P : Program} {w : World} {H H' : Hp} {h h' : Heap} {a : Addr} {o : HO}
theorem ObjOk.lt (x : ObjOk P w H h a o) : a < h.objs.size := by
  cases o with
  | lst xs => obtain ⟨_, _, _, _, e⟩ := x; exact Heap.lt_size e
  | tup xs => obtain ⟨_, _, _, p⟩ := x; exact p.lt
  | dK kvs => obtain ⟨_, _, _, _, o, _, _, e, _⟩ := x; exact Heap.lt_size e
  | dT T kvs => obtain ⟨_, _, _, _, o, _, _, e, _⟩ := x; exact Heap.lt_size e
  | set S n => obtain ⟨o, _, _, _, e, _⟩ := x; exact Heap.lt_size e
  | ins C dx fs => obtain ⟨_, _, _, e, _⟩ := x; exact Heap.lt_size e
  | own y => obtain ⟨_, e⟩ := x; exact Heap.lt_size e
  | xd fs => obtain ⟨_, ⟨_, _, _, e, _⟩, _⟩ := x; exact Heap.lt_size e
  | rng lo hi => obtain ⟨_, _, _, e⟩ := x; exact Heap.lt_size e
  | frz ob u => obtain ⟨e, _⟩ := x; exact Heap.lt_size e
  | tbl ps => exact Heap.lt_size (show h.get? a = some _ from x)
  | met f y => exact Heap.lt_size (show h.get? a = some _ from x)
  | ext φ => obtain ⟨_, ⟨_, e⟩, _⟩ := x; exact Heap.lt_size e
theorem Paired.mapP {α β : Type} {F G : α → β → Prop} : ∀ {l₁ : List α} {l₂ : List β}, Paired F l₁ l₂ → (∀ a b, F a b → G a b) → Paired G l₁ l₂
  | _, _, .nil, _ => .nil
  | _, _, .cons r t, f => .cons (f _ _ r) (Paired.mapP t f)
/-- what an object's description leans on: its own object, its own dict, the tuples -/
theorem ObjOk.stay (x : ObjOk P w H h a o) (k : ∀ b u, (b = a ∨ H b = some (.own a)) → h.get? b = some u → h'.get? b = some u)
    (ho : ∀ b, H b = some (.own a) → H' b = some (.own a)) (ht : ∀ b xs, H b = some (.tup xs) → H' b = some (.tup xs)) : ObjOk P w H' h' a o := by
  induction o with
  | lst xs => obtain ⟨z, its, n, r, e⟩ := x; exact ⟨z, its, n, r, k _ _ (.inl rfl) e⟩
  | tup xs => obtain ⟨z, its, r, ob, e, c⟩ := x; exact ⟨z, its, r, ob, k _ _ (.inl rfl) e, c⟩
  | dK kvs => obtain ⟨z, y, vs, r, ob, es, ep, e, c⟩ := x; exact ⟨z, y, vs, r, ob, es, ep, k _ _ (.inl rfl) e, c⟩
  | dT T kvs =>
    obtain ⟨z, y, xs, r, ob, es, ep, e, c⟩ := x
    exact ⟨z, y, xs, Paired.mapP r fun p q z => ⟨z.1, z.2.1.imp ht, z.2.2⟩, ob, es, ep, k _ _ (.inl rfl) e, c⟩
  | set S n => obtain ⟨ob, es, ep, t, e, c⟩ := x; exact ⟨ob, es, ep, t, k _ _ (.inl rfl) e, c⟩
  | ins C dx fs =>
    obtain ⟨d, z, ne, e, mA, ⟨od, es, ep, e2, c⟩, r⟩ := x
    exact ⟨ho _ d, z, ne, k _ _ (.inl rfl) e, mA, ⟨od, es, ep, k _ _ (.inr d) e2, c⟩, r⟩
  | own y => obtain ⟨ob, e⟩ := x; exact ⟨ob, k _ _ (.inl rfl) e⟩
  | xd fs => obtain ⟨mA, ⟨od, es, ep, e, c⟩, r⟩ := x; exact ⟨mA, ⟨od, es, ep, k _ _ (.inl rfl) e, c⟩, r⟩
  | rng lo hi => obtain ⟨t, u, v, e⟩ := x; exact ⟨t, u, v, k _ _ (.inl rfl) e⟩
  | frz ob u ih => obtain ⟨e, q⟩ := x; exact ⟨k _ _ (.inl rfl) e, ih q⟩
  | tbl ps =>
    have e : h.get? a = some { cls := .none, data := .fields ps } := x
    show h'.get? a = some { cls := .none, data := .fields ps }
    exact k a _ (.inl rfl) e
  | met f y =>
    have e : h.get? a = some (PySem.W.methodObj (.ref f) (.ref y)) := x
    show h'.get? a = some (PySem.W.methodObj (.ref f) (.ref y))
    exact k a _ (.inl rfl) e
  | ext φ => obtain ⟨p, ⟨o, e⟩, st⟩ := x; exact ⟨st _ _ p fun o q => k _ _ (.inl rfl) q, ⟨o, k _ _ (.inl rfl) e⟩, st⟩
theorem HOk.lt (x : HOk P w H h) (e : H a = some o) : a < h.objs.size := (x a o e).lt
theorem HOk.fresh (x : HOk P w H h) (e : h.objs.size ≤ a) : H a = none := by
  cases q : H a with
  | none => rfl
  | some u => exact absurd (Nat.lt_of_lt_of_le (x.lt q) e) (Nat.lt_irrefl _)
/-- every object of the heap is kept -/
theorem HOk.kept (x : HOk P w H h) (k : ∀ b u, h.get? b = some u → h'.get? b = some u) : HOk P w H h' := fun a o e =>
  (x a o e).stay (fun b u _ q => k b u q) (fun _ q => q) fun _ _ q => q
/-- a new object is laid and tracked -/
theorem HOk.laid (x : HOk P w H h) (k : ∀ b u, h.get? b = some u → h'.get? b = some u) (hp : h.objs.size ≤ a) (new : ObjOk P w (upd H a o) h' a o) : HOk P w (upd H a o) h' := fun b u e => by
  have hn := x.fresh hp
  by_cases hb : b = a
  · subst hb; rw [upd_same] at e; cases e; exact new
  · rw [upd_ne hb] at e
    exact (x b u e).stay (fun c v _ q => k c v q) (fun c q => by rw [upd_ne (ne_of_none q hn)]; exact q) fun c xs q => by rw [upd_ne (ne_of_none q hn)]; exact q
end

/-- what may be read as u: it is u, or a known u -/
def Rd (H : Hp) (a : Addr) (u : HO) : Prop := H a = some u ∨ ∃ o, H a = some (.frz o u)
theorem Rd.of {H : Hp} {a : Addr} {u : HO} (h : H a = some u) : Rd H a u := .inl h
theorem Rd.ok {P : Program} {w : World} {H : Hp} {h : Heap} {a : Addr} {u : HO} (r : Rd H a u) (x : HOk P w H h) : ObjOk P w H h a u := by
  rcases r with r | ⟨o, r⟩
  · exact x a u r
  · obtain ⟨_, q⟩ := x a _ r
    exact q
/-- what may be written -/
def Mut : Option HO → Prop
  | some (.lst _) => True
  | some (.dK _) => True
  | some (.dT _ _) => True
  | some (.set _ _) => True
  | some (.ins _ _ _) => True
  | some (.ext _) => True
  | _ => False
section
variable {P : Program} {w : World} {H : Hp} {h h' : Heap} {x e : Addr} {o' : HO}
/-- the object at e is changed: x itself, or the dict of the instance x -/
theorem HOk.write (ok : HOk P w H h) (mu : Mut (H x)) (he : e = x ∨ H e = some (.own x)) (k : ∀ b u, b ≠ e → h.get? b = some u → h'.get? b = some u) (heo : ∃ u, h'.get? e = some u)
    (new : ObjOk P w (upd H x o') h' x o') : HOk P w (upd H x o') h' := fun b u q => by
  have nown : ∀ c y, H c = some (.own y) → c ≠ x := fun c y r z => by subst z; rw [r] at mu; exact mu
  have ntup : ∀ c xs, H c = some (.tup xs) → c ≠ x := fun c xs r z => by subst z; rw [r] at mu; exact mu
  by_cases hb : b = x
  · subst hb; rw [upd_same] at q; cases q; exact new
  · rw [upd_ne hb] at q
    by_cases hbe : b = e
    · have q' : H b = some (.own x) := by
        rcases he with z | z
        · exact absurd (hbe.trans z) hb
        · rw [hbe]; exact z
      rw [q] at q'; cases q'
      obtain ⟨v, hv⟩ := heo
      exact ⟨v, by rw [hbe]; exact hv⟩
    · refine (ok b u q).stay (fun c v hc r => k c v ?_ r) (fun c r => by rw [upd_ne (nown c b r)]; exact r) fun c xs r => by rw [upd_ne (ntup c xs r)]; exact r
      rcases hc with rfl | hc
      · exact hbe
      · rintro rfl
        rcases he with z | z
        · exact nown c b hc z
        · rw [hc] at z; cases z; exact hb rfl
end

/-! ### kept unless tracked; of the frames at fs (the callers') the slots may change (an exception that passes writes there); of the records at ex (iterators) nothing is said -/
structure Un (fs ex : List Addr) (H H' : Hp) (h h' : Heap) : Prop where
  keep : ∀ b o, h.get? b = some o → H b = none → b ∉ fs → b ∉ ex → h'.get? b = some o
  slot : ∀ b o, h.get? b = some o → H b = none → b ∈ fs → b ∉ ex → ∃ sl, h'.get? b = some { o with slots := sl }
  free : ∀ b o, h.get? b = some o → H b = none → b ∉ ex → H' b = none
  there : ∀ b o, h.get? b = some o → b ∉ ex → ∃ o', h'.get? b = some o'
  tups : ∀ b xs, H b = some (.tup xs) → H' b = some (.tup xs)
  frzs : ∀ b o u, H b = some (.frz o u) → H' b = some (.frz o u)
  tbls : ∀ b ps, H b = some (.tbl ps) → ∃ more, H' b = some (.tbl (ps ++ more))
section
variable {fs fs' ex ex' : List Addr} {H H1 H2 : Hp} {h h1 h2 h' : Heap} {a x e : Addr} {o : HO}
theorem Un.any (u : Un fs ex H H1 h h1) {b : Addr} {ob : Obj} (q : h.get? b = some ob) (n : H b = none) (hx : b ∉ ex) : ∃ sl, h1.get? b = some { ob with slots := sl } := by
  by_cases hb : b ∈ fs
  · exact u.slot b ob q n hb hx
  · exact ⟨ob.slots, u.keep b ob q n hb hx⟩
theorem Un.trans (a : Un fs ex H H1 h h1) (b : Un fs ex H1 H2 h1 h2) : Un fs ex H H2 h h2 where
  keep := fun c ob q n hc hx => b.keep c ob (a.keep c ob q n hc hx) (a.free c ob q n hx) hc hx
  slot := fun c ob q n hc hx => by
    obtain ⟨sl, e1⟩ := a.slot c ob q n hc hx
    obtain ⟨sl', e2⟩ := b.slot c _ e1 (a.free c ob q n hx) hc hx
    exact ⟨sl', e2⟩
  free := fun c ob q n hx => by
    obtain ⟨o', e1⟩ := a.there c ob q hx
    exact b.free c o' e1 (a.free c ob q n hx) hx
  there := fun c ob q hx => by
    obtain ⟨o', e1⟩ := a.there c ob q hx
    exact b.there c o' e1 hx
  tups := fun c xs q => b.tups c xs (a.tups c xs q)
  frzs := fun c ob xs q => b.frzs c ob xs (a.frzs c ob xs q)
  tbls := fun c ps q => by
    obtain ⟨m1, e1⟩ := a.tbls c ps q
    obtain ⟨m2, e2⟩ := b.tbls c _ e1
    exact ⟨m1 ++ m2, by rw [e2, Array.append_assoc]⟩
theorem Un.kept (k : ∀ b u, h.get? b = some u → h'.get? b = some u) : Un fs ex H H h h' :=
  ⟨fun b ob q _ _ _ => k b ob q, fun b ob q _ _ _ => ⟨ob.slots, k b ob q⟩, fun _ _ _ n _ => n, fun b ob q _ => ⟨ob, k b ob q⟩, fun _ _ q => q, fun _ _ _ q => q, fun _ ps q => ⟨#[], by rw [q]; simp⟩⟩
theorem Un.refl : Un fs ex H H h h := Un.kept fun _ _ q => q
theorem Un.laid (k : ∀ b u, h.get? b = some u → h'.get? b = some u) (hp : h.objs.size ≤ a) (hn : H a = none) : Un fs ex H (upd H a o) h h' where
  keep := fun b u q _ _ _ => k b u q
  slot := fun b u q _ _ _ => ⟨u.slots, k b u q⟩
  free := fun b u q n _ => by rw [upd_ne (Nat.ne_of_lt (Nat.lt_of_lt_of_le (Heap.lt_size q) hp))]; exact n
  there := fun b u q _ => ⟨u, k b u q⟩
  tups := fun b xs q => by rw [upd_ne (ne_of_none q hn)]; exact q
  frzs := fun b u xs q => by rw [upd_ne (ne_of_none q hn)]; exact q
  tbls := fun b ps q => ⟨#[], by rw [upd_ne (ne_of_none q hn), q]; simp⟩
theorem Un.write (mu : Mut (H x)) (he : e = x ∨ H e = some (.own x)) (k : ∀ b u, b ≠ e → h.get? b = some u → h'.get? b = some u) (heo : ∃ u, h'.get? e = some u) : Un fs ex H (upd H x o) h h' := by
  have hx : ∀ b, H b = none → b ≠ x := fun b n z => by subst z; rw [n] at mu; exact mu
  have hb : ∀ b, H b = none → b ≠ e := fun b n z => by
    subst z
    rcases he with r | r
    · exact hx b n r
    · rw [n] at r; cases r
  have hm : ∀ b u, H b = some u → ¬ Mut (some u) → b ≠ x := fun b u q nm z => by subst z; rw [q] at mu; exact nm mu
  refine ⟨fun b u q n _ _ => k b u (hb b n) q, fun b u q n _ _ => ⟨u.slots, k b u (hb b n) q⟩, fun b u q n _ => by rw [upd_ne (hx b n)]; exact n, fun b u q _ => ?_,
    fun b xs q => by rw [upd_ne (hm b _ q fun z => z)]; exact q, fun b u xs q => by rw [upd_ne (hm b _ q fun z => z)]; exact q, fun b ps q => ⟨#[], by rw [upd_ne (hm b _ q fun z => z), q]; simp⟩⟩
  by_cases hbe : b = e
  · subst hbe; exact heo
  · exact ⟨u, k b u hbe q⟩
theorem Un.mono (u : Un fs ex H H1 h h1) (hs : ∀ b ∈ fs, b ∈ fs') (hx : ∀ b ∈ ex, b ∈ ex') : Un fs' ex' H H1 h h1 :=
  ⟨fun b ob q n hb he => u.keep b ob q n (fun z => hb (hs b z)) fun z => he (hx b z), fun _ _ q n _ he => u.any q n fun z => he (hx _ z), fun b ob q n he => u.free b ob q n fun z => he (hx b z), fun b ob q he => u.there b ob q fun z => he (hx b z), u.tups, u.frzs, u.tbls⟩
end

/-! ### the heap without what is tracked -/
def trk (h : Heap) (H : Hp) : List Addr := (List.range h.objs.size).filter fun a => (H a).isSome
def hidT (h : Heap) (H : Hp) : Heap := PySem.W.hideAll h (trk h H)
theorem hidT_size (h : Heap) (H : Hp) : (hidT h H).objs.size = h.objs.size := PySem.W.hideAll_size _ _
theorem hidT_get {h : Heap} {H : Hp} {b : Addr} {o : Obj} (e : h.get? b = some o) (n : H b = none) : (hidT h H).get? b = some o :=
  PySem.W.hideAll_get _ e fun hm => by
    have q : (H b).isSome = true := (List.mem_filter.mp hm).2
    rw [n] at q; simp at q
theorem of_hidT {h : Heap} {H : Hp} {b : Addr} {o : Obj} (e : (hidT h H).get? b = some o) : h.get? b = some o ∧ H b = none := by
  have e' : h.get? b = some o := PySem.W.of_hideAll (trk h H) e
  refine ⟨e', ?_⟩
  cases q : H b with
  | none => rfl
  | some x =>
    have hm : b ∈ trk h H := List.mem_filter.mpr ⟨List.mem_range.mpr (Heap.lt_size e'), by simp [q]⟩
    have z : (hidT h H).get? b = none := PySem.W.hideAll_none (trk h H) hm
    rw [z] at e; cases e

/-! ### OpenK's ledger, filled with every new object but one -/
def allNews (g h : Heap) (L : Addr) : List (Addr × Obj) := (List.range h.objs.size).filterMap fun a => if a = L ∨ (g.get? a).isSome = true then none else (h.get? a).map fun o => (a, o)
def rest (g h : Heap) (L d : Addr) : List (Addr × Obj) := (allNews g h L).filter fun p => decide (p.1 ≠ d)
end L2

namespace L2
open PySem PySem.Spec PyProof.Rows

/-- the module's facts, over the base: the heap at the law's entry without what is tracked there -/
structure Mod (K : PySem.W.Frag) (mg : Str → Option Value) (base : Heap) : Prop where
  kin : K.In base
  glob : base.Ns mainGlobals mg
  blt : ∃ mb, base.Ns builtinsNs mb ∧ ∀ x : Str, x ≠ "__name__" → mb x = bootBuiltins x
  nolimit : base.NoLimit

/-- the context: a def's body (or a comprehension's block) running. base: fixed through the whole law; s₀, H₀: the entry; outer: the frames whose slots others may change (a def's callers); stack: all frames that run;
   ex: iterators that were made ahead of the entry and are walked here (a comprehension's); fn: the names whose cells were made at the entry (a def: all; a comprehension's block: its own); calm: not within an except suite; pn: pins that every state bears; xe: what is wanted of an exception that leaves the code -/
structure Cx where
  prog : Program
  w : World
  K : PySem.W.Frag
  mg : Str → Option Value
  base : Heap
  A : Around
  N : List Str
  s₀ : Shared
  H₀ : Hp
  env : Env
  outer : List Env
  stack : List Env
  ex : List Addr
  fn : Str → Bool
  calm : Bool
  pn : List (Addr × Obj)
  xe : Value → Shared → Prop
/-- the callers' frames -/
def frs (l : List Env) : List Addr := l.filterMap (·.frame)
abbrev Cx.fs (X : Cx) : List Addr := frs X.outer

def Vis (sc : Scope) (x : Str) : Prop := sc.names.lookup x = some .local ∨ sc.names.lookup x = some .cell ∨ sc.names.lookup x = some .free
def Loc (sc : Scope) (x : Str) : Prop := sc.names.lookup x = some .local ∨ sc.names.lookup x = some .cell
def Look (env : Env) (h : Heap) (m : Str → Option Value) (x : Str) (u : Value) : Prop :=
  (env.kindOf x = some .local ∧ m x = some u) ∨ ((env.kindOf x = some .cell ∨ env.kindOf x = some .free) ∧ ∃ c, env.cells.lookup x = some c ∧ h.IsCell c (some u))

structure Cx.Ok (X : Cx) : Prop where
  mod : Mod X.K X.mg X.base
  kind : X.env.scope.kind = .function
  glob : X.env.globals = mainGlobals
  blt : X.env.builtins = builtinsNs
  above : X.s₀.heap.objs.size ≤ X.env.locals
  inj : ∀ x y c, X.env.cells.lookup x = some c → X.env.cells.lookup y = some c → x = y
  has : ∀ x, (X.env.kindOf x = some .cell ∨ X.env.kindOf x = some .free) → ∃ c, X.env.cells.lookup x = some c
  cab : ∀ x c, X.fn x = true → X.env.cells.lookup x = some c → X.s₀.heap.objs.size ≤ c
  hd : X.calm = true → X.A.handled = none
  frames : X.A.frames = some X.stack
  stk : X.stack = X.outer ∨ (X.stack = X.env :: X.outer ∧ X.env.frame = some X.env.locals)
  exf : ∀ b ∈ X.ex, b ≠ X.env.locals ∧ ∀ x c, X.env.cells.lookup x = some c → c ≠ b
  bs : ∀ b o, X.base.get? b = some o → X.s₀.heap.get? b = some o ∧ X.H₀ b = none
  bsz : X.base.objs.size ≤ X.s₀.heap.objs.size
  noex : ∀ b o, X.base.get? b = some o → b ∉ X.ex
  exfs : ∀ b ∈ X.ex, b ∉ X.fs
  funs : X.s₀.heap.FunFrames X.base X.outer
  frf : ∀ b ∈ X.fs, X.H₀ b = none

structure Inv (X : Cx) (pins : List (Addr × Obj)) (σ : List (Option V)) (H : Hp) (s : Shared) : Prop where
  ok : X.Ok
  os : s.os = X.s₀.os
  bare : AllBare s.gens
  base : Un X.fs X.ex X.H₀ H X.s₀.heap s.heap
  loc : ∃ m, s.heap.Ns X.env.locals m ∧ ∀ (i : Nat) (x : Str) (v : V), X.N[i]? = some x → σ[i]? = some (some v) → Vis X.env.scope x → ∃ u, RelV v u ∧ Look X.env s.heap m x u
  cell : ∀ x c, X.env.cells.lookup x = some c → ∃ v, s.heap.IsCell c v
  free : H X.env.locals = none
  freeC : ∀ x c, X.env.cells.lookup x = some c → H c = none
  pin : ∀ p ∈ X.pn ++ pins, s.heap.get? p.1 = some p.2 ∧ H p.1 = none ∧ p.1 ≠ X.env.locals ∧ p.1 ∉ X.fs ∧ ∀ v, p.2.data ≠ .cell v
  hok : HOk X.prog X.w H s.heap
  len : σ.length = X.N.length

section
variable {X : Cx} {pins : List (Addr × Obj)} {σ : List (Option V)} {H H' : Hp} {s : Shared} {h' : Heap}

theorem Cx.Ok.nofr (ok : X.Ok) {b : Addr} {o : Obj} (e : X.base.get? b = some o) : b ∉ X.fs := fun hb => by
  have := (ok.funs.mem hb).1
  rw [e] at this; cases this
theorem Inv.bs (I : Inv X pins σ H s) : ∀ b o, X.base.get? b = some o → s.heap.get? b = some o ∧ H b = none := fun b o e =>
  ⟨I.base.keep b o (I.ok.bs b o e).1 (I.ok.bs b o e).2 (I.ok.nofr e) (I.ok.noex b o e), I.base.free b o (I.ok.bs b o e).1 (I.ok.bs b o e).2 (I.ok.noex b o e)⟩
theorem Inv.bk (I : Inv X pins σ H s) : ∀ b o, X.base.get? b = some o → s.heap.get? b = some o := fun b o e => (I.bs b o e).1
theorem Inv.mod (I : Inv X pins σ H s) : Mod X.K X.mg X.base := I.ok.mod
theorem Inv.kIn (I : Inv X pins σ H s) : X.K.In s.heap := I.ok.mod.kin.keeps I.bk
theorem Inv.nolimit (I : Inv X pins σ H s) : s.heap.NoLimit := I.ok.mod.nolimit.keeps I.bk
/-- the frame over the base: for OpenK's rules (K.In X.base is I.mod.kin) -/
theorem Inv.fr (I : Inv X pins σ H s) : ∃ m, Fr X.base X.env.locals s.heap m :=
  let ⟨m, hn, _⟩ := I.loc
  ⟨m, hn, I.bk, Nat.le_trans I.ok.bsz I.ok.above⟩
theorem Inv.lt (I : Inv X pins σ H s) : X.env.locals < s.heap.objs.size := let ⟨_, hn, _⟩ := I.loc; hn.lt
theorem Inv.sz (I : Inv X pins σ H s) : X.s₀.heap.objs.size ≤ s.heap.objs.size := Nat.le_trans I.ok.above (Nat.le_of_lt I.lt)
theorem Inv.nofs (I : Inv X pins σ H s) {a : Addr} (h : s.heap.objs.size ≤ a) : a ∉ X.fs := fun hb => by
  obtain ⟨_, o, ho, _⟩ := I.ok.funs.mem hb
  exact absurd (Nat.lt_of_lt_of_le (Heap.lt_size ho) (Nat.le_trans I.sz h)) (Nat.lt_irrefl _)
theorem Inv.cne (I : Inv X pins σ H s) : ∀ x c, X.env.cells.lookup x = some c → c ≠ X.env.locals := fun x c e z => by
  obtain ⟨v, o, ho, hd⟩ := I.cell x c e
  obtain ⟨m, ⟨o', es, ep, ho', hd', _⟩, _⟩ := I.loc
  rw [z, ho'] at ho; cases ho; rw [hd'] at hd; cases hd
theorem Inv.funs (I : Inv X pins σ H s) : s.heap.FunFrames X.base X.outer := by
  have all : ∀ (l : List Env), (∀ b ∈ frs l, b ∈ X.fs) → X.s₀.heap.FunFrames X.base l → s.heap.FunFrames X.base l := by
    intro l
    induction l with
    | nil => intro _ _; trivial
    | cons env r ih =>
      intro hs hl
      obtain ⟨hk, ⟨L, o, hf, hn, ho, hd⟩, hr⟩ := hl
      have hL : L ∈ X.fs := hs L (by unfold frs; rw [List.filterMap_cons, hf]; exact List.mem_cons_self)
      obtain ⟨sl, e⟩ := I.base.slot L o ho (I.ok.frf L hL) hL fun z => I.ok.exfs L z hL
      exact ⟨hk, ⟨L, _, hf, hn, e, hd⟩, ih (fun b hb => hs b (by unfold frs; rw [List.filterMap_cons, hf]; exact List.mem_cons_of_mem _ hb)) hr⟩
  exact all X.outer (fun _ hb => hb) I.ok.funs

/-- the frames that run, for a call -/
theorem Inv.stack (I : Inv X pins σ H s) : s.heap.FunFrames X.base X.stack := by
  rcases I.ok.stk with e | ⟨e, hf⟩
  · rw [e]; exact I.funs
  · rw [e]
    obtain ⟨m, hn, _⟩ := I.loc
    refine .cons (by rw [I.ok.kind]; decide) hf hn ?_ I.funs
    exact Heap.get?_none_of_le (Nat.le_trans I.ok.bsz I.ok.above)
theorem Inv.stkSub (I : Inv X pins σ H s) : ∀ b ∈ frs X.stack, b ∈ X.env.locals :: X.fs := fun b hb => by
  rcases I.ok.stk with e | ⟨e, hf⟩
  · rw [e] at hb; exact List.mem_cons_of_mem _ hb
  · rw [e] at hb
    unfold frs at hb
    rw [List.filterMap_cons, hf] at hb
    exact hb
theorem Inv.stkFree (I : Inv X pins σ H s) : ∀ b ∈ frs X.stack, H b = none := fun b hb => by
  rcases List.mem_cons.mp (I.stkSub b hb) with e | hb
  · rw [e]; exact I.free
  · obtain ⟨_, o, ho, _⟩ := I.ok.funs.mem hb
    exact I.base.free b o ho (I.ok.frf b hb) fun z => I.ok.exfs b z hb

/-- THE STEP: the untracked objects but the frame and the records at ch are kept (the callers' frames up to slots), the frame's map is kept, the new abstract heap is held -/
theorem Inv.step {g' : Array GenState} {t' : Nat} {d' : Drawn} {ch : List Addr} (I : Inv X pins σ H s)
    (hch : ∀ b ∈ ch, (b ∈ X.ex ∨ X.s₀.heap.objs.size ≤ b) ∧ b ≠ X.env.locals ∧ (∀ x c, X.env.cells.lookup x = some c → c ≠ b) ∧ ∀ p ∈ X.pn ++ pins, p.1 ≠ b)
    (keep : ∀ b o, b ≠ X.env.locals → b ∉ X.fs → b ∉ ch → s.heap.get? b = some o → H b = none → h'.get? b = some o)
    (slot : ∀ b o, b ≠ X.env.locals → b ∈ X.fs → b ∉ ch → s.heap.get? b = some o → H b = none → ∃ sl, h'.get? b = some { o with slots := sl }) (free : ∀ b o, b ∉ ch → s.heap.get? b = some o → H b = none → H' b = none)
    (there : ∀ b o, b ∉ ch → s.heap.get? b = some o → ∃ o', h'.get? b = some o')
    (tups : ∀ b xs, H b = some (.tup xs) → H' b = some (.tup xs)) (frzs : ∀ b o u, H b = some (.frz o u) → H' b = some (.frz o u)) (tbls : ∀ b ps, H b = some (.tbl ps) → ∃ more, H' b = some (.tbl (ps ++ more)))
    (ns : ∀ m, s.heap.Ns X.env.locals m → h'.Ns X.env.locals m) (hok : HOk X.prog X.w H' h') (hg : AllBare g') :
    Inv X pins σ H' { s with heap := h', gens := g', drawn := d', toks := t' } := by
  have neL : ∀ b o, X.s₀.heap.get? b = some o → b ≠ X.env.locals := fun b o e => Nat.ne_of_lt (Nat.lt_of_lt_of_le (Heap.lt_size e) I.ok.above)
  have neC : ∀ b o, X.s₀.heap.get? b = some o → b ∉ X.ex → b ∉ ch := fun b o e hx hb => by
    rcases (hch b hb).1 with z | z
    · exact hx z
    · exact absurd (Nat.lt_of_lt_of_le (Heap.lt_size e) z) (Nat.lt_irrefl _)
  have cellK : ∀ x c, X.env.cells.lookup x = some c → ∀ v, s.heap.IsCell c v → h'.IsCell c v := fun x c e v ⟨o, ho, hd⟩ => by
    have nch : c ∉ ch := fun z => (hch c z).2.2.1 x c e rfl
    by_cases hc : c ∈ X.fs
    · obtain ⟨sl, q⟩ := slot c o (I.cne x c e) hc nch ho (I.freeC x c e)
      exact ⟨_, q, hd⟩
    · exact ⟨o, keep c o (I.cne x c e) hc nch ho (I.freeC x c e), hd⟩
  refine ⟨I.ok, I.os, hg, ⟨fun b o e n hb hx => ?_, fun b o e n hb hx => ?_, fun b o e n hx => ?_, fun b o e hx => ?_, fun b xs e => tups b xs (I.base.tups b xs e), fun b o xs e => frzs b o xs (I.base.frzs b o xs e), fun b ps e => ?_⟩, ?_, fun x c e => ?_, ?_, fun x c e => ?_, fun p hp => ?_, hok, I.len⟩
  · exact keep b o (neL b o e) hb (neC b o e hx) (I.base.keep b o e n hb hx) (I.base.free b o e n hx)
  · obtain ⟨sl, e1⟩ := I.base.slot b o e n hb hx
    obtain ⟨sl', e2⟩ := slot b _ (neL b o e) hb (neC b o e hx) e1 (I.base.free b o e n hx)
    exact ⟨sl', e2⟩
  · obtain ⟨o', e1⟩ := I.base.there b o e hx
    exact free b o' (neC b o e hx) e1 (I.base.free b o e n hx)
  · obtain ⟨o', e1⟩ := I.base.there b o e hx
    exact there b o' (neC b o e hx) e1
  · obtain ⟨m1, e1⟩ := I.base.tbls b ps e
    obtain ⟨m2, e2⟩ := tbls b _ e1
    exact ⟨m1 ++ m2, by rw [e2, Array.append_assoc]⟩
  · obtain ⟨m, hn, hl⟩ := I.loc
    refine ⟨m, ns m hn, fun i x v e1 e2 e3 => ?_⟩
    obtain ⟨u, r, l⟩ := hl i x v e1 e2 e3
    refine ⟨u, r, ?_⟩
    rcases l with l | ⟨k, c, e, z⟩
    · exact .inl l
    · exact .inr ⟨k, c, e, cellK x c e _ z⟩
  · obtain ⟨v, z⟩ := I.cell x c e
    exact ⟨v, cellK x c e v z⟩
  · obtain ⟨m, ⟨o, _, _, ho, _⟩, _⟩ := I.loc
    exact free _ o (fun z => (hch _ z).2.1 rfl) ho I.free
  · obtain ⟨v, o, ho, hd⟩ := I.cell x c e
    exact free c o (fun z => (hch c z).2.2.1 x c e rfl) ho (I.freeC x c e)
  · obtain ⟨e, n, ne, nf, d⟩ := I.pin p hp
    have nch : p.1 ∉ ch := fun z => (hch p.1 z).2.2.2 p hp rfl
    exact ⟨keep p.1 p.2 ne nf nch e n, free p.1 p.2 nch e n, ne, nf, d⟩
/-- .. where the frame's own object is kept too -/
theorem Inv.un {t' : Nat} (I : Inv X pins σ H s) (u : Un X.fs [] H H' s.heap h') (hok : HOk X.prog X.w H' h') : Inv X pins σ H' { s with heap := h', toks := t' } := by
  obtain ⟨m, ⟨o, es, ep, ho, r⟩, _⟩ := id I.loc
  obtain ⟨sl, hL⟩ := u.any ho I.free (by simp)
  exact I.step (g' := s.gens) (d' := s.drawn) (ch := []) (fun _ z => nomatch z) (fun b o _ hb _ e n => u.keep b o e n hb (by simp)) (fun b o _ hb _ e n => u.slot b o e n hb (by simp)) (fun b o _ e n => u.free b o e n (by simp)) (fun b o _ e => u.there b o e (by simp)) u.tups u.frzs u.tbls (fun m' hm => by
    obtain ⟨o', es', ep', ho', r'⟩ := hm
    rw [ho] at ho'; cases ho'
    exact ⟨_, es', ep', hL, r'⟩) hok I.bare
/-- behind a call (or a comprehension's block): the slots of this frame may have changed too, the records at ch may have turned -/
theorem Inv.call {g' : Array GenState} {t' : Nat} {d' : Drawn} {ch : List Addr} (I : Inv X pins σ H s) (u : Un (frs X.stack) ch H H' s.heap h') (hok : HOk X.prog X.w H' h') (hg : AllBare g')
    (hch : ∀ b ∈ ch, (b ∈ X.ex ∨ X.s₀.heap.objs.size ≤ b) ∧ b ≠ X.env.locals ∧ (∀ x c, X.env.cells.lookup x = some c → c ≠ b) ∧ ∀ p ∈ X.pn ++ pins, p.1 ≠ b) :
    Inv X pins σ H' { s with heap := h', gens := g', drawn := d', toks := t' } := by
  obtain ⟨m, ⟨o, es, ep, ho, r⟩, _⟩ := id I.loc
  obtain ⟨sl, hL⟩ := u.any ho I.free fun z => (hch _ z).2.1 rfl
  exact I.step (ch := ch) hch (fun b o hL hb hc e n => u.keep b o e n (fun z => (List.mem_cons.mp (I.stkSub b z)).elim hL hb) hc) (fun b o _ _ hc e n => u.any e n hc) (fun b o hc e n => u.free b o e n hc) (fun b o hc e => u.there b o e hc) u.tups u.frzs u.tbls (fun m' hm => by
    obtain ⟨o', es', ep', ho', r'⟩ := hm
    rw [ho] at ho'; cases ho'
    exact ⟨_, es', ep', hL, r'⟩) hok hg
/-- an untracked record of ours (an iterator) has turned -/
theorem Inv.turned {t' : Nat} {it : Addr} (I : Inv X pins σ H s) (k : ∀ b o, b ≠ it → s.heap.get? b = some o → h'.get? b = some o) (hn : H it = none) (hL : it ≠ X.env.locals)
    (h1 : it ∈ X.ex ∨ X.s₀.heap.objs.size ≤ it) (h2 : ∀ x c, X.env.cells.lookup x = some c → c ≠ it) (h3 : ∀ p ∈ X.pn ++ pins, p.1 ≠ it) : Inv X pins σ H { s with heap := h', toks := t' } := by
  have nit : ∀ b u, H b = some u → b ≠ it := fun b u e z => by rw [z, hn] at e; cases e
  refine I.step (g' := s.gens) (d' := s.drawn) (ch := [it]) (fun b hb => ?_) (fun b o _ _ hc e _ => k b o (fun z => hc (by simp [z])) e) (fun b o _ _ hc e _ => ⟨o.slots, k b o (fun z => hc (by simp [z])) e⟩) (fun _ _ _ _ n => n)
    (fun b o hc e => ⟨o, k b o (fun z => hc (by simp [z])) e⟩) (fun _ _ e => e) (fun _ _ _ e => e) (fun b ps e => ⟨#[], by rw [e]; simp⟩) (fun m hm => ?_) (fun b u e => ?_) I.bare
  · have e : b = it := by simpa using hb
    subst e
    exact ⟨h1, hL, h2, h3⟩
  · obtain ⟨o, es, ep, ho, r⟩ := hm
    exact ⟨o, es, ep, k _ o (Ne.symm hL) ho, r⟩
  · refine (I.hok b u e).stay (fun c v hc q => k c v ?_ q) (fun _ q => q) fun _ _ q => q
    rcases hc with z | z
    · rw [z]; exact nit b u e
    · exact nit c _ z
theorem Inv.tok (I : Inv X pins σ H s) (t : Nat) : Inv X pins σ H { s with toks := t } := I.un (h' := s.heap) (t' := t) Un.refl I.hok
/-- all objects kept -/
theorem Inv.kept {t' : Nat} (I : Inv X pins σ H s) (k : ∀ b u, s.heap.get? b = some u → h'.get? b = some u) : Inv X pins σ H { s with heap := h', toks := t' } := I.un (Un.kept k) (I.hok.kept k)
/-- a new object laid and tracked -/
theorem Inv.laid {a : Addr} {o : HO} {t' : Nat} (I : Inv X pins σ H s) (k : ∀ b u, s.heap.get? b = some u → h'.get? b = some u) (hp : s.heap.objs.size ≤ a) (new : ObjOk X.prog X.w (upd H a o) h' a o) :
    Inv X pins σ (upd H a o) { s with heap := h', toks := t' } := I.un (Un.laid k hp (I.hok.fresh hp)) (I.hok.laid k hp new)
/-- an object written -/
theorem Inv.write {x e : Addr} {o : HO} {t' : Nat} (I : Inv X pins σ H s) (mu : Mut (H x)) (he : e = x ∨ H e = some (.own x)) (k : ∀ b u, b ≠ e → s.heap.get? b = some u → h'.get? b = some u) (heo : ∃ u, h'.get? e = some u)
    (new : ObjOk X.prog X.w (upd H x o) h' x o) : Inv X pins σ (upd H x o) { s with heap := h', toks := t' } := I.un (Un.write mu he k heo) (I.hok.write mu he k heo new)
/-- forgetting slots, pins -/
theorem Inv.weak {σ' : List (Option V)} (I : Inv X pins σ H s) (hl : σ'.length = σ.length) (w : ∀ (i : Nat) v, σ'[i]? = some (some v) → σ[i]? = some (some v)) : Inv X pins σ' H s :=
  ⟨I.ok, I.os, I.bare, I.base, let ⟨m, hn, hl'⟩ := I.loc; ⟨m, hn, fun i x v e1 e2 e3 => hl' i x v e1 (w i v e2) e3⟩, I.cell, I.free, I.freeC, I.pin, I.hok, hl.trans I.len⟩
theorem Inv.pins_of {pins' : List (Addr × Obj)} (I : Inv X pins σ H s) (h : ∀ p ∈ pins', s.heap.get? p.1 = some p.2 ∧ H p.1 = none ∧ p.1 ≠ X.env.locals ∧ p.1 ∉ X.fs ∧ ∀ v, p.2.data ≠ .cell v) : Inv X pins' σ H s :=
  ⟨I.ok, I.os, I.bare, I.base, I.loc, I.cell, I.free, I.freeC, fun p hp => (List.mem_append.mp hp).elim (fun z => I.pin p (List.mem_append_left _ z)) (h p), I.hok, I.len⟩

theorem nodup_ix {N : List Str} (hN : N.Nodup) {i j : Nat} {x : Str} (a : N[i]? = some x) (b : N[j]? = some x) : i = j := by
  obtain ⟨h1, e1⟩ := List.getElem?_eq_some_iff.mp a
  obtain ⟨h2, e2⟩ := List.getElem?_eq_some_iff.mp b
  exact (List.getElem_inj hN).mp (e1.trans e2.symm)

/-- a name is stored; what changed -/
theorem store_ok2 {M : Model} {A : Around} {E : Value → Shared → Prop} {i : Nat} {x : Str} {v : V} {u : Value} {Q : Unit → Shared → Prop} (I : Inv X pins σ H s) (hN : X.N.Nodup) (hi : X.N[i]? = some x) (hx : Loc X.env.scope x) (r : RelV v u)
    (h : ∀ s', Inv X pins (σ.set i (some v)) H s' → (∃ a, Heap.SameBut a s.heap s'.heap ∧ (a = X.env.locals ∨ X.env.cells.lookup x = some a)) → Q () s') (hf : X.fn x = true ∨ X.env.scope.names.lookup x = some .local := by first | exact .inl rfl | exact .inr rfl | assumption) : wpAny M A (storeName X.env x u) Q E s := by
  obtain ⟨m, hn, hl⟩ := id I.loc
  have hcls : (X.env.scope.kind == .class || (X.env.scope.kind == .module && X.env.locals != X.env.globals)) = false := by rw [I.ok.kind]; rfl
  have hiσ : i < σ.length := by rw [I.len]; exact (List.getElem?_eq_some_iff.mp hi).1
  have cne := I.cne
  have tracked : ∀ {a : Addr} {h' : Heap}, (∃ o, s.heap.get? a = some o ∧ H a = none) → Heap.SameBut a s.heap h' → HOk X.prog X.w H h' := fun {a h'} ha hs b ob e => by
    obtain ⟨_, _, hfree⟩ := ha
    refine (I.hok b ob e).stay (fun c w' hc q => (hs.2 c ?_).trans q) (fun _ q => q) fun _ _ q => q
    rintro rfl
    rcases hc with rfl | hc
    · rw [hfree] at e; cases e
    · rw [hfree] at hc; cases hc
  rcases hx with hk | hk
  · refine wpAny_storeName_local hk hn (fun h' hn' hs => ?_) hcls
    obtain ⟨oL, _, _, hoL, _⟩ := id hn
    refine h _ ⟨I.ok, I.os, I.bare, ⟨fun b o e n hb hx => ?_, fun b o e n hb hx => ?_, I.base.free, fun b o e hx => ?_, I.base.tups, I.base.frzs, I.base.tbls⟩, ⟨_, hn', fun j y v' e1 e2 e3 => ?_⟩, fun y c e => ?_, I.free, I.freeC, fun p hp => ?_, tracked ⟨oL, hoL, I.free⟩ hs, by simpa using I.len⟩ ⟨_, hs, .inl rfl⟩
    · exact (hs.2 b (Nat.ne_of_lt (Nat.lt_of_lt_of_le (Heap.lt_size e) I.ok.above))).trans (I.base.keep b o e n hb hx)
    · obtain ⟨sl, e1⟩ := I.base.slot b o e n hb hx
      exact ⟨sl, (hs.2 b (Nat.ne_of_lt (Nat.lt_of_lt_of_le (Heap.lt_size e) I.ok.above))).trans e1⟩
    · obtain ⟨o', e1⟩ := I.base.there b o e hx
      exact ⟨o', (hs.2 b (Nat.ne_of_lt (Nat.lt_of_lt_of_le (Heap.lt_size e) I.ok.above))).trans e1⟩
    · by_cases hj : j = i
      · subst hj
        rw [hi] at e1; cases e1
        rw [List.getElem?_set_self hiσ] at e2
        cases e2
        exact ⟨u, r, .inl ⟨hk, by simp⟩⟩
      · rw [List.getElem?_set_ne (Ne.symm hj)] at e2
        obtain ⟨u', r', q⟩ := hl j y v' e1 e2 e3
        refine ⟨u', r', ?_⟩
        rcases q with ⟨k, e⟩ | ⟨k, c, e, z⟩
        · refine .inl ⟨k, ?_⟩
          have : y ≠ x := fun e => hj (nodup_ix hN e1 (e ▸ hi))
          simp [this, e]
        · exact .inr ⟨k, c, e, z.sameBut hs (cne y c e)⟩
    · obtain ⟨w', z⟩ := I.cell y c e
      exact ⟨w', z.sameBut hs (cne y c e)⟩
    · obtain ⟨e, n, ne, nf, d⟩ := I.pin p hp
      exact ⟨(hs.2 p.1 ne).trans e, n, ne, nf, d⟩
  · have hfn : X.fn x = true := by
      rcases hf with z | z
      · exact z
      · rw [z] at hk; cases hk
    obtain ⟨c, hc⟩ := I.ok.has x (.inl hk)
    obtain ⟨w', z⟩ := I.cell x c hc
    refine wpAny_storeName_cell I.ok.kind hk hc z (fun h' hc' hs => ?_)
    obtain ⟨oc, hoc, hocd⟩ := id z
    refine h { s with heap := h' } ⟨I.ok, I.os, I.bare, ⟨fun b o e n hb hx => ?_, fun b o e n hb hx => ?_, I.base.free, fun b o e hx => ?_, I.base.tups, I.base.frzs, I.base.tbls⟩, ⟨m, hn.sameBut hs (Ne.symm (cne x c hc)), fun j y v' e1 e2 e3 => ?_⟩, fun y c' e => ?_, I.free, I.freeC, fun p hp => ?_, tracked ⟨oc, hoc, I.freeC x c hc⟩ hs, by simpa using I.len⟩ ⟨c, hs, .inr hc⟩
    · exact (hs.2 b (Nat.ne_of_lt (Nat.lt_of_lt_of_le (Heap.lt_size e) (I.ok.cab x c hfn hc)))).trans (I.base.keep b o e n hb hx)
    · obtain ⟨sl, e1⟩ := I.base.slot b o e n hb hx
      exact ⟨sl, (hs.2 b (Nat.ne_of_lt (Nat.lt_of_lt_of_le (Heap.lt_size e) (I.ok.cab x c hfn hc)))).trans e1⟩
    · obtain ⟨o', e1⟩ := I.base.there b o e hx
      exact ⟨o', (hs.2 b (Nat.ne_of_lt (Nat.lt_of_lt_of_le (Heap.lt_size e) (I.ok.cab x c hfn hc)))).trans e1⟩
    · by_cases hj : j = i
      · subst hj
        rw [hi] at e1; cases e1
        rw [List.getElem?_set_self hiσ] at e2
        cases e2
        exact ⟨u, r, .inr ⟨.inl hk, c, hc, hc'⟩⟩
      · rw [List.getElem?_set_ne (Ne.symm hj)] at e2
        obtain ⟨u', r', q⟩ := hl j y v' e1 e2 e3
        refine ⟨u', r', ?_⟩
        rcases q with q | ⟨k, c', e, z'⟩
        · exact .inl q
        · refine .inr ⟨k, c', e, z'.sameBut hs ?_⟩
          rintro rfl
          exact hj (nodup_ix hN e1 (I.ok.inj _ _ _ e hc ▸ hi))
    · by_cases hcc : c' = c
      · subst hcc; exact ⟨_, hc'⟩
      · obtain ⟨w2, z2⟩ := I.cell y c' e
        exact ⟨w2, z2.sameBut hs hcc⟩
    · obtain ⟨e, n, ne, nf, d⟩ := I.pin p hp
      refine ⟨(hs.2 p.1 ?_).trans e, n, ne, nf, d⟩
      intro q
      rw [q, hoc] at e
      have q' : oc = p.2 := Option.some.inj e
      exact d w' (by rw [← q']; exact hocd)
theorem store_ok {M : Model} {A : Around} {E : Value → Shared → Prop} {i : Nat} {x : Str} {v : V} {u : Value} {Q : Unit → Shared → Prop} (I : Inv X pins σ H s) (hN : X.N.Nodup) (hi : X.N[i]? = some x) (hx : Loc X.env.scope x) (r : RelV v u)
    (h : ∀ s', Inv X pins (σ.set i (some v)) H s' → Q () s') (hf : X.fn x = true ∨ X.env.scope.names.lookup x = some .local := by first | exact .inl rfl | exact .inr rfl | assumption) : wpAny M A (storeName X.env x u) Q E s :=
  store_ok2 I hN hi hx r (fun s' I' _ => h s' I') hf
/-- behind a call or a block, the state as it is -/
theorem Inv.call' {s' : Shared} {ch : List Addr} (I : Inv X pins σ H s) (ho : s'.os = s.os) (u : Un (frs X.stack) ch H H' s.heap s'.heap) (hok : HOk X.prog X.w H' s'.heap) (hg : AllBare s'.gens)
    (hch : ∀ b ∈ ch, (b ∈ X.ex ∨ X.s₀.heap.objs.size ≤ b) ∧ b ≠ X.env.locals ∧ (∀ x c, X.env.cells.lookup x = some c → c ≠ b) ∧ ∀ p ∈ X.pn ++ pins, p.1 ≠ b) : Inv X pins σ H' s' := by
  obtain ⟨h', g', d', t', o'⟩ := s'
  have e : o' = s.os := ho
  subst e
  exact I.call (g' := g') (t' := t') (d' := d') u hok hg hch
end

/-! ### the judgements -/
/-- an exception: its class, its own dict's address (where it has one), the abstract heap behind it -/
abbrev XK := Value → Option Addr → Hp → Prop
abbrev St := List (Option V)
abbrev VK := V → Hp → Prop
/-- an expression's reading; a test's; an argument list's -/
abbrev TE := St → Hp → VK → Prop
abbrev TT := St → Hp → (Bool → Hp → Prop) → Prop
abbrev TA := St → Hp → (List V → Hp → Prop) → Prop
/-- what is wanted behind a statement -/
structure Ends where
  nx : St → Hp → Prop
  rt : VK
  bk : St → Hp → Prop := fun _ _ => False
  ct : St → Hp → Prop := fun _ _ => False
abbrev TS := Ends → St → Hp → Prop

def EP (X : Cx) (pins : List (Addr × Obj)) (σ : St) (Q : VK) (u : Value) (s' : Shared) : Prop := ∃ v H', Inv X pins σ H' s' ∧ RelV v u ∧ Q v H'
def TP (X : Cx) (pins : List (Addr × Obj)) (σ : St) (Q : Bool → Hp → Prop) (b : Bool) (s' : Shared) : Prop := ∃ H', Inv X pins σ H' s' ∧ Q b H'
def AP (X : Cx) (pins : List (Addr × Obj)) (σ : St) (Q : List V → Hp → Prop) (us : List Value) (s' : Shared) : Prop := ∃ vs H', Inv X pins σ H' s' ∧ Vals vs us ∧ Q vs H'
def SP (X : Cx) (pins : List (Addr × Obj)) (D : Ends) (f : Flow) (s' : Shared) : Prop :=
  match f with
  | .next => ∃ σ' H', Inv X pins σ' H' s' ∧ D.nx σ' H'
  | .brk => ∃ σ' H', Inv X pins σ' H' s' ∧ D.bk σ' H'
  | .cont => ∃ σ' H', Inv X pins σ' H' s' ∧ D.ct σ' H'
  | .ret u => ∃ v σ' H', Inv X pins σ' H' s' ∧ RelV v u ∧ D.rt v H'

def PE (X : Cx) (e : Expr) (t : TE) : Prop :=
  ∀ (pins : List (Addr × Obj)) (s : Shared) (σ : St) (H : Hp) (Q : VK), Inv X pins σ H s → t σ H Q → wpAny (model X.prog X.w) X.A (eval e X.env) (EP X pins σ Q) X.xe s
def PT (X : Cx) (e : Expr) (t : TT) : Prop :=
  ∀ (pins : List (Addr × Obj)) (s : Shared) (σ : St) (H : Hp) (Q : Bool → Hp → Prop), Inv X pins σ H s → t σ H Q → wpAny (model X.prog X.w) X.A (isTrue e X.env (eval e X.env)) (TP X pins σ Q) X.xe s
/-- a test whatever its 'whole' is (and, or) -/
def PW (X : Cx) (e : Expr) (t : TT) : Prop :=
  ∀ (whole : Sem Value) (pins : List (Addr × Obj)) (s : Shared) (σ : St) (H : Hp) (Q : Bool → Hp → Prop), Inv X pins σ H s → t σ H Q → wpAny (model X.prog X.w) X.A (isTrue e X.env whole) (TP X pins σ Q) X.xe s
theorem PW.pt {X : Cx} {e : Expr} {t : TT} (h : PW X e t) : PT X e t := h _
/-- an argument list (no star), from the left -/
def PA (X : Cx) (es : List Expr) (t : TA) : Prop :=
  ∀ (pos : Pos) (pins : List (Addr × Obj)) (s : Shared) (σ : St) (H : Hp) (Q : List V → Hp → Prop), Inv X pins σ H s → t σ H Q → wpAny (model X.prog X.w) X.A (spliced (backTo pos (starEach es X.env))) (AP X pins σ Q) X.xe s
def PS (X : Cx) (st : Stmt) (t : TS) : Prop :=
  ∀ (pins : List (Addr × Obj)) (s : Shared) (σ : St) (H : Hp) (D : Ends), Inv X pins σ H s → t D σ H → wpAny (model X.prog X.w) X.A (exec st X.env) (SP X pins D) X.xe s
def PSs (X : Cx) (st : List Stmt) (t : TS) : Prop :=
  ∀ (pins : List (Addr × Obj)) (s : Shared) (σ : St) (H : Hp) (D : Ends), Inv X pins σ H s → t D σ H → wpAny (model X.prog X.w) X.A (execs st X.env) (SP X pins D) X.xe s
/-- weaken the end -/
theorem thn {α : Type} {t : Sem α} {Q Q' : α → Shared → Prop} {M : Model} {A : Around} {E : Value → Shared → Prop} {s : Shared} (h : wpAny M A t Q E s) (hQ : ∀ a s, Q a s → Q' a s) : wpAny M A t Q' E s := wpAny_mono h hQ fun _ _ x => x
end L2

namespace L2
open PySem PySem.Spec PyProof.Rows
section
variable {X : Cx}

/-! ### names and constants -/
def tVar (i : Nat) : TE := fun σ H Q => ∃ v, σ[i]? = some (some v) ∧ Q v H
def tC (v : V) : TE := fun _ H Q => Q v H
theorem pe_var {i : Nat} {x : Str} {pos : Pos} (hN : X.N[i]? = some x) (hv : Vis X.env.scope x) (hd : (x == ("__debug__" : Str)) = false := by decide) (hcd : (x == ("__classdict__" : Str)) = false := by decide) : PE X (.Name x pos) (tVar i) := by
  intro pins s σ H Q I h
  obtain ⟨v, e, h⟩ := h
  obtain ⟨m, hn, hl⟩ := I.loc
  obtain ⟨u, r, l⟩ := hl i x v hN e hv
  have fin : EP X pins σ Q u s := ⟨v, H, I, r, h⟩
  rcases l with ⟨hk, hm⟩ | ⟨hk, c, hc, hcell⟩
  · exact wpAny_Name (wpAny_loadName_local I.ok.kind hk hn hm fin) hd
  · rcases hk with hk | hk
    · exact wpAny_Name (wpAny_loadName_cell I.ok.kind hk hc hcell fin) hd
    · exact wpAny_Name (wpAny_loadName_free I.ok.kind hk hc hcell fin hcd) hd
theorem pe_int {i j pos} : PE X (.Constant (.int i) j pos) (tC (.int i)) := fun _ _ _ H _ I h => wpAny_Constant_int ⟨.int i, H, I.tok _, ⟨_, rfl⟩, h⟩
theorem pe_bl {b j pos} : PE X (.Constant (.bool b) j pos) (tC (.bl b)) := fun _ _ _ H _ I h => Constant_bool ⟨.bl b, H, I, rfl, h⟩
theorem pe_str {x j pos} : PE X (.Constant (.str x) j pos) (tC (.str x)) := fun _ _ _ H _ I h => Calls.Constant_str ⟨.str x, H, I.tok _, ⟨_, rfl⟩, h⟩

/-- a global name of the def -/
def Gl (X : Cx) (x : Str) : Prop := X.env.kindOf x = some .globalImplicit
theorem ld_glob {E : Value → Shared → Prop} {pins : List (Addr × Obj)} {s : Shared} {σ : St} {H : Hp} {x : Str} {u : Value} {pos : Pos} {Q : Value → Shared → Prop} (I : Inv X pins σ H s) (hg : Gl X x) (hm : X.mg x = some u) (h : Q u s)
    (hd : (x == ("__debug__" : Str)) = false := by decide) : wpAny (model X.prog X.w) X.A (eval (.Name x pos) X.env) Q E s :=
  Calls.Name_function_global I.ok.kind hg (Calls.loadGlobal_global (by rw [I.ok.glob]; exact I.mod.glob.keeps I.bk) hm h) hd
theorem ld_blt {E : Value → Shared → Prop} {pins : List (Addr × Obj)} {s : Shared} {σ : St} {H : Hp} {x : Str} {u : Value} {pos : Pos} {Q : Value → Shared → Prop} (I : Inv X pins σ H s) (hg : Gl X x) (hm : X.mg x = none) (hv : bootBuiltins x = some u) (h : Q u s)
    (hn : x ≠ "__name__" := by decide) (hd : (x == ("__debug__" : Str)) = false := by decide) : wpAny (model X.prog X.w) X.A (eval (.Name x pos) X.env) Q E s := by
  obtain ⟨mb, h1, h2⟩ := I.mod.blt
  exact Calls.Name_function_global I.ok.kind hg (Calls.loadGlobal_builtin (by rw [I.ok.glob]; exact I.mod.glob.keeps I.bk) hm (by rw [I.ok.blt]; exact h1.keeps I.bk) ((h2 x hn).trans hv) h) hd
/-- a module's constant, a class, a function, as a value -/
theorem pe_glob {x : Str} {v : V} {u : Value} {pos : Pos} (hg : Gl X x) (hm : X.mg x = some u) (r : RelV v u) (hd : (x == ("__debug__" : Str)) = false := by decide) : PE X (.Name x pos) (tC v) :=
  fun _ _ _ H _ I h => ld_glob I hg hm ⟨v, H, I, r, h⟩ hd
theorem pe_bltn {x : Str} {v : V} {u : Value} {pos : Pos} (hg : Gl X x) (hm : X.mg x = none) (hv : bootBuiltins x = some u) (r : RelV v u) (hn : x ≠ "__name__" := by decide) (hd : (x == ("__debug__" : Str)) = false := by decide) : PE X (.Name x pos) (tC v) :=
  fun _ _ _ H _ I h => ld_blt I hg hm hv ⟨v, H, I, r, h⟩ hn hd

/-! ### arithmetic -/
/-- two ints -/
def t2I (ta tb : TE) (k : Int → Int → Hp → Prop) : St → Hp → Prop := fun σ H => ta σ H fun x H1 => tb σ H1 fun y H2 => ∃ i j, x = .int i ∧ y = .int j ∧ k i j H2
def tAdd (ta tb : TE) : TE := fun σ H Q => t2I ta tb (fun i j H2 => Q (.int (i + j)) H2) σ H
def tSub (ta tb : TE) : TE := fun σ H Q => t2I ta tb (fun i j H2 => Q (.int (i - j)) H2) σ H
/-- the left factor below 2^64 -/
def tMul (ta tb : TE) : TE := fun σ H Q => t2I ta tb (fun i j H2 => (-(2 ^ 64) < i ∧ i < 2 ^ 64) ∧ Q (.int (i * j)) H2) σ H
variable {a b : Expr} {ta tb : TE} {pos : Pos}
/-! ### comparisons -/
def PC (X : Cx) (op : CmpOp) (a b : Expr) (t : TE) : Prop :=
  ∀ (pins : List (Addr × Obj)) (s : Shared) (σ : St) (H : Hp) (Q : VK), Inv X pins σ H s → t σ H Q →
    wpAny (model X.prog X.w) X.A (eval a X.env) (fun v s₁ => wpAny (model X.prog X.w) X.A (eval b X.env) (fun u s₂ => wpAny (model X.prog X.w) X.A (compareOp op v u) (EP X pins σ Q) X.xe s₂) X.xe s₁) X.xe s
def tCmp (p : Int → Int → Bool) (ta tb : TE) : TE := fun σ H Q => t2I ta tb (fun i j H2 => Q (.bl (p i j)) H2) σ H
abbrev tLt : TE → TE → TE := tCmp fun i j => decide (i < j)
abbrev tLe : TE → TE → TE := tCmp fun i j => decide (i ≤ j)
abbrev tGt : TE → TE → TE := tCmp fun i j => decide (j < i)
abbrev tGe : TE → TE → TE := tCmp fun i j => decide (j ≤ i)
abbrev tEqI : TE → TE → TE := tCmp fun i j => decide (i = j)
abbrev tNeI : TE → TE → TE := tCmp fun i j => !decide (i = j)
/-- is None -/
def tIsN (ta : TE) : TE := fun σ H Q => ta σ H fun x H1 => Q (.bl (decide (x = .non))) H1
def tNotN (ta : TE) : TE := fun σ H Q => ta σ H fun x H1 => Q (.bl (!decide (x = .non))) H1
/-- a comparison as a value, as a test -/
def tB (t : TE) : TT := fun σ H Q => t σ H fun x H1 => ∃ c, x = .bl c ∧ Q c H1
/-- an expression whose value is a bool, as a test -/
theorem pt_val {e : Expr} {t : TE} (h : PE X e t) (he : ∀ whole, isTrue e X.env whole = (do let v ← whole; standAt e.pos; holding [v] (truthy v)) := by intro _; rfl) : PT X e (tB t) := by
  intro pins s σ H Q I hw
  refine isTrue_plain (thn (h pins s σ H _ I hw) fun v s1 ⟨x, H1, I1, r1, q1⟩ => ?_) (he _)
  obtain ⟨d, rfl, q⟩ := q1
  cases r1
  exact wpAny_truthy_bool ⟨H1, I1, q⟩

/-! ### and, or, not -/
variable {tA tB' : TT} {rest : List Expr}
def tAnd (t u : TT) : TT := fun σ H Q => t σ H fun c H1 => if c = true then u σ H1 Q else Q false H1
def tOr (t u : TT) : TT := fun σ H Q => t σ H fun c H1 => if c = true then Q true H1 else u σ H1 Q
def tNot (t : TT) : TT := fun σ H Q => t σ H fun c H1 => Q (!c) H1
theorem pw_and1 (ha : PT X a tA) : PW X (.BoolOp .And [a] pos) tA := by
  intro wh pins s σ H Q I h
  refine isTrue_and (thn (ha pins s σ H Q I h) fun c s1 e => ?_)
  cases c with
  | true => exact isTrue_and_nil e
  | false => exact e
theorem pw_or1 (ha : PT X a tA) : PW X (.BoolOp .Or [a] pos) tA := by
  intro wh pins s σ H Q I h
  refine isTrue_or (thn (ha pins s σ H Q I h) fun c s1 e => ?_)
  cases c with
  | false => exact isTrue_or_nil e
  | true => exact e
theorem pw_and (ha : PT X a tA) (hb : PW X (.BoolOp .And (b :: rest) pos) tB') : PW X (.BoolOp .And (a :: b :: rest) pos) (tAnd tA tB') := by
  intro wh pins s σ H Q I h
  refine isTrue_and (thn (ha pins s σ H _ I h) fun c s1 ⟨H1, I1, q1⟩ => ?_)
  cases c with
  | true => exact hb wh pins s1 σ H1 Q I1 q1
  | false => exact ⟨H1, I1, q1⟩
theorem pw_or (ha : PT X a tA) (hb : PW X (.BoolOp .Or (b :: rest) pos) tB') : PW X (.BoolOp .Or (a :: b :: rest) pos) (tOr tA tB') := by
  intro wh pins s σ H Q I h
  refine isTrue_or (thn (ha pins s σ H _ I h) fun c s1 ⟨H1, I1, q1⟩ => ?_)
  cases c with
  | true => exact ⟨H1, I1, q1⟩
  | false => exact hb wh pins s1 σ H1 Q I1 q1
theorem pt_not (ha : PT X a tA) : PT X (.UnaryOp .Not a pos) (tNot tA) := by
  intro pins s σ H Q I h
  exact isTrue_not (ha pins s σ H (fun c H1 => Q (!c) H1) I h)
/-- .. as values (bools) -/
def tAndV (ta tb : TE) : TE := fun σ H Q => ta σ H fun x H1 => ∃ c, x = .bl c ∧ if c = true then tb σ H1 Q else Q (.bl false) H1
def tOrV (ta tb : TE) : TE := fun σ H Q => ta σ H fun x H1 => ∃ c, x = .bl c ∧ if c = true then Q (.bl true) H1 else tb σ H1 Q
def tNotV (ta : TE) : TE := fun σ H Q => ta σ H fun x H1 => ∃ c, x = .bl c ∧ Q (.bl (!c)) H1
theorem pe_one {op} {t : TE} (h : PE X a t) : PE X (.BoolOp op [a] pos) t := fun pins s σ H Q I hw => BoolOp_one (h pins s σ H Q I hw)
theorem pe_and (ha : PE X a ta) (hb : PE X (.BoolOp .And (b :: rest) pos) tb) : PE X (.BoolOp .And (a :: b :: rest) pos) (tAndV ta tb) := by
  intro pins s σ H Q I h
  refine BoolOp_and (thn (ha pins s σ H _ I h) fun v s1 ⟨x, H1, I1, r1, q1⟩ => ?_)
  obtain ⟨c, rfl, q1⟩ := q1
  cases r1
  refine wpAny_truthy_bool ?_
  cases c with
  | true => exact hb pins s1 σ H1 Q I1 q1
  | false => exact ⟨.bl false, H1, I1, rfl, q1⟩
theorem pe_not (ha : PE X a ta) : PE X (.UnaryOp .Not a pos) (tNotV ta) := by
  intro pins s σ H Q I h
  refine UnaryOp_ (thn (ha pins s σ H _ I h) fun v s1 ⟨x, H1, I1, r1, q1⟩ => ?_)
  obtain ⟨c, rfl, q1⟩ := q1
  cases r1
  exact not_of (wpAny_truthy_bool ⟨.bl (!c), H1, I1, rfl, q1⟩)
/-- a if t else b -/
def tIf (t : TT) (ta tb : TE) : TE := fun σ H Q => t σ H fun c H1 => if c = true then ta σ H1 Q else tb σ H1 Q
theorem pe_ifExp {c : Expr} (hc : PT X c tA) (ha : PE X a ta) (hb : PE X b tb) : PE X (.IfExp c a b pos) (tIf tA ta tb) := by
  intro pins s σ H Q I h
  refine wpAny_IfExp (thn (hc pins s σ H _ I h) fun d s1 ⟨H1, I1, q1⟩ => ?_)
  cases d with
  | true => exact ha pins s1 σ H1 Q I1 q1
  | false => exact hb pins s1 σ H1 Q I1 q1
end
end L2

namespace L2
open PySem PySem.Spec PyProof.Rows

/-! ### a list, a tuple that is read: tracked, frozen, or an object of the module -/
def SqL (K : PySem.W.Frag) (H : Hp) (a : Addr) (xs : List V) : Prop :=
  Rd H a (.lst xs) ∨
    ∃ (o : Obj) (its : Array Value) (n : Nat), K.lookup a = some o ∧ o.cls = .type "list" ∧ o.dict = none ∧ o.data = .seq its n ∧ its.size ≤ sizeLine ∧ Vals xs its.toList
def SqT (K : PySem.W.Frag) (H : Hp) (a : Addr) (xs : List V) : Prop :=
  Rd H a (.tup xs) ∨
    ∃ (o : Obj) (its : Array Value) (n : Nat), K.lookup a = some o ∧ o.cls = .type "tuple" ∧ o.data = .seq its n ∧ its.size ≤ sizeLine ∧ Vals xs its.toList
/-- a tuple of the module's own -/
abbrev KTp (K : PySem.W.Frag) (a : Addr) (xs : List V) : Prop :=
    ∃ (o : Obj) (its : Array Value) (n : Nat), K.lookup a = some o ∧ o.cls = .type "tuple" ∧ o.data = .seq its n ∧ its.size ≤ sizeLine ∧ Vals xs its.toList
/-- a tuple that is tracked as such, or the module's own -/
def SqU (K : PySem.W.Frag) (H : Hp) (a : Addr) (xs : List V) : Prop := H a = some (.tup xs) ∨ KTp K a xs
theorem SqU.sq {K : PySem.W.Frag} {H : Hp} {a : Addr} {xs : List V} (h : SqU K H a xs) : SqT K H a xs := h.elim (fun e => .inl (.inl e)) .inr
theorem SqU.of {K : PySem.W.Frag} {H : Hp} {a : Addr} {xs : List V} (h : H a = some (.tup xs)) : SqU K H a xs := .inl h
def absV : Value → Option V
  | .none => some .non
  | .bool b => some (.bl b)
  | .int i _ => some (.int i)
  | .str x _ => some (.str x)
  | .bytes b _ => some (.byt b)
  | .float b _ => some (.flt b)
  | .ref a => some (.ref a)
  | .type n => some (.ty n)
  | _ => none
theorem RelV.abs {x : V} {u : Value} (r : RelV x u) : absV u = some x := by
  cases x with
  | non => cases r; rfl
  | bl _ => cases r; rfl
  | int _ => obtain ⟨t, rfl⟩ := r; rfl
  | str _ => obtain ⟨t, rfl⟩ := r; rfl
  | byt _ => obtain ⟨t, rfl⟩ := r; rfl
  | flt _ => obtain ⟨t, rfl⟩ := r; rfl
  | ref _ => cases r; rfl
  | ty _ => cases r; rfl
theorem RelV.inj {x y : V} {u : Value} (r : RelV x u) (q : RelV y u) : x = y := Option.some.inj (r.abs.symm.trans q.abs)
theorem Vals.inj : ∀ {xs ys : List V} {us : List Value}, Vals xs us → Vals ys us → xs = ys
  | _, _, _, .nil, .nil => rfl
  | _, _, _, .cons r t, .cons r' t' => by rw [r.inj r', Vals.inj t t']
section
variable {X : Cx} {pins : List (Addr × Obj)} {σ : St} {H : Hp} {s : Shared} {a : Addr} {xs ys : List V}
theorem SqL.of {K : PySem.W.Frag} (h : H a = some (.lst xs)) : SqL K H a xs := .inl (.inl h)
theorem SqT.of {K : PySem.W.Frag} (h : H a = some (.tup xs)) : SqT K H a xs := .inl (.inl h)
theorem Inv.list (I : Inv X pins σ H s) (h : SqL X.K H a xs) : ∃ its : List Value, Vals xs its ∧ PlainL s.heap a its.toArray ∧ xs.length ≤ sizeLine := by
  rcases h with h | ⟨o, its, n, hk, hc, hd, hs, hz, r⟩
  · obtain ⟨z, its, n, r, e⟩ := h.ok I.hok
    exact ⟨its, r, ⟨_, n, e, rfl, rfl, rfl⟩, z⟩
  · refine ⟨its.toList, r, ⟨o, n, I.kIn a o hk, hc, hd, by simpa using hs⟩, ?_⟩
    have e := r.length
    simp only [Array.length_toList] at e
    omega
theorem Inv.tuple (I : Inv X pins σ H s) (h : SqT X.K H a xs) : ∃ its : List Value, Vals xs its ∧ IsTup s.heap a its.toArray ∧ xs.length ≤ sizeLine := by
  rcases h with h | ⟨o, its, n, hk, hc, hs, hz, r⟩
  · obtain ⟨z, its, r, p⟩ := h.ok I.hok
    exact ⟨its, r, p, z⟩
  · refine ⟨its.toList, r, ⟨o, I.kIn a o hk, hc, n, by simpa using hs⟩, ?_⟩
    have e := r.length
    simp only [Array.length_toList] at e
    omega
theorem Inv.list_inj (I : Inv X pins σ H s) (h : SqL X.K H a xs) (h' : SqL X.K H a ys) : xs = ys := by
  obtain ⟨its, r, ⟨o, n, e, _, _, d⟩, _⟩ := I.list h
  obtain ⟨its', r', ⟨o', n', e', _, _, d'⟩, _⟩ := I.list h'
  rw [e] at e'; cases e'
  rw [d] at d'
  injection d' with d1 _
  have : its = its' := by simpa using congrArg Array.toList d1
  subst this
  exact r.inj r'
theorem Inv.tuple_inj (I : Inv X pins σ H s) (h : SqT X.K H a xs) (h' : SqT X.K H a ys) : xs = ys := by
  obtain ⟨its, r, ⟨o, e, _, n, d⟩, _⟩ := I.tuple h
  obtain ⟨its', r', ⟨o', e', _, n', d'⟩, _⟩ := I.tuple h'
  rw [e] at e'; cases e'
  rw [d] at d'
  injection d' with d1 _
  have : its = its' := by simpa using congrArg Array.toList d1
  subst this
  exact r.inj r'
end

/-! ### another wish about exceptions -/
abbrev Cx.wish (X : Cx) (E : Value → Shared → Prop) : Cx := { X with xe := E }
/-- no exception leaves -/
abbrev Cx.nox (X : Cx) : Cx := X.wish fun _ _ => False
theorem Cx.Ok.wish {X : Cx} (ok : X.Ok) (E : Value → Shared → Prop) : (X.wish E).Ok :=
  ⟨ok.mod, ok.kind, ok.glob, ok.blt, ok.above, ok.inj, ok.has, ok.cab, ok.hd, ok.frames, ok.stk, ok.exf, ok.bs, ok.bsz, ok.noex, ok.exfs, ok.funs, ok.frf⟩
theorem Cx.Ok.unwish {X : Cx} {E : Value → Shared → Prop} (ok : (X.wish E).Ok) : X.Ok :=
  ⟨ok.mod, ok.kind, ok.glob, ok.blt, ok.above, ok.inj, ok.has, ok.cab, ok.hd, ok.frames, ok.stk, ok.exf, ok.bs, ok.bsz, ok.noex, ok.exfs, ok.funs, ok.frf⟩
section
variable {X : Cx} {pins : List (Addr × Obj)} {σ : St} {H : Hp} {s : Shared} {E : Value → Shared → Prop}
theorem Inv.wish (I : Inv X pins σ H s) (E : Value → Shared → Prop) : Inv (X.wish E) pins σ H s := ⟨I.ok.wish E, I.os, I.bare, I.base, I.loc, I.cell, I.free, I.freeC, I.pin, I.hok, I.len⟩
theorem Inv.unwish (I : Inv (X.wish E) pins σ H s) : Inv X pins σ H s := ⟨I.ok.unwish, I.os, I.bare, I.base, I.loc, I.cell, I.free, I.freeC, I.pin, I.hok, I.len⟩
theorem SP.unwish {D : Ends} {f : Flow} {s' : Shared} (h : SP (X.wish E) pins D f s') : SP X pins D f s' := by
  cases f with
  | next => obtain ⟨σ', H', I, q⟩ := h; exact ⟨σ', H', I.unwish, q⟩
  | brk => obtain ⟨σ', H', I, q⟩ := h; exact ⟨σ', H', I.unwish, q⟩
  | cont => obtain ⟨σ', H', I, q⟩ := h; exact ⟨σ', H', I.unwish, q⟩
  | ret u => obtain ⟨v, σ', H', I, r, q⟩ := h; exact ⟨v, σ', H', I.unwish, r, q⟩
theorem PE.nox {e : Expr} {t : TE} (h : PE X.nox e t) : PE X e t := fun pins s σ H Q I hw =>
  wpAny_mono (h pins s σ H Q (I.wish _) hw) (fun _ _ ⟨v, H', I', r, q⟩ => ⟨v, H', I'.unwish, r, q⟩) fun _ _ z => False.elim z
theorem PT.nox {e : Expr} {t : TT} (h : PT X.nox e t) : PT X e t := fun pins s σ H Q I hw =>
  wpAny_mono (h pins s σ H Q (I.wish _) hw) (fun _ _ ⟨H', I', q⟩ => ⟨H', I'.unwish, q⟩) fun _ _ z => False.elim z
theorem PSs.nox {st : List Stmt} {t : TS} (h : PSs X.nox st t) : PSs X st t := fun pins s σ H D I hw =>
  wpAny_mono (h pins s σ H D (I.wish _) hw) (fun _ _ q => q.unwish) fun _ _ z => False.elim z
end

/-! ### blocks and small statements -/
section
variable {X : Cx} {st : Stmt} {rest : List Stmt} {t u : TS} {e : Expr} {te : TE} {pos : Pos}
def tNext : TS := fun D σ H => D.nx σ H
def tSeq (t u : TS) : TS := fun D σ H => t { D with nx := u D } σ H
theorem pss_nil : PSs X [] tNext := fun _ _ σ H _ I h => wpAny_execs_nil ⟨σ, H, I, h⟩
theorem pss_cons (h1 : PS X st t) (h2 : PSs X rest u) : PSs X (st :: rest) (tSeq t u) := by
  intro pins s σ H D I h
  refine wpAny_execs_cons (thn (h1 pins s σ H { D with nx := u D } I h) fun f s1 q => ?_)
  cases f with
  | next =>
    obtain ⟨σ', H', I', q⟩ := q
    exact h2 pins s1 σ' H' D I' q
  | ret v => exact q
  | brk => exact q
  | cont => exact q
theorem pss_one (h1 : PS X st t) : PSs X [st] t := by
  intro pins s σ H D I h
  refine wpAny_execs_cons (thn (h1 pins s σ H D I h) fun f s1 q => ?_)
  cases f with
  | next => exact wpAny_execs_nil q
  | ret v => exact q
  | brk => exact q
  | cont => exact q
def tBreak : TS := fun D σ H => D.bk σ H
def tCont : TS := fun D σ H => D.ct σ H
/-- in a def's body nothing is shown -/
theorem Inv.quiet {pins : List (Addr × Obj)} {σ : St} {H : Hp} {s : Shared} (I : Inv X pins σ H s) : interactive X.env = false := by simp [interactive, I.ok.kind]
/-- an expression whose value is dropped -/
def tDrop (te : TE) : TS := fun D σ H => te σ H fun _ H1 => D.nx σ H1
theorem ps_expr (he : PE X e te) (hs : swapsWith e none pos.line X.env = pure false := by rfl) : PS X (.Expr e pos) (tDrop te) := by
  intro pins s σ H D I h
  exact wpAny_Expr_any (thn (he pins s σ H _ I h) fun v s1 ⟨x, H1, I1, r1, q1⟩ => ⟨σ, H1, I1, q1⟩) I.quiet hs
def tRet (te : TE) : TS := fun D σ H => te σ H D.rt
theorem ps_ret (he : PE X e te) : PS X (.Return (some e) pos) (tRet te) := by
  intro pins s σ H D I h
  exact wpAny_Return_some (thn (he pins s σ H _ I h) fun v s1 ⟨x, H1, I1, r1, q1⟩ => ⟨x, σ, H1, I1, r1, q1⟩)
def tRetN : TS := fun D _ H => D.rt .non H
theorem ps_retN : PS X (.Return none pos) tRetN := fun _ _ σ H _ I h => wpAny_Return_none ⟨.non, σ, H, I, rfl, h⟩
def tIfS (c : TT) (t u : TS) : TS := fun D σ H => c σ H fun b H1 => if b = true then t D σ H1 else u D σ H1
theorem ps_if {c : Expr} {a b : List Stmt} {tc : TT} (hc : PT X c tc) (ha : PSs X a t) (hb : PSs X b u) : PS X (.If c a b pos) (tIfS tc t u) := by
  intro pins s σ H D I h
  refine wpAny_If (thn (hc pins s σ H _ I h) fun d s1 ⟨H1, I1, q1⟩ => ?_)
  cases d with
  | true => exact ha pins s1 σ H1 D I1 q1
  | false => exact hb pins s1 σ H1 D I1 q1
/-- code that the proof never comes to -/
def tNever : TS := fun _ _ _ => False
end

/-! ### targets -/
abbrev TG := V → St → Hp → (St → Hp → Prop) → Prop
abbrev TGs := List V → St → Hp → (St → Hp → Prop) → Prop
def PG (X : Cx) (target : Expr) (t : TG) : Prop :=
  ∀ (pins : List (Addr × Obj)) (s : Shared) (σ : St) (H : Hp) (v : V) (u : Value) (Q : St → Hp → Prop), Inv X pins σ H s → RelV v u → t v σ H Q →
    wpAny (model X.prog X.w) X.A (assign target X.env u) (fun _ s' => ∃ σ' H', Inv X pins σ' H' s' ∧ Q σ' H') X.xe s
/-- several targets, one after another -/
def PGs (X : Cx) (ts : List Expr) (t : TGs) : Prop :=
  ∀ (pins : List (Addr × Obj)) (s : Shared) (σ : St) (H : Hp) (vs : List V) (us : List Value) (Q : St → Hp → Prop), Inv X pins σ H s → Vals vs us → t vs σ H Q →
    wpAny (model X.prog X.w) X.A (assignInOrder ((assignEach ts X.env).map (·.2)) us) (fun _ s' => ∃ σ' H', Inv X pins σ' H' s' ∧ Q σ' H') X.xe s
/-- o[i] = v, by values -/
abbrev TSet := V → V → V → Hp → (Hp → Prop) → Prop
def PSet (X : Cx) (t : TSet) : Prop :=
  ∀ (pins : List (Addr × Obj)) (s : Shared) (σ : St) (H : Hp) (o i v : V) (ov iv u : Value) (Q : Hp → Prop), Inv X pins σ H s → RelV o ov → RelV i iv → RelV v u → t o i v H Q →
    wpAny (model X.prog X.w) X.A (setItem ov iv u) (fun _ s' => ∃ H', Inv X pins σ H' s' ∧ Q H') X.xe s
/-- a op= b, by values -/
abbrev TIp := V → V → Hp → VK → Prop
def PIp (X : Cx) (op : Operator) (t : TIp) : Prop :=
  ∀ (pins : List (Addr × Obj)) (s : Shared) (σ : St) (H : Hp) (x y : V) (v u : Value) (Q : VK), Inv X pins σ H s → RelV x v → RelV y u → t x y H Q →
    wpAny (model X.prog X.w) X.A (inplaceOp op v u) (EP X pins σ Q) X.xe s
section
variable {X : Cx} {pos : Pos}
def gName (i : Nat) : TG := fun v σ H Q => Q (σ.set i (some v)) H
theorem pg_name {i : Nat} {x : Str} (hN : X.N.Nodup) (hi : X.N[i]? = some x) (hx : Loc X.env.scope x) (hf : X.fn x = true ∨ X.env.scope.names.lookup x = some .local := by first | exact .inl rfl | exact .inr rfl | assumption) : PG X (.Name x pos) (gName i) := by
  intro pins s σ H v u Q I r h
  exact wpAny_assign_Name (store_ok I hN hi hx r (fun s' I' => ⟨_, H, I', h⟩) hf)
def gNil : TGs := fun vs σ H Q => vs = [] ∧ Q σ H
def gCons (t : TG) (u : TGs) : TGs := fun vs σ H Q => ∃ v r, vs = v :: r ∧ t v σ H fun σ' H' => u r σ' H' Q
theorem pgs_nil : PGs X [] gNil := by
  intro pins s σ H vs us Q I r h
  obtain ⟨e, h⟩ := h
  subst e
  cases r
  exact assignInOrder_nil ⟨σ, H, I, h⟩
theorem pgs_cons {e : Expr} {es : List Expr} {t : TG} {u : TGs} (h1 : PG X e t) (h2 : PGs X es u)
    (hs : (assignEach (e :: es) X.env).map (·.2) = assign e X.env :: (assignEach es X.env).map (·.2) := by rfl) : PGs X (e :: es) (gCons t u) := by
  intro pins s σ H vs us Q I r h
  obtain ⟨v, vr, e1, h⟩ := h
  subst e1
  cases r with
  | cons r rr =>
    rw [hs]
    refine assignInOrder_cons (thn (h1 pins s σ H _ _ _ I r h) fun _ s1 ⟨σ1, H1, I1, q1⟩ => ?_)
    exact h2 pins s1 σ1 H1 _ _ Q I1 rr q1
/-- (a, b, ..) = a tuple of that length -/
def gTup (K : PySem.W.Frag) (n : Nat) (t : TGs) : TG := fun v σ H Q => ∃ a xs, v = .ref a ∧ SqT K H a xs ∧ xs.length = n ∧ t xs σ H Q
theorem pg_tup {es : List Expr} {k : Nat} {t : TGs} {n : Nat} (hc : X.calm = true) (h : PGs X es t)
    (hn : (assignEach es X.env).length = n := by rfl) (hst : (assignEach es X.env).findIdx? (·.1) = none := by rfl) : PG X (.Tuple es k pos) (gTup X.K n t) := by
  intro pins s σ H v u Q I r hw
  obtain ⟨a, xs, e1, hq, hl, hw⟩ := hw
  subst e1
  cases r
  obtain ⟨its, rv, ht, hz⟩ := I.tuple hq
  refine assign_Tuple_tuple (I.ok.hd hc) ht (by simp [hn, ← hl, rv.length]) hst fun h' hx => ?_
  have I1 : Inv X pins σ H { s with heap := h' } := I.kept (t' := s.toks) fun b o e => hx b o (Nat.ne_of_lt (Heap.lt_size e)) e
  exact h pins _ σ H xs _ Q I1 (by simpa using rv) hw
/-- o[i] = .. -/
def gSub (to ti : TE) (t : TSet) : TG := fun v σ H Q => to σ H fun o H1 => ti σ H1 fun i H2 => t o i v H2 fun H3 => Q σ H3
/-- target = value -/
def tAsg (te : TE) (g : TG) : TS := fun D σ H => te σ H fun x H1 => g x σ H1 D.nx
/-- name = value -/
theorem ps_set {i : Nat} {x : Str} {e : Expr} {te : TE} {pos' : Pos} (hN : X.N.Nodup) (hi : X.N[i]? = some x) (hx : Loc X.env.scope x) (he : PE X e te) (hs : swapsWith e (some (.Name x pos')) pos.line X.env = pure false := by rfl) (hf : X.fn x = true ∨ X.env.scope.names.lookup x = some .local := by first | exact .inl rfl | exact .inr rfl | assumption) :
    PS X (.Assign [.Name x pos'] e pos) (tAsg te (gName i)) := by
  intro pins s σ H D I h
  refine wpAny_Assign_Name (thn (he pins s σ H _ I h) fun v s1 ⟨y, H1, I1, r1, q1⟩ => ?_) hs
  exact store_ok I1 hN hi hx r1 (fun s2 I2 => ⟨_, H1, I2, q1⟩) hf
/-- a, b = x, y with plain local names: stored from the right; the pair itself is not tracked (the opening rows as in PyProof/Rows/TupAssign.lean:23) -/
def tPar (i j : Nat) (ta : TA) : TS := fun D σ H => ta σ H fun vs H1 => ∃ v w, vs = [v, w] ∧ D.nx ((σ.set i (some v)).set j (some w)) H1
theorem ps_par {i j : Nat} {x y : Str} {a b : Expr} {ta : TA} {px py pt : Pos} {kt k2 pt2} (hc : X.calm = true) (hN : X.N.Nodup) (hi : X.N[i]? = some x) (hj : X.N[j]? = some y) (hij : i ≠ j)
    (hx : X.env.scope.names.lookup x = some .local) (hy : X.env.scope.names.lookup y = some .local) (ha : PA X [a, b] ta)
    (hw : swappedStores [.Tuple [.Name x px, .Name y py] kt pt] (.Tuple [a, b] k2 pt2) X.env = pure (some [x, y]))
    (hs : swapsWithSole [.Tuple [.Name x px, .Name y py] kt pt] (.Tuple [a, b] k2 pt2) pos.line X.env = pure false := by rfl) :
    PS X (.Assign [.Tuple [.Name x px, .Name y py] kt pt] (.Tuple [a, b] k2 pt2) pos) (tPar i j ta) := by
  intro pins s σ H D I h
  rw [exec_Assign_arm]
  refine wpAny_bind (wpAny_standAt ?_)
  rw [hs]
  refine wpAny_bind (wpAny_pure ?_)
  rw [if_neg (by decide)]
  refine wpAny_bind (Tuple_ (thn (ha _ pins s σ H _ I h) fun us s1 ⟨vs, H1, I1, r1, q1⟩ => ?_))
  obtain ⟨v, w, e1, q1⟩ := q1
  subst e1
  obtain ⟨u1, u2, rfl, rv, rw'⟩ : ∃ u1 u2, us = [u1, u2] ∧ RelV v u1 ∧ RelV w u2 := by
    cases r1 with
    | cons p q =>
      cases q with
      | cons p' q' =>
        cases q'
        exact ⟨_, _, rfl, p, p'⟩
  refine wpAny_newObj_type ?_ (by show 2 ≤ sizeLine; decide)
  have I2 : Inv X pins σ H1 { s1 with heap := s1.heap.push { cls := .type "tuple", data := .seq [u1, u2].toArray } } := I1.kept (t' := s1.toks) fun b o e => Heap.get?_push_of_some _ e
  rw [hw]
  refine wpAny_bind (wpAny_pure ?_)
  show wpAny (model X.prog X.w) X.A (do rule "assign.swapped-stores"; let items ← unpackItems (.ref s1.heap.objs.size) 2 none; assignInOrder [fun v => bindName X.env y v, fun v => bindName X.env x v] items.reverse; pure Flow.next) _ _ _
  refine wpAny_bind (wpAny_rule (wpAny_bind (unpackItems_tuple (items := #[u1, u2]) (I.ok.hd hc) (IsTup.new s1.heap _) fun h' hx' => ?_)))
  have I3 := I2.kept (h' := h') (t' := s1.toks) fun b o e => hx' b o (Nat.ne_of_lt (Heap.lt_size e)) e
  show wpAny _ _ (assignInOrder [fun v => bindName X.env y v, fun v => bindName X.env x v] [u2, u1] >>= fun _ => pure Flow.next) _ _ _
  refine wpAny_bind (assignInOrder_cons (wpAny_bindName (store_ok I3 hN hj (.inl hy) rw' (fun s2 I4 => ?_) (.inr hy))))
  refine assignInOrder_cons (wpAny_bindName (store_ok I4 hN hi (.inl hx) rv (fun s3 I5 => assignInOrder_nil (wpAny_pure ?_)) (.inr hx)))
  rw [List.set_comm _ _ (Ne.symm hij)] at I5
  exact ⟨_, H1, I5, q1⟩
/-- name op= e -/
def tAug (i : Nat) (te : TE) (ti : TIp) : TS := fun D σ H => ∃ x, σ[i]? = some (some x) ∧ te σ H fun y H1 => ti x y H1 fun z H2 => D.nx (σ.set i (some z)) H2
/-- o[i] op= e -/
def tAugS (to ti te : TE) (tget : V → V → Hp → VK → Prop) (tip : TIp) (tset : TSet) : TS := fun D σ H => to σ H fun o H1 => ti σ H1 fun i H2 => tget o i H2 fun x H3 => te σ H3 fun y H4 => tip x y H4 fun z H5 => tset o i z H5 fun H6 => D.nx σ H6
/-- o[i], by values -/
def PGet (X : Cx) (t : V → V → Hp → VK → Prop) : Prop :=
  ∀ (pins : List (Addr × Obj)) (s : Shared) (σ : St) (H : Hp) (o i : V) (ov iv : Value) (Q : VK), Inv X pins σ H s → RelV o ov → RelV i iv → t o i H Q →
    wpAny (model X.prog X.w) X.A (getItem ov iv) (EP X pins σ Q) X.xe s
/-- ints -/
def ipI (f : Int → Int → Int) : TIp := fun x y H Q => ∃ i j, x = .int i ∧ y = .int j ∧ Q (.int (f i j)) H
end

/-! ### while -/
section
variable {X : Cx} {pos : Pos}
/-- the invariant W with its measure -/
def tWhile (c : TT) (tb : TS) : TS := fun D σ H => ∃ W : Nat → St → Hp → Prop, (∃ m, W m σ H) ∧ ∀ m σ H, W m σ H →
  c σ H fun b H1 => if b = true then ∃ N : St → Hp → Prop, (∀ σ' H', N σ' H' → ∃ m', m' < m ∧ W m' σ' H') ∧ tb { D with nx := N, ct := N, bk := D.nx } σ H1 else D.nx σ H1
theorem ps_while {c : Expr} {body : List Stmt} {tc : TT} {tb : TS} (hp : PassesOwn (model X.prog X.w) X.A X.env X.xe) (hc : PT X c tc) (hb : PSs X body tb) : PS X (.While c body [] pos) (tWhile tc tb) := by
  intro pins s σ H D I h
  obtain ⟨W, ⟨m0, w0⟩, turn⟩ := h
  refine wpAny_While (codeAny_whileLoop (fun n s' => ∃ σ' H', Inv X pins σ' H' s' ∧ W n σ' H') ?_ m0 ⟨σ, H, I, w0⟩)
  rintro n s1 ⟨σ1, H1, I1, w1⟩
  refine wpAny_passesOwn hp (thn (hc pins s1 σ1 H1 _ I1 (turn n σ1 H1 w1)) fun b s2 ⟨H2, I2, q2⟩ => ?_)
  cases b with
  | true =>
    obtain ⟨N, hN, q2⟩ := q2
    rw [if_pos rfl]
    refine wpAny_passesOwn hp (thn (hb pins s2 σ1 H2 _ I2 q2) fun f s3 q3 => ?_)
    cases f with
    | next =>
      obtain ⟨σ3, H3, I3, n3⟩ := q3
      obtain ⟨m', hm, w3⟩ := hN σ3 H3 n3
      exact ⟨m', hm, σ3, H3, I3, w3⟩
    | cont =>
      obtain ⟨σ3, H3, I3, n3⟩ := q3
      obtain ⟨m', hm, w3⟩ := hN σ3 H3 n3
      exact ⟨m', hm, σ3, H3, I3, w3⟩
    | brk => exact q3
    | ret v => exact q3
  | false =>
    rw [if_neg Bool.false_ne_true]
    exact wpAny_execs_nil ⟨σ1, H2, I2, q2⟩
end

/-! ### what a loop or a comprehension walks -/
/-- at turn i: it yields x (the heap may grow), or it stops -/
structure It where
  go : Nat → Hp → Prop
  yld : Nat → Hp → V → Hp → Prop
  stop : Nat → Hp → Prop
/-- the iterator's own objects may turn: they are not the frame's, not pinned, younger than the entry (or a comprehension's own) -/
def FpOk (X : Cx) (pins : List (Addr × Obj)) (H : Hp) (b : Addr) : Prop :=
  H b = none ∧ b ≠ X.env.locals ∧ b ∉ X.fs ∧ (b ∈ X.ex ∨ X.s₀.heap.objs.size ≤ b) ∧ (∀ x c, X.env.cells.lookup x = some c → c ≠ b) ∧ ∀ p ∈ X.pn ++ pins, p.1 ≠ b
theorem Inv.fpOk {X : Cx} {pins : List (Addr × Obj)} {σ : St} {H H' : Hp} {s : Shared} {b : Addr} (I : Inv X pins σ H s) (hb : s.heap.objs.size ≤ b) (hn : H' b = none) : FpOk X pins H' b := by
  refine ⟨hn, Nat.ne_of_gt (Nat.lt_of_lt_of_le I.lt hb), I.nofs hb, .inr (Nat.le_trans I.sz hb), fun x c e z => ?_, fun p hp z => ?_⟩
  · obtain ⟨v, q⟩ := I.cell x c e
    exact absurd (Nat.lt_of_lt_of_le q.lt (by rw [z]; exact hb)) (Nat.lt_irrefl _)
  · exact absurd (Nat.lt_of_lt_of_le (Heap.lt_size (I.pin p hp).1) (by rw [z]; exact hb)) (Nat.lt_irrefl _)
structure Turn (P : Program) (w : World) (K : PySem.W.Frag) (tg : Expr) (J : It) (fp : List Addr) (it : Addr) (tn : Nat → Heap → Prop) : Prop where
  mem : it ∈ fp
  obj : ∀ i h, tn i h → ∀ b ∈ fp, ∃ o, h.get? b = some o ∧ ∀ v, o.data ≠ .cell v
  keep : ∀ i h h', tn i h → (∀ b ∈ fp, ∀ o, h.get? b = some o → h'.get? b = some o) → tn i h'
  item : ∀ (X : Cx), X.prog = P → X.w = w → X.K = K → X.calm = true → ∀ (i : Nat) (pins : List (Addr × Obj)) (s : Shared) (σ : St) (H : Hp) (E : Value → Shared → Prop), Inv X pins σ H s → (∀ b ∈ fp, FpOk X pins H b) → tn i s.heap → J.go i H →
    wpAny (model P w) X.A (pyNext (.ref it)) (fun r s1 => ∃ u, r = some u ∧
      wpAny (model P w) X.A (letOwnedTupleGo tg (.ref it) u) (fun _ s2 => ∃ x H', Inv X pins σ H' s2 ∧ RelV x u ∧ J.yld i H x H' ∧ tn (i + 1) s2.heap ∧ ∀ b ∈ fp, H' b = none) E s1) E s
  done : ∀ (X : Cx), X.prog = P → X.w = w → X.K = K → X.calm = true → ∀ (i : Nat) (pins : List (Addr × Obj)) (s : Shared) (σ : St) (H : Hp) (E : Value → Shared → Prop), Inv X pins σ H s → (∀ b ∈ fp, FpOk X pins H b) → tn i s.heap → J.stop i H →
    wpAny (model P w) X.A (pyNext (.ref it)) (fun r s1 => r = none ∧ Inv X pins σ H s1) E s
  self : ∀ (A : Around) (i : Nat) (s : Shared) (Q : Value → Shared → Prop) (E : Value → Shared → Prop), tn i s.heap → Q (.ref it) s → wpAny (model P w) A (pyIter (.ref it)) Q E s
abbrev TI := St → Hp → (It → Hp → Prop) → Prop
/-- an iterator has come -/
def PIE (X : Cx) (pins : List (Addr × Obj)) (σ : St) (tg : Expr) (R : It → Hp → Prop) (itv : Value) (s2 : Shared) : Prop :=
  ∃ (it : Addr) (fp : List Addr) (tn : Nat → Heap → Prop) (J : It) (H' : Hp), itv = .ref it ∧ Inv X pins σ H' s2 ∧ Turn X.prog X.w X.K tg J fp it tn ∧ tn 0 s2.heap ∧ (∀ b ∈ fp, FpOk X pins H' b) ∧ R J H'
def PI (X : Cx) (tg iter : Expr) (wi : TI) : Prop :=
  ∀ (pins : List (Addr × Obj)) (s : Shared) (σ : St) (H : Hp) (R : It → Hp → Prop), Inv X pins σ H s → wi σ H R →
    wpAny (model X.prog X.w) X.A (eval iter X.env) (fun v s1 => wpAny (model X.prog X.w) X.A (pyIter v) (PIE X pins σ tg R) X.xe s1) X.xe s

/-- the step ahead of the store is nothing for an iterator that keeps no tuple -/
theorem go_of {M : Model} {A : Around} {E : Value → Shared → Prop} {s : Shared} {tg : Expr} {it : Addr} {u : Value} {o : Obj} {n : String} {vs : Array Value} {Q : Unit → Shared → Prop} (ho : s.heap.get? it = some o) (hc : o.cls = .type n) (hd : o.data = .fields vs)
    (hn : ["enumerate", "zip", "dict_itemiterator", "dict_reverseitemiterator", "odict_iterator", "itertools.zip_longest", "itertools.pairwise"].contains n = false) (hQ : Q () s) : wpAny M A (letOwnedTupleGo tg (.ref it) u) Q E s := by
  unfold letOwnedTupleGo
  cases tg <;> first
    | exact wpAny_pure hQ
    | (cases u <;> first
        | exact wpAny_pure hQ
        | (refine wpAny_bind (wpAny_load ho ?_)
           rw [hc, hd]
           show wpAny M A (if (["enumerate", "zip", "dict_itemiterator", "dict_reverseitemiterator", "odict_iterator", "itertools.zip_longest", "itertools.pairwise"].contains n && vs[0]? == some (rawInt _)) = true then _ else _) Q E s
           rw [if_neg (by intro h; rw [hn, Bool.false_and] at h; cases h)]
           exact wpAny_pure hQ))

/-- the list at a, as it stands at each turn (a loop may append to it) -/
def Itl (K : PySem.W.Frag) (a : Addr) : It :=
  ⟨fun i H => ∃ xs x, SqL K H a xs ∧ xs[i]? = some x, fun i H x H' => H' = H ∧ ∀ xs, SqL K H a xs → xs[i]? = some x, fun i H => ∃ xs, SqL K H a xs ∧ xs.length ≤ i⟩
def Itt (K : PySem.W.Frag) (a : Addr) : It :=
  ⟨fun i H => ∃ xs x, SqT K H a xs ∧ xs[i]? = some x, fun i H x H' => H' = H ∧ ∀ xs, SqT K H a xs → xs[i]? = some x, fun i H => ∃ xs, SqT K H a xs ∧ xs.length ≤ i⟩
/-- lo, lo + 1, .. (n of them) -/
def Itr (lo : Int) (n : Nat) : It := ⟨fun i _ => i < n, fun i H x H' => H' = H ∧ x = .int (lo + i), fun i _ => n ≤ i⟩
theorem turn_list {P : Program} {w : World} {K : PySem.W.Frag} {tg : Expr} (a it : Addr) : Turn P w K tg (Itl K a) [it] it (fun i h => h.IsListIter it a i) where
  mem := by simp
  obj := fun i h st b hb => by
    have e : b = it := by simpa using hb
    subst e
    obtain ⟨o, e, c, d⟩ := st
    exact ⟨o, e, fun v z => by rw [d] at z; cases z⟩
  keep := fun i h h' st k => st.at fun o e => k it (by simp) o e
  item := by
    intro X hP hw hK hc i pins s σ H E I hf st hg
    subst hP hw hK
    obtain ⟨xs, x, hq, hx⟩ := hg
    obtain ⟨its, rv, p, hz⟩ := I.list hq
    obtain ⟨u, hu, ru⟩ := rv.get hx
    obtain ⟨f0, f1, f2, f3, f4, f5⟩ := hf it (by simp)
    refine wpAny_pyNext_list_item st p.isList (x := u) (by simpa using hu) fun h' st' sb => ?_
    have I1 : Inv X pins σ H { s with heap := h' } := I.turned (t' := s.toks) (fun b o hb e => (sb.2 b hb).trans e) f0 f1 f3 f4 f5
    obtain ⟨o, e, c, d⟩ := id st'
    exact ⟨u, rfl, go_of (s := { s with heap := h' }) e c d (by decide) ⟨x, H, I1, ru, ⟨rfl, fun ys hy => by rw [I.list_inj hy hq]; exact hx⟩, st', fun b hb => (hf b hb).1⟩⟩
  done := by
    intro X hP hw hK hc i pins s σ H E I hf st hg
    subst hP hw hK
    obtain ⟨xs, hq, hx⟩ := hg
    obtain ⟨its, rv, p, hz⟩ := I.list hq
    obtain ⟨f0, f1, f2, f3, f4, f5⟩ := hf it (by simp)
    have hl := rv.length
    exact wpAny_pyNext_list_end (I.ok.hd hc) st p.isList (by simp; omega) fun h' eb => ⟨rfl, I.turned (t' := s.toks) (fun b o hb e => eb b o hb e) f0 f1 f3 f4 f5⟩
  self := fun _ _ _ _ _ st h => wpAny_pyIter_listiter st h
theorem turn_tuple {P : Program} {w : World} {K : PySem.W.Frag} {tg : Expr} (a it : Addr) : Turn P w K tg (Itt K a) [it] it (fun i h => h.IsTupleIter it a i) where
  mem := by simp
  obj := fun i h st b hb => by
    have e : b = it := by simpa using hb
    subst e
    obtain ⟨o, e, c, d⟩ := st
    exact ⟨o, e, fun v z => by rw [d] at z; cases z⟩
  keep := fun i h h' st k => st.at fun o e => k it (by simp) o e
  item := by
    intro X hP hw hK hc i pins s σ H E I hf st hg
    subst hP hw hK
    obtain ⟨xs, x, hq, hx⟩ := hg
    obtain ⟨its, rv, p, hz⟩ := I.tuple hq
    obtain ⟨u, hu, ru⟩ := rv.get hx
    obtain ⟨f0, f1, f2, f3, f4, f5⟩ := hf it (by simp)
    refine wpAny_pyNext_tuple_item st (show s.heap.IsTuple a its.toArray from p) (x := u) (by simpa using hu) fun h' st' sb => ?_
    have I1 : Inv X pins σ H { s with heap := h' } := I.turned (t' := s.toks) (fun b o hb e => (sb.2 b hb).trans e) f0 f1 f3 f4 f5
    obtain ⟨o, e, c, d⟩ := id st'
    exact ⟨u, rfl, go_of (s := { s with heap := h' }) e c d (by decide) ⟨x, H, I1, ru, ⟨rfl, fun ys hy => by rw [I.tuple_inj hy hq]; exact hx⟩, st', fun b hb => (hf b hb).1⟩⟩
  done := by
    intro X hP hw hK hc i pins s σ H E I hf st hg
    subst hP hw hK
    obtain ⟨xs, hq, hx⟩ := hg
    obtain ⟨its, rv, p, hz⟩ := I.tuple hq
    obtain ⟨f0, f1, f2, f3, f4, f5⟩ := hf it (by simp)
    have hl := rv.length
    exact wpAny_pyNext_tuple_end (I.ok.hd hc) st (show s.heap.IsTuple a its.toArray from p) (by simp; omega) fun h' eb => ⟨rfl, I.turned (t' := s.toks) (fun b o hb e => eb b o hb e) f0 f1 f3 f4 f5⟩
  self := fun _ _ _ _ _ st h => wpAny_pyIter_tupleiter st h
theorem turn_range {P : Program} {w : World} {K : PySem.W.Frag} {tg : Expr} (it : Addr) (lo : Int) (n : Nat) : Turn P w K tg (Itr lo n) [it] it (fun i h => IsRangeIter h it (lo + (i : Nat) * 1) ((n : Int) - (i : Nat)) 1) where
  mem := by simp
  obj := fun i h st b hb => by
    have e : b = it := by simpa using hb
    subst e
    exact ⟨_, st, fun v z => by
      have z' : Data.fields _ = Data.cell v := z
      cases z'⟩
  keep := fun i h h' st k => k it (by simp) _ st
  item := by
    intro X hP hw hK hc i pins s σ H E I hf st hg
    subst hP hw hK
    obtain ⟨f0, f1, f2, f3, f4, f5⟩ := hf it (by simp)
    have W := Walks.range (prog := X.prog) (w := X.w) (I.ok.hd hc) it lo 1 n
    refine W.item i s _ _ hg st fun v h' tk hv st' kk => ?_
    obtain ⟨t, rfl⟩ := hv
    have I1 : Inv X pins σ H { s with heap := h', toks := tk } := I.turned (fun b o hb e => kk b o (by simpa using hb) e) f0 f1 f3 f4 f5
    refine ⟨_, rfl, go_of (s := { s with heap := h', toks := tk }) (n := "range_iterator") st' rfl rfl (by decide) ⟨.int (lo + i), H, I1, ⟨t, ?_⟩, ⟨rfl, rfl⟩, st', fun b hb => (hf b hb).1⟩⟩
    rw [Int.mul_one]
  done := by
    intro X hP hw hK hc i pins s σ H E I hf st hg
    subst hP hw hK
    obtain ⟨f0, f1, f2, f3, f4, f5⟩ := hf it (by simp)
    exact wpAny_pyNext_range_end (I.ok.hd hc) st (by have : n ≤ i := hg; omega) fun h' eb => ⟨rfl, I.turned (t' := s.toks) (fun b o hb e => eb b o hb e) f0 f1 f3 f4 f5⟩
  self := fun _ _ _ _ _ st h => wpAny_pyIter_rangeiter st h
end L2

namespace L2
open PySem PySem.Spec PyProof.Rows
section
variable {X : Cx} {tg : Expr}
def iList (K : PySem.W.Frag) (tl : TE) : TI := fun σ H R => tl σ H fun x H1 => ∃ a, x = .ref a ∧ (∃ xs, SqL K H1 a xs) ∧ R (Itl K a) H1
def iTup (K : PySem.W.Frag) (tl : TE) : TI := fun σ H R => tl σ H fun x H1 => ∃ a, x = .ref a ∧ (∃ xs, SqT K H1 a xs) ∧ R (Itt K a) H1
theorem pi_list {l : Expr} {tl : TE} (hl : PE X l tl) : PI X tg l (iList X.K tl) := by
  intro pins s σ H R I h
  refine thn (hl pins s σ H _ I h) fun v s1 ⟨x, H1, I1, r1, q1⟩ => ?_
  obtain ⟨a, e, ⟨xs, hq⟩, q⟩ := q1
  subst e
  cases r1
  obtain ⟨its, rv, p, hz⟩ := I1.list hq
  refine wpAny_pyIter_list p.isList ?_
  refine ⟨s1.heap.objs.size, [s1.heap.objs.size], _, _, H1, rfl, I1.kept (t' := s1.toks) fun b o e => Heap.get?_push_of_some _ e, turn_list a _, ⟨_, Heap.get?_push_size _ rfl, rfl, rfl⟩, fun b hb => ?_, q⟩
  have e : b = s1.heap.objs.size := by simpa using hb
  subst e
  exact I1.fpOk (Nat.le_refl _) (I1.hok.fresh (Nat.le_refl _))
theorem pi_tup {l : Expr} {tl : TE} (hl : PE X l tl) : PI X tg l (iTup X.K tl) := by
  intro pins s σ H R I h
  refine thn (hl pins s σ H _ I h) fun v s1 ⟨x, H1, I1, r1, q1⟩ => ?_
  obtain ⟨a, e, ⟨xs, hq⟩, q⟩ := q1
  subst e
  cases r1
  obtain ⟨its, rv, p, hz⟩ := I1.tuple hq
  refine wpAny_pyIter_tuple (show s1.heap.IsTuple a its.toArray from p) ?_
  refine ⟨s1.heap.objs.size, [s1.heap.objs.size], _, _, H1, rfl, I1.kept (t' := s1.toks) fun b o e => Heap.get?_push_of_some _ e, turn_tuple a _, ⟨_, Heap.get?_push_size _ rfl, rfl, rfl⟩, fun b hb => ?_, q⟩
  have e : b = s1.heap.objs.size := by simpa using hb
  subst e
  exact I1.fpOk (Nat.le_refl _) (I1.hok.fresh (Nat.le_refl _))
/-- a range object just made, walked -/
theorem range_it {pins : List (Addr × Obj)} {σ : St} {H : Hp} {s : Shared} {R : It → Hp → Prop} {E : Value → Shared → Prop} {lo hi : Int} {t u v : Tok} {tk : Nat} (I : Inv X pins σ H s) (h1 : -(2 ^ 62) ≤ lo) (h2 : lo < 2 ^ 62) (h3 : -(2 ^ 62) ≤ hi) (h4 : hi < 2 ^ 62)
    (q : R (Itr lo (hi - lo).toNat) H) : wpAny (model X.prog X.w) X.A (pyIter (.ref s.heap.objs.size)) (PIE X pins σ tg R) E { s with heap := s.heap.push { cls := .type "range", data := .fields #[.int lo t, .int hi u, .int 1 v] }, toks := tk } := by
  refine wpAny_pyIter_range (IsRange.new ..) (small_one h1 h2 h3 h4) ?_
  have I1 : Inv X pins σ H { s with heap := s.heap.push { cls := .type "range", data := .fields #[.int lo t, .int hi u, .int 1 v] }, toks := tk } := I.kept fun b o e => Heap.get?_push_of_some _ e
  refine ⟨(s.heap.push { cls := .type "range", data := .fields #[.int lo t, .int hi u, .int 1 v] }).objs.size, [(s.heap.push { cls := .type "range", data := .fields #[.int lo t, .int hi u, .int 1 v] }).objs.size], _, _, H, rfl,
    I1.kept (t' := tk) fun b o e => Heap.get?_push_of_some _ e, turn_range _ lo (hi - lo).toNat, ?_, fun b hb => ?_, q⟩
  · have e1 : lo + ((0 : Nat) : Int) * 1 = lo := by simp
    have e2 : (((hi - lo).toNat : Nat) : Int) - ((0 : Nat) : Int) = Builtin.Range.rangeSize lo hi 1 := by rw [rangeSize_one]; split <;> omega
    show IsRangeIter _ _ (lo + ((0 : Nat) : Int) * 1) ((((hi - lo).toNat : Nat) : Int) - ((0 : Nat) : Int)) 1
    rw [e1, e2]
    exact Heap.get?_push_size _ rfl
  · have e : b = (s.heap.push { cls := .type "range", data := .fields #[.int lo t, .int hi u, .int 1 v] }).objs.size := by simpa using hb
    subst e
    exact I1.fpOk (Nat.le_refl _) (I1.hok.fresh (Nat.le_refl _))
def iRng1 (ta : TA) : TI := fun σ H R => ta σ H fun vs H1 => ∃ j : Int, vs = [.int j] ∧ -(2 ^ 62) ≤ j ∧ j < 2 ^ 62 ∧ R (Itr 0 j.toNat) H1
def iRng2 (ta : TA) : TI := fun σ H R => ta σ H fun vs H1 => ∃ i j : Int, vs = [.int i, .int j] ∧ (-(2 ^ 62) ≤ i ∧ i < 2 ^ 62 ∧ -(2 ^ 62) ≤ j ∧ j < 2 ^ 62) ∧ R (Itr i (j - i).toNat) H1
theorem pi_range1 {a : Expr} {ta : TA} {p pos : Pos} (hg : Gl X "range") (hm : X.mg "range" = none) (ha : PA X [a] ta) (hs : starEach [a] X.env = [(false, eval a X.env)] := by rfl) : PI X tg (.Call (.Name "range" p) [a] [] pos) (iRng1 ta) := by
  intro pins s σ H R I h
  refine Call_ (ld_blt I hg hm boot_range (PyProof.Rows.callWith_type1 (thn (ha pos pins s σ H _ I h) fun us s1 ⟨vs, H1, I1, r1, q1⟩ => ?_) hs rfl))
  obtain ⟨j, e, q1, q2, q⟩ := q1
  subst e
  cases r1 with
  | cons r rr =>
    cases rr
    obtain ⟨t, rfl⟩ := r
    exact call_range_1 (range_it I1 (by omega) (by omega) q1 q2 (by simpa using q))
/-! ### for -/
/-- W: the invariant by the turn and a measure; N: what the body is to reach -/
def tFor (wi : TI) (g : TG) (tb : TS) : TS := fun D σ H => wi σ H fun J H1 => ∃ W : Nat → Nat → St → Hp → Prop, (∃ m, W 0 m σ H1) ∧ ∀ i m σ H, W i m σ H →
  (J.stop i H ∧ D.nx σ H) ∨ (J.go i H ∧ ∃ N : St → Hp → Prop, (∀ σ' H', N σ' H' → ∃ m', m' < m ∧ W (i + 1) m' σ' H') ∧ ∀ x H', J.yld i H x H' → g x σ H' fun σ2 H2 => tb { D with nx := N, ct := N, bk := D.nx } σ2 H2)
/-- the records at fp as they stand -/
def pinsAt (fp : List Addr) (h : Heap) : List (Addr × Obj) := fp.filterMap fun b => (h.get? b).map fun o => (b, o)
theorem mem_pinsAt {fp : List Addr} {h : Heap} {b : Addr} {o : Obj} (hb : b ∈ fp) (e : h.get? b = some o) : (b, o) ∈ pinsAt fp h := List.mem_filterMap.mpr ⟨b, hb, by rw [e]; rfl⟩
theorem of_pinsAt {fp : List Addr} {h : Heap} {p : Addr × Obj} (hp : p ∈ pinsAt fp h) : p.1 ∈ fp ∧ h.get? p.1 = some p.2 := by
  obtain ⟨b, hb, e⟩ := List.mem_filterMap.mp hp
  cases q : h.get? b with
  | none => rw [q] at e; cases e
  | some o =>
    rw [q] at e
    have e' : (b, o) = p := Option.some.inj e
    subst e'
    exact ⟨hb, q⟩
theorem Inv.pinned {pins : List (Addr × Obj)} {σ : St} {H : Hp} {s : Shared} {fp : List Addr} (I : Inv X pins σ H s) (hf : ∀ b ∈ fp, FpOk X pins H b) (ho : ∀ b ∈ fp, ∃ o, s.heap.get? b = some o ∧ ∀ v, o.data ≠ .cell v) : Inv X (pins ++ pinsAt fp s.heap) σ H s :=
  I.pins_of fun p hp => (List.mem_append.mp hp).elim (fun z => I.pin p (List.mem_append_right _ z)) fun z => by
    obtain ⟨hb, e⟩ := of_pinsAt z
    obtain ⟨f0, f1, f2, _⟩ := hf p.1 hb
    obtain ⟨o, e', d⟩ := ho p.1 hb
    rw [e] at e'; cases e'
    exact ⟨e, f0, f1, f2, d⟩
theorem Inv.unpinned {pins pl : List (Addr × Obj)} {σ : St} {H : Hp} {s : Shared} (I : Inv X (pins ++ pl) σ H s) : Inv X pins σ H s := I.pins_of fun p hp => I.pin p (List.mem_append_right _ (List.mem_append_left _ hp))
theorem ps_for {iter : Expr} {body : List Stmt} {wi : TI} {g : TG} {tb : TS} {pos : Pos} (hp : PassesOwn (model X.prog X.w) X.A X.env X.xe) (hc : X.calm = true) (hi : PI X tg iter wi) (hg : PG X tg g) (hb : PSs X body tb)
    (hs : ∀ x, foldedSetIterable iter X.env x = pure x := by intro _; rfl) : PS X (.For tg iter body [] pos) (tFor wi g tb) := by
  intro pins s σ H D I h
  refine wpAny_For (thn (hi pins s σ H _ I h) fun v s1 h1 => thn h1 fun itv s2 h2 => ?_) hs
  obtain ⟨it, fp, tn, J, H2, e, I2, T, st2, f2, W, ⟨m0, w0⟩, turn⟩ := h2
  subst e
  -- what stays true of the iterator's objects through the loop
  have stat : ∀ {H' : Hp}, (∀ b ∈ fp, H' b = none) → ∀ b ∈ fp, FpOk X pins H' b := fun hn b hb => ⟨hn b hb, (f2 b hb).2⟩
  refine codeAny_forLoop_any (fun n s' => ∃ i σ' H', Inv X pins σ' H' s' ∧ tn i s'.heap ∧ (∀ b ∈ fp, H' b = none) ∧ W i n σ' H') ?_ m0 ⟨0, σ, H2, I2, st2, fun b hb => (f2 b hb).1, w0⟩
  rintro n s3 ⟨i, σ3, H3, I3, st3, fr3, w3⟩
  rcases turn i n σ3 H3 w3 with ⟨stop, qn⟩ | ⟨go, N, hN, step⟩
  · refine wpAny_passesOwn hp (thn (T.done X rfl rfl rfl hc i pins s3 σ3 H3 X.xe I3 (stat fr3) st3 stop) fun r s4 ⟨hr, I4⟩ => ?_)
    subst hr
    exact wpAny_execs_nil ⟨σ3, H3, I4, qn⟩
  · refine wpAny_passesOwn hp (thn (T.item X rfl rfl rfl hc i pins s3 σ3 H3 X.xe I3 (stat fr3) st3 go) fun r s4 ⟨u, hr, h4⟩ => ?_)
    subst hr
    refine wpAny_passesOwn hp (thn h4 fun _ s5 ⟨x, H5, I5, r5, y5, st5, fr5⟩ => ?_)
    have I5' := I5.pinned (stat fr5) (T.obj _ _ st5)
    refine wpAny_passesOwn hp (thn (hg _ s5 σ3 H5 x u _ I5' r5 (step x H5 y5)) fun _ s6 ⟨σ6, H6, I6, q6⟩ => ?_)
    refine wpAny_passesOwn hp (thn (hb _ s6 σ6 H6 _ I6 q6) fun f s7 q7 => ?_)
    have again : ∀ {σ7 : St} {H7 : Hp}, Inv X (pins ++ pinsAt fp s5.heap) σ7 H7 s7 → N σ7 H7 → ∃ m, m < n ∧ ∃ i σ' H', Inv X pins σ' H' s7 ∧ tn i s7.heap ∧ (∀ b ∈ fp, H' b = none) ∧ W i m σ' H' := fun {σ7 H7} I7 n7 => by
      obtain ⟨m', hm, w7⟩ := hN σ7 H7 n7
      refine ⟨m', hm, i + 1, σ7, H7, I7.unpinned, T.keep _ _ _ st5 fun b hb o e => (I7.pin (b, o) (List.mem_append_right _ (List.mem_append_right _ (mem_pinsAt hb e)))).1, fun b hb => ?_, w7⟩
      obtain ⟨o, e, d⟩ := T.obj _ _ st5 b hb
      exact (I7.pin (b, o) (List.mem_append_right _ (List.mem_append_right _ (mem_pinsAt hb e)))).2.1
    cases f with
    | next => obtain ⟨σ7, H7, I7, n7⟩ := q7; exact again I7 n7
    | cont => obtain ⟨σ7, H7, I7, n7⟩ := q7; exact again I7 n7
    | brk => obtain ⟨σ7, H7, I7, q7⟩ := q7; exact ⟨σ7, H7, I7.unpinned, q7⟩
    | ret v => obtain ⟨x7, σ7, H7, I7, r7, q7⟩ := q7; exact ⟨x7, σ7, H7, I7.unpinned, r7, q7⟩
end

/-! ### the forms one uses -/
end L2

namespace L2
open PySem PySem.Spec PyProof.Rows

abbrev R2 := V → V → Hp → VK → Prop
/-- a two-place operation on values: f is binaryOp op, inplaceOp op or compareOp op -/
def OpR (X : Cx) (f : Value → Value → Sem Value) (r : R2) : Prop :=
  ∀ (pins : List (Addr × Obj)) (s : Shared) (σ : St) (H : Hp) (x y : V) (v u : Value) (Q : VK), Inv X pins σ H s → RelV x v → RelV y u → r x y H Q →
    wpAny (model X.prog X.w) X.A (f v u) (EP X pins σ Q) X.xe s
/-- a one-place operation -/
def UnR (X : Cx) (f : Value → Sem Value) (r : V → Hp → VK → Prop) : Prop :=
  ∀ (pins : List (Addr × Obj)) (s : Shared) (σ : St) (H : Hp) (x : V) (v : Value) (Q : VK), Inv X pins σ H s → RelV x v → r x H Q →
    wpAny (model X.prog X.w) X.A (f v) (EP X pins σ Q) X.xe s
/-- a call of a value that is known (a builtin, a type) with values -/
def CallR (X : Cx) (f : Value) (r : List V → Hp → VK → Prop) : Prop :=
  ∀ (pins : List (Addr × Obj)) (s : Shared) (σ : St) (H : Hp) (xs : List V) (us : List Value) (Q : VK), Inv X pins σ H s → Vals xs us → r xs H Q →
    wpAny (model X.prog X.w) X.A (call f us) (EP X pins σ Q) X.xe s
/-- a value's truth -/
def TruR (X : Cx) (r : V → Hp → (Bool → Hp → Prop) → Prop) : Prop :=
  ∀ (pins : List (Addr × Obj)) (s : Shared) (σ : St) (H : Hp) (x : V) (v : Value) (Q : Bool → Hp → Prop), Inv X pins σ H s → RelV x v → r x H Q →
    wpAny (model X.prog X.w) X.A (truthy v) (TP X pins σ Q) X.xe s

def tOp (r : R2) (ta tb : TE) : TE := fun σ H Q => ta σ H fun x H1 => tb σ H1 fun y H2 => r x y H2 Q
def tUn (r : V → Hp → VK → Prop) (ta : TE) : TE := fun σ H Q => ta σ H fun x H1 => r x H1 Q
/-- ints in, under C, and a value out -/
def rI (C : Int → Int → Prop) (g : Int → Int → V) : R2 := fun x y H Q => ∃ i j, x = .int i ∧ y = .int j ∧ C i j ∧ Q (g i j) H
def rI0 (g : Int → Int → V) : R2 := fun x y H Q => ∃ i j, x = .int i ∧ y = .int j ∧ Q (g i j) H
def rU (g : Int → V) : V → Hp → VK → Prop := fun x H Q => ∃ i, x = .int i ∧ Q (g i) H

section
variable {X : Cx} {a b c : Expr} {ta tb tc : TE} {pos : Pos}

theorem binT (ha : PE X a ta) (hb : PE X b tb) {pins : List (Addr × Obj)} {s : Shared} {σ : St} {H : Hp} {R : V → V → Hp → Prop} (I : Inv X pins σ H s)
    (h : ta σ H fun x H1 => tb σ H1 fun y H2 => R x y H2) {Q : Value → Shared → Prop} {f : Value → Value → Sem Value}
    (hf : ∀ v u s2 x y H2, Inv X pins σ H2 s2 → RelV x v → RelV y u → R x y H2 → wpAny (model X.prog X.w) X.A (f v u) Q X.xe s2) :
    wpAny (model X.prog X.w) X.A (eval a X.env) (fun v s₁ => wpAny (model X.prog X.w) X.A (eval b X.env) (fun u s₂ => wpAny (model X.prog X.w) X.A (f v u) Q X.xe s₂) X.xe s₁) X.xe s := by
  refine thn (ha pins s σ H _ I h) fun v s1 ⟨x, H1, I1, r1, q1⟩ => ?_
  refine thn (hb pins s1 σ H1 _ I1 q1) fun u s2 ⟨y, H2, I2, r2, q2⟩ => ?_
  exact hf v u s2 x y H2 I2 r1 r2 q2

theorem pe_op {op : Operator} {r : R2} (ho : OpR X (binaryOp op) r) (ha : PE X a ta) (hb : PE X b tb) : PE X (.BinOp a op b pos) (tOp r ta tb) := by
  intro pins s σ H Q I h
  exact wpAny_BinOp (binT ha hb I h fun v u s2 x y H2 I2 rx ry q => ho pins s2 σ H2 x y v u Q I2 rx ry q)
theorem pe_un {op : UnaryOp} {r : V → Hp → VK → Prop} (ho : UnR X (unaryOp op) r) (ha : PE X a ta) : PE X (.UnaryOp op a pos) (tUn r ta) := by
  intro pins s σ H Q I h
  exact UnaryOp_ (thn (ha pins s σ H _ I h) fun v s1 ⟨x, H1, I1, r1, q1⟩ => ho pins s1 σ H1 x v Q I1 r1 q1)
/-! ### ints -/
theorem opI {f : Value → Value → Sem Value} {C : Int → Int → Prop} {g : Int → Int → Int}
    (rule : ∀ (i j : Int) (t u : Tok) (s : Shared) (Q : Value → Shared → Prop) (E : Value → Shared → Prop), C i j → Q (.int (g i j) s.toks) { s with toks := s.toks + 1 } → wpAny (model X.prog X.w) X.A (f (.int i t) (.int j u)) Q E s) :
    OpR X f (rI C fun i j => .int (g i j)) := by
  intro pins s σ H x y v u Q I rx ry h
  obtain ⟨i, j, rfl, rfl, hc, q⟩ := h
  obtain ⟨t, rfl⟩ := rx
  obtain ⟨t', rfl⟩ := ry
  exact rule i j t t' s _ _ hc ⟨.int (g i j), H, I.tok _, ⟨_, rfl⟩, q⟩
theorem opI0 {f : Value → Value → Sem Value} {g : Int → Int → Int}
    (rule : ∀ (i j : Int) (t u : Tok) (s : Shared) (Q : Value → Shared → Prop) (E : Value → Shared → Prop), Q (.int (g i j) s.toks) { s with toks := s.toks + 1 } → wpAny (model X.prog X.w) X.A (f (.int i t) (.int j u)) Q E s) :
    OpR X f (rI0 fun i j => .int (g i j)) := by
  intro pins s σ H x y v u Q I rx ry h
  obtain ⟨i, j, rfl, rfl, q⟩ := h
  obtain ⟨t, rfl⟩ := rx
  obtain ⟨t', rfl⟩ := ry
  exact rule i j t t' s _ _ ⟨.int (g i j), H, I.tok _, ⟨_, rfl⟩, q⟩
theorem opB0 {f : Value → Value → Sem Value} {g : Int → Int → Bool}
    (rule : ∀ (i j : Int) (t u : Tok) (s : Shared) (Q : Value → Shared → Prop) (E : Value → Shared → Prop), Q (.bool (g i j)) s → wpAny (model X.prog X.w) X.A (f (.int i t) (.int j u)) Q E s) :
    OpR X f (rI0 fun i j => .bl (g i j)) := by
  intro pins s σ H x y v u Q I rx ry h
  obtain ⟨i, j, rfl, rfl, q⟩ := h
  obtain ⟨t, rfl⟩ := rx
  obtain ⟨t', rfl⟩ := ry
  exact rule i j t t' s _ _ ⟨.bl (g i j), H, I, rfl, q⟩

def CDiv (i j : Int) : Prop := 0 < j ∧ j < 1073741824
def CDivN (i j : Int) : Prop := j ≠ 0 ∧ j.natAbs < 1073741824
def CPow (i j : Int) : Prop := 0 ≤ j ∧ j ≤ 1000000 ∧ i.natAbs < 2 ^ 64
def CMul (i j : Int) : Prop := (-(2 ^ 64) < i ∧ i < 2 ^ 64) ∨ (-(2 ^ 64) < j ∧ j < 2 ^ 64)
theorem CMul.ok {i j : Int} (h : CMul i j) : IntMulOk i j := by
  rcases h with ⟨h1, h2⟩ | ⟨h1, h2⟩
  · exact .of_left (intBits_le_64 h1 h2)
  · exact .of_right (intBits_le_64 h1 h2)
theorem op_add : OpR X (binaryOp .Add) (rI0 fun i j => .int (i + j)) := opI0 fun _ _ _ _ _ _ _ q => add_int q
theorem op_sub : OpR X (binaryOp .Sub) (rI0 fun i j => .int (i - j)) := opI0 fun _ _ _ _ _ _ _ q => sub_int q
theorem op_modN : OpR X (binaryOp .Mod) (rI (fun _ j => j ≠ 0) fun i j => .int (i.fmod j)) := opI fun _ _ _ _ _ _ _ hc q => mod_int' hc q
theorem unI {f : Value → Sem Value} {g : Int → Int}
    (rule : ∀ (i : Int) (t : Tok) (s : Shared) (Q : Value → Shared → Prop) (E : Value → Shared → Prop), Q (.int (g i) s.toks) { s with toks := s.toks + 1 } → wpAny (model X.prog X.w) X.A (f (.int i t)) Q E s) :
    UnR X f (rU fun i => .int (g i)) := by
  intro pins s σ H x v Q I rx h
  obtain ⟨i, rfl, q⟩ := h
  obtain ⟨t, rfl⟩ := rx
  exact rule i t s _ _ ⟨.int (g i), H, I.tok _, ⟨_, rfl⟩, q⟩
theorem un_neg : UnR X (unaryOp .USub) (rU fun i => .int (-i)) := unI fun _ _ _ _ _ q => neg_int q
/-! ### bools among ints: n += (a < b) -/
end

/-! ### comparisons -/
/-- the scalars that == tells apart as data does -/
def scal : V → V → Bool
  | .non, .non => true | .non, .int _ => true | .int _, .non => true | .non, .bl _ => true | .bl _, .non => true | .non, .str _ => true | .str _, .non => true
  | .int _, .int _ => true | .bl _, .bl _ => true | .str _, .str _ => true | .byt _, .byt _ => true
  | .int _, .str _ => true | .str _, .int _ => true | .bl _, .str _ => true | .str _, .bl _ => true
  | _, _ => false
def rEq : R2 := fun x y H Q => scal x y = true ∧ Q (.bl (decide (x = y))) H
def rNe : R2 := fun x y H Q => scal x y = true ∧ Q (.bl (!decide (x = y))) H

theorem dec_int {i j : Int} : decide (V.int i = V.int j) = (i == j) := by
  rw [Bool.eq_iff_iff]
  simp
theorem dec_bl {i j : Bool} : decide (V.bl i = V.bl j) = (i == j) := by
  rw [Bool.eq_iff_iff]
  simp
theorem dec_str {i j : Str} : decide (V.str i = V.str j) = (i == j) := by
  rw [Bool.eq_iff_iff]
  simp
theorem dec_byt {i j : Array UInt8} : decide (V.byt i = V.byt j) = (i.toList == j.toList) := by
  rw [Bool.eq_iff_iff]
  cases i
  cases j
  simp

section
variable {X : Cx} {a b c : Expr} {ta tb tc : TE} {pos : Pos}
theorem fin_bl {pins : List (Addr × Obj)} {σ : St} {H : Hp} {s : Shared} {Q : VK} {k k' : Bool} (I : Inv X pins σ H s) (q : Q (.bl k) H) (e : k = k') : EP X pins σ Q (.bool k') s := by
  subst e
  exact ⟨.bl k, H, I, rfl, q⟩
theorem op_eq : OpR X (compareOp .Eq) rEq := by
  intro pins s σ H x y v u Q I rx ry h
  obtain ⟨hs, q⟩ := h
  cases x with
  | non =>
    cases rx
    cases y with
    | non => cases ry; exact PySem.EqNone.eq_none_none (fin_bl I q (by simp))
    | bl j => cases ry; exact PySem.EqNone.eq_none_bool (fin_bl I q (by simp))
    | int j => obtain ⟨t', rfl⟩ := ry; exact PySem.EqNone.eq_none_int (fin_bl I q (by simp))
    | str j => obtain ⟨t', rfl⟩ := ry; exact PySem.EqNone.eq_none_str (fin_bl I q (by simp))
    | _ => exact absurd (show false = true from hs) Bool.false_ne_true
  | bl i =>
    cases rx
    cases y with
    | non => cases ry; exact PySem.EqNone.eq_bool_none (fin_bl I q (by simp))
    | bl j => cases ry; exact eq_bool (fin_bl I q dec_bl)
    | str j => obtain ⟨t', rfl⟩ := ry; exact PySem.EqMixed.eq_bool_str (fin_bl I q (by simp))
    | _ => exact absurd (show false = true from hs) Bool.false_ne_true
  | int i =>
    obtain ⟨t, rfl⟩ := rx
    cases y with
    | non => cases ry; exact PySem.EqNone.eq_int_none (fin_bl I q (by simp))
    | int j => obtain ⟨t', rfl⟩ := ry; exact eq_int (fin_bl I q dec_int)
    | str j => obtain ⟨t', rfl⟩ := ry; exact PySem.EqMixed.eq_int_str (fin_bl I q (by simp))
    | _ => exact absurd (show false = true from hs) Bool.false_ne_true
  | str i =>
    obtain ⟨t, rfl⟩ := rx
    cases y with
    | non => cases ry; exact PySem.EqNone.eq_str_none (fin_bl I q (by simp))
    | bl j => cases ry; exact PySem.EqMixed.eq_str_bool (fin_bl I q (by simp))
    | int j => obtain ⟨t', rfl⟩ := ry; exact PySem.EqMixed.eq_str_int (fin_bl I q (by simp))
    | str j => obtain ⟨t', rfl⟩ := ry; exact eq_str (fin_bl I q dec_str)
    | _ => exact absurd (show false = true from hs) Bool.false_ne_true
  | byt i =>
    obtain ⟨t, rfl⟩ := rx
    cases y with
    | byt j => obtain ⟨t', rfl⟩ := ry; exact PySem.W.eq_bytes (fin_bl I q dec_byt)
    | _ => exact absurd (show false = true from hs) Bool.false_ne_true
  | _ => cases y <;> exact absurd (show false = true from hs) Bool.false_ne_true
theorem op_ne : OpR X (compareOp .NotEq) rNe := by
  intro pins s σ H x y v u Q I rx ry h
  obtain ⟨hs, q⟩ := h
  cases x with
  | non =>
    cases rx
    cases y with
    | non => cases ry; exact PySem.EqNone.ne_none_none (fin_bl I q (by simp))
    | bl j => cases ry; exact PySem.EqNone.ne_none_bool (fin_bl I q (by simp))
    | int j => obtain ⟨t', rfl⟩ := ry; exact PySem.EqNone.ne_none_int (fin_bl I q (by simp))
    | str j => obtain ⟨t', rfl⟩ := ry; exact PySem.EqNone.ne_none_str (fin_bl I q (by simp))
    | _ => exact absurd (show false = true from hs) Bool.false_ne_true
  | bl i =>
    cases rx
    cases y with
    | non => cases ry; exact PySem.EqNone.ne_bool_none (fin_bl I q (by simp))
    | bl j => cases ry; exact ne_bool (fin_bl I q (congrArg not dec_bl))
    | str j => obtain ⟨t', rfl⟩ := ry; exact PySem.EqMixed.ne_bool_str (fin_bl I q (by simp))
    | _ => exact absurd (show false = true from hs) Bool.false_ne_true
  | int i =>
    obtain ⟨t, rfl⟩ := rx
    cases y with
    | non => cases ry; exact PySem.EqNone.ne_int_none (fin_bl I q (by simp))
    | int j => obtain ⟨t', rfl⟩ := ry; exact ne_int (fin_bl I q (congrArg not dec_int))
    | str j => obtain ⟨t', rfl⟩ := ry; exact PySem.EqMixed.ne_int_str (fin_bl I q (by simp))
    | _ => exact absurd (show false = true from hs) Bool.false_ne_true
  | str i =>
    obtain ⟨t, rfl⟩ := rx
    cases y with
    | non => cases ry; exact PySem.EqNone.ne_str_none (fin_bl I q (by simp))
    | bl j => cases ry; exact PySem.EqMixed.ne_str_bool (fin_bl I q (by simp))
    | int j => obtain ⟨t', rfl⟩ := ry; exact PySem.EqMixed.ne_str_int (fin_bl I q (by simp))
    | str j => obtain ⟨t', rfl⟩ := ry; exact ne_str (fin_bl I q (congrArg not dec_str))
    | _ => exact absurd (show false = true from hs) Bool.false_ne_true
  | byt i =>
    obtain ⟨t, rfl⟩ := rx
    cases y with
    | byt j => obtain ⟨t', rfl⟩ := ry; exact PySem.W.ne_bytes (fin_bl I q (congrArg not dec_byt))
    | _ => exact absurd (show false = true from hs) Bool.false_ne_true
  | _ => cases y <;> exact absurd (show false = true from hs) Bool.false_ne_true

theorem op_lt : OpR X (compareOp .Lt) (rI0 fun i j => .bl (decide (i < j))) := opB0 fun _ _ _ _ _ _ _ q => lt_int q
theorem op_gt : OpR X (compareOp .Gt) (rI0 fun i j => .bl (decide (j < i))) := opB0 fun _ _ _ _ _ _ _ q => gt_int q
/-- is, is not of two objects that are tracked lists or instances -/
def isObj : HO → Bool
  | .lst _ => true
  | .ins _ _ _ => true
  | _ => false
/-- two rules for one operation: by cases -/
theorem OpR.or {f : Value → Value → Sem Value} {r r' : R2} (h : OpR X f r) (h' : OpR X f r') : OpR X f (fun x y H Q => r x y H Q ∨ r' x y H Q) := by
  intro pins s σ H x y v u Q I rx ry q
  rcases q with q | q
  · exact h pins s σ H x y v u Q I rx ry q
  · exact h' pins s σ H x y v u Q I rx ry q

theorem nomark (b : Expr) {op : CmpOp} (h : op ≠ .In := by decide) (h2 : op ≠ .NotIn := by decide) : behindInMarks op b = false := by
  have e1 : (op == CmpOp.In) = false := by cases op <;> first | rfl | exact absurd rfl h
  have e2 : (op == CmpOp.NotIn) = false := by cases op <;> first | rfl | exact absurd rfl h2
  cases b <;> simp [behindInMarks, e1, e2]
/-- a comparison as a value; hm: nomark b, or (for in, not in) by with_unfolding_all rfl -/
theorem pe_cmpR {op : CmpOp} {r : R2} (ho : OpR X (compareOp op) r) (ha : PE X a ta) (hb : PE X b tb) (hm : behindInMarks op b = false) : PE X (.Compare a [op] [b] pos) (tOp r ta tb) := by
  intro pins s σ H Q I h
  exact wpAny_Compare1 (binT ha hb I h fun v u s2 x y H2 I2 rx ry q => ho pins s2 σ H2 x y v u Q I2 rx ry q) hm
/-- a reading of a value as a test -/
def tTest (t : TE) : TT := fun σ H Q => t σ H fun x H' => ∃ k, x = .bl k ∧ Q k H'
theorem pt_cmpR {op : CmpOp} {r : R2} (ho : OpR X (compareOp op) r) (ha : PE X a ta) (hb : PE X b tb) (hm : behindInMarks op b = false) : PT X (.Compare a [op] [b] pos) (tTest (tOp r ta tb)) := by
  intro pins s σ H Q I h
  refine wpAny_isTrue_Compare1 (thn (ha pins s σ H _ I h) fun v s1 ⟨x, H1, I1, r1, q1⟩ => thn (hb pins s1 σ H1 _ I1 q1) fun u s2 ⟨y, H2, I2, r2, q2⟩ =>
    thn (ho pins s2 σ H2 x y v u _ I2 r1 r2 q2) fun c s3 ⟨z, H3, I3, r3, k, e, q3⟩ => ?_) hm
  subst e
  cases r3
  exact wpAny_truthy_bool ⟨H3, I3, q3⟩
/-- a op1 b op2 c -/
def tChain (r r' : R2) (ta tb tc : TE) : TE := fun σ H Q => ta σ H fun x H1 => tb σ H1 fun y H2 => r x y H2 fun z H3 => ∃ k, z = .bl k ∧
  (if k = true then tc σ H3 fun w' H4 => r' y w' H4 Q else Q (.bl false) H3)
/-! ### truth -/
/-- a value's truth by the abstract heap -/
def TruV (K : PySem.W.Frag) (x : V) (H : Hp) (k : Bool) : Prop :=
  match x with
  | .non => k = false
  | .bl b => k = b
  | .int i => k = (i != 0)
  | .str y => y.length ≤ sizeLine ∧ k = ((y.length : Int) != 0)
  | .byt y => y.size ≤ sizeLine ∧ k = ((y.size : Int) != 0)
  | .ref p => (∃ xs, SqL K H p xs ∧ k = !xs.isEmpty) ∨ (∃ xs, SqT K H p xs ∧ k = !xs.isEmpty) ∨ ∃ kvs, H p = some (.dK kvs) ∧ k = !kvs.isEmpty
  | _ => False
theorem line63 : (sizeLine : Nat) < 2 ^ 63 := by rw [sizeLine_eq]; decide
/-! ### strs and bytes -/
theorem op_add_str : OpR X (binaryOp .Add) (fun x y H Q => ∃ i j, x = .str i ∧ y = .str j ∧ i.length + j.length ≤ sizeLine ∧ Q (.str (i ++ j)) H) := by
  intro pins s σ H x y v u Q I rx ry h
  obtain ⟨i, j, rfl, rfl, hz, q⟩ := h
  obtain ⟨t, rfl⟩ := rx
  obtain ⟨t', rfl⟩ := ry
  exact add_str (fun t' tk => ⟨.str (i ++ j), H, I.tok _, ⟨_, rfl⟩, q⟩) hz
def PlainIxT (b : Expr) : Prop := ∀ o i, subscripted b false o i = operate [o, i] (getItem o i)
/-! ### scalar builtins, by CallR -/
theorem vals1 {x : V} {us : List Value} (r : Vals [x] us) : ∃ u, us = [u] ∧ RelV x u := by
  cases r with
  | cons r1 r2 => cases r2; exact ⟨_, rfl, r1⟩
theorem vals2 {x y : V} {us : List Value} (r : Vals [x, y] us) : ∃ u w', us = [u, w'] ∧ RelV x u ∧ RelV y w' := by
  cases r with
  | cons r1 r2 =>
    cases r2 with
    | cons r3 r4 => cases r4; exact ⟨_, _, rfl, r1, r3⟩
theorem call_abs : CallR X (.builtin "abs") (fun xs H Q => ∃ i, xs = [.int i] ∧ Q (.int (if i < 0 then -i else i)) H) := by
  intro pins s σ H xs us Q I r h
  obtain ⟨i, rfl, q⟩ := h
  obtain ⟨u, rfl, t, rfl⟩ := vals1 r
  exact call_abs_int fun u tk => ⟨.int (if i < 0 then -i else i), H, I.tok _, ⟨_, rfl⟩, q⟩
/-- len of a str, a bytes, a list, a tuple -/
def LenV (K : PySem.W.Frag) (x : V) (H : Hp) (n : Nat) : Prop :=
  match x with
  | .str y => y.length ≤ sizeLine ∧ n = y.length
  | .byt y => y.size ≤ sizeLine ∧ n = y.size
  | .ref p => (∃ xs, SqL K H p xs ∧ n = xs.length) ∨ ∃ xs, SqT K H p xs ∧ n = xs.length
  | _ => False
end
end L2

namespace L2
open PySem PySem.Spec PyProof.Rows

/-! ### an instance, its attributes a map -/
structure ObjM (h : Heap) (x dx C : Addr) (mA : Str → Option Value) : Prop where
  obj : h.get? x = some (PySem.W.instObj C dx)
  ns : h.Ns1 dx mA
  ne : dx ≠ x

theorem lookIn_ns {h : Heap} {dx : Addr} {mA : Str → Option Value} (n : h.Ns1 dx mA) : ∃ od, h.get? dx = some od ∧ ∀ name, PySem.W.lookIn name od = some (mA name) := by
  obtain ⟨o, es, ep, ho, hd, hk, _, hm⟩ := n
  refine ⟨o, ho, fun name => ?_⟩
  have e := hm name
  unfold nsFind findBy at e
  rw [← Array.find?_toList] at e
  unfold PySem.W.lookIn
  rw [hd]
  dsimp only
  split
  · rename_i y q
    rw [q] at e
    exact congrArg some e
  · rename_i q
    rw [q] at e
    have a : es.toList.any (·.refKey) = false := by
      rw [List.any_eq_false]
      intro y hy
      obtain ⟨z, t, hkey⟩ := hk y (Array.mem_toList_iff.mp hy)
      simp [DictEntry.refKey, hkey]
    have a' : ¬ es.toList.any (·.refKey) = true := by rw [a]; exact Bool.false_ne_true
    rw [if_neg a']
    exact congrArg some e

theorem ObjM.look {h : Heap} {x dx C : Addr} {mA : Str → Option Value} (I : ObjM h x dx C mA) : ∃ od, PySem.W.InstAt h x (PySem.W.instObj C dx) C (some od) ∧ ∀ name, PySem.W.lookIn name od = some (mA name) :=
  let ⟨od, ho, hl⟩ := lookIn_ns I.ns
  ⟨od, ⟨I.obj, rfl, rfl, ho⟩, hl⟩

section
variable {prog : Program} {w : World} {A : Around} {E : Value → Shared → Prop} {s : Shared} {K : PySem.W.Frag} {x dx C f : Addr} {mA : Str → Option Value} {name : Str} {v : Value}

end

/-! ### the attributes as a list of pairs -/
def putF (f : Str) (v : V) : List (Str × V) → List (Str × V)
  | [] => [(f, v)]
  | (g, x) :: r => if g = f then (g, v) :: r else (g, x) :: putF f v r
theorem RelO.some_of {v : V} {o : Option Value} (r : RelO (some v) o) : ∃ u, o = some u ∧ RelV v u := by
  cases o with
  | none => exact (show False from r).elim
  | some u => exact ⟨u, rfl, r⟩
section
variable {P : Program} {w : World} {H H' : Hp} {h h' : Heap} {a C dx : Addr} {fs fs' : List (Str × V)}
theorem ins_get (hok : HOk P w H h) (e : H a = some (.ins C dx fs)) : ∃ mA, ObjM h a dx C mA ∧ (∀ f, RelO (fs.lookup f) (mA f)) ∧ PySem.Within mA (fs.map (·.1)) ∧ fs.length ≤ 1000 ∧ H dx = some (.own a) := by
  obtain ⟨d, z, ne, ob, mA, n, r, q⟩ := (show ObjOk P w H h a (.ins C dx fs) from hok a _ e)
  exact ⟨mA, ⟨ob, n, ne⟩, r, q, z, d⟩
end

/-! ### what of the text a class must have -/
structure Cls (K : PySem.W.Frag) (C : Addr) : Prop where
  pg : PySem.W.plainGet K C Str.empty = true
  hd : PySem.W.hasDictIn K C = true
  po : PySem.W.plainOver K C = true
  sa : PySem.W.findIn K (.ref C) "__setattr__" = some (some (.builtin "object.__setattr__"))
theorem Cls.get {K : PySem.W.Frag} {C : Addr} (c : Cls K C) (f : Str) : PySem.W.plainGet K C f = true := c.pg
/-- no class of it has the name -/
def NoAttr (K : PySem.W.Frag) (C : Addr) (f : Str) : Prop := PySem.W.findIn K (.ref C) f = some none
/-- a constant of the class -/
structure Con (K : PySem.W.Frag) (C : Addr) (f : Str) (v : V) (u : Value) : Prop where
  at_ : PySem.W.findIn K (.ref C) f = some (some u)
  rel : RelV v u
  get : PySem.W.specialIn K u "__get__" = some none
  cp : PySem.W.copiedNames.contains f = false
/-- a method: a plain def of the class or of one above it -/
structure Meth (K : PySem.W.Frag) (C : Addr) (m : Str) (f : Addr) : Prop where
  at_ : PySem.W.findIn K (.ref C) m = some (some (.ref f))
  fn : PySem.W.isFn K (.ref f) = true
  kp : PySem.W.keepIn K (.ref f) = true

section
variable {X : Cx} {pins : List (Addr × Obj)} {σ : St} {H : Hp} {s : Shared} {a C dx : Addr} {fs : List (Str × V)} {f : Str} {v : V} {A : Around} {E : Value → Shared → Prop}

/-- a new instance, tracked, without attributes -/
theorem Inv.made (I : Inv X pins σ H s) : Inv X pins σ (upd (upd H s.heap.objs.size (.own (s.heap.objs.size + 1))) (s.heap.objs.size + 1) (.ins C s.heap.objs.size []))
    { s with heap := (s.heap.push PySem.W.emptyDict).push (PySem.W.instObj C s.heap.objs.size) } := by
  have e1 : (s.heap.push PySem.W.emptyDict).get? s.heap.objs.size = some PySem.W.emptyDict := Heap.get?_push_size s.heap rfl
  have e2 : ((s.heap.push PySem.W.emptyDict).push (PySem.W.instObj C s.heap.objs.size)).get? (s.heap.objs.size + 1) = some (PySem.W.instObj C s.heap.objs.size) := by
    have := Heap.get?_push_size (s.heap.push PySem.W.emptyDict) (o := PySem.W.instObj C s.heap.objs.size) rfl
    rwa [Heap.size_push] at this
  have e3 : (s.heap.push PySem.W.emptyDict).Ns s.heap.objs.size (fun _ => none) := ⟨PySem.W.emptyDict, #[], _, e1, rfl, (fun e he => absurd he (by simp)), fun _ => rfl⟩
  have I1 := I.laid (a := s.heap.objs.size) (o := .own (s.heap.objs.size + 1)) (h' := s.heap.push PySem.W.emptyDict) (t' := s.toks) (fun b u q => Heap.get?_push_of_some _ q) (Nat.le_refl _) ⟨_, e1⟩
  refine I1.laid (a := s.heap.objs.size + 1) (o := .ins C s.heap.objs.size []) (t' := s.toks) (fun b u q => Heap.get?_push_of_some _ q) (Nat.le_of_eq (Heap.size_push _ _)) ?_
  have ne : s.heap.objs.size ≠ s.heap.objs.size + 1 := Nat.ne_of_lt (Nat.lt_succ_self _)
  refine ⟨by rw [upd_ne ne, upd_same], Nat.zero_le _, ne, e2, fun _ => none, (Heap.Ns1.of_empty e3).at fun o q => Heap.get?_push_of_some _ q, fun _ => True.intro, fun y hy => absurd rfl hy⟩

end

/-! ### readings and rules -/
/-- e.f, an attribute of the instance -/
def tFld (K : PySem.W.Frag) (ta : TE) (f : Str) : TE := fun σ H Q => ta σ H fun x H1 => ∃ a C dx fs v, x = .ref a ∧ H1 a = some (.ins C dx fs) ∧ Cls K C ∧ NoAttr K C f ∧ fs.lookup f = some v ∧ Q v H1
/-- e.f, a constant of the class -/
def tCon (K : PySem.W.Frag) (ta : TE) (f : Str) : TE := fun σ H Q => ta σ H fun x H1 => ∃ a C dx fs v u, x = .ref a ∧ H1 a = some (.ins C dx fs) ∧ Cls K C ∧ Con K C f v u ∧ fs.lookup f = none ∧ Q v H1
/-- e.f = value -/
def sFld (K : PySem.W.Frag) (ta tv : TE) (f : Str) : TS := fun D σ H => tv σ H fun y H1 => ta σ H1 fun x H2 => ∃ a C dx fs, x = .ref a ∧ H2 a = some (.ins C dx fs) ∧ Cls K C ∧ NoAttr K C f ∧ fs.length < 1000 ∧
  D.nx σ (upd H2 a (.ins C dx (putF f y fs)))
/-- an augmented operator on two values -/
def InOp (X : Cx) (op : Operator) (rd : V → V → Hp → VK → Prop) : Prop :=
  ∀ (pins : List (Addr × Obj)) (s : Shared) (σ : St) (H : Hp) (x y : V) (u v : Value) (Q : VK), Inv X pins σ H s → RelV x u → RelV y v → rd x y H Q → wpAny (model X.prog X.w) X.A (inplaceOp op u v) (EP X pins σ Q) X.xe s
/-- e.f op= value -/
def sFldAug (K : PySem.W.Frag) (ta tv : TE) (rd : V → V → Hp → VK → Prop) (f : Str) : TS := fun D σ H => ta σ H fun x H1 => ∃ a C dx fs v, x = .ref a ∧ H1 a = some (.ins C dx fs) ∧ Cls K C ∧ NoAttr K C f ∧ fs.lookup f = some v ∧
  tv σ H1 fun y H2 => rd v y H2 fun z H3 => ∃ dx' fs', H3 a = some (.ins C dx' fs') ∧ fs'.length < 1000 ∧ D.nx σ (upd H3 a (.ins C dx' (putF f z fs')))

section
variable {X : Cx} {o e value : Expr} {f : Str} {pos pos' tpos : Pos} {ta tv : TE}
def rAdd : V → V → Hp → VK → Prop := fun x y H Q => ∃ i j, x = .int i ∧ y = .int j ∧ Q (.int (i + j)) H
def rSub : V → V → Hp → VK → Prop := fun x y H Q => ∃ i j, x = .int i ∧ y = .int j ∧ Q (.int (i - j)) H
end

/-! ### isinstance -/
section
variable {X : Cx} {pins : List (Addr × Obj)} {σ : St} {H : Hp} {s : Shared} {A : Around} {E : Value → Shared → Prop} {Q : Value → Shared → Prop} {c : Value} {b : Bool}
/-- the type of a value, as the fragment's deciders take it; for an instance its class -/
inductive TyOf (K : PySem.W.Frag) (H : Hp) : V → Value → Prop where
  | non : TyOf K H .non (.type "NoneType")
  | bl (x : Bool) : TyOf K H (.bl x) (.type "bool")
  | int (i : Int) : TyOf K H (.int i) (.type "int")
  | str (x : Str) : TyOf K H (.str x) (.type "str")
  | flt (x : UInt64) : TyOf K H (.flt x) (.type "float")
  | lst {a : Addr} {xs : List V} (e : H a = some (.lst xs)) : TyOf K H (.ref a) (.type "list")
  | frz {a : Addr} {o : Obj} {xs : List V} (e : H a = some (.frz o (.lst xs))) : TyOf K H (.ref a) (.type "list")
  | tup {a : Addr} {xs : List V} (e : H a = some (.tup xs)) : TyOf K H (.ref a) (.type "tuple")
  | dK {a : Addr} {kvs : List (Key × V)} (e : H a = some (.dK kvs)) : TyOf K H (.ref a) (.type "dict")
  | dT {a : Addr} {T : Addr → List V → Prop} {kvs : List (List Kt × V)} (e : H a = some (.dT T kvs)) : TyOf K H (.ref a) (.type "dict")
  | ins {a C dx : Addr} {fs : List (Str × V)} (e : H a = some (.ins C dx fs)) (cl : Cls K C) (ha : PySem.W.findIn K (.ref C) "__class__" = some (some (.builtin "object.__class__")))
      (hn : PySem.W.specialIn K (.builtin "object.__class__") "__get__" = some (some (.builtin "getset_descriptor.__get__"))) (htk : PySem.W.takesIn K (.builtin "object.__class__") = some true)
      (hm : PySem.W.mroIn K C (.type "object") = some true) : TyOf K H (.ref a) (.ref C)
/-- isinstance(x, c) for one class c, a built-in or an own one: kitOne's answer -/
theorem isinst_ok {x : V} {u t : Value} (I : Inv X pins σ H s) (rx : RelV x u) (ty : TyOf X.K H x t) (e : PySem.W.kitOne X.K t c = some b) (h : ∀ tk, Q (.bool b) { s with toks := tk }) :
    wpAny (model X.prog X.w) A (call (.builtin "isinstance") [u, c]) Q E s := by
  cases ty with
  | non => cases (show u = Value.none from rx); exact PySem.W.kia_one PySem.W.kitx_none I.kIn True.intro e (fun z => nomatch z) h
  | bl y => cases (show u = Value.bool y from rx); exact PySem.W.kia_one PySem.W.kitx_bool I.kIn True.intro e (fun z => nomatch z) h
  | int i => obtain ⟨t, q⟩ := (show ∃ t, u = Value.int i t from rx); cases q; exact PySem.W.kia_one PySem.W.kitx_int I.kIn True.intro e (fun z => nomatch z) h
  | str y => obtain ⟨t, q⟩ := (show ∃ t, u = Value.str y t from rx); cases q; exact PySem.W.kia_one PySem.W.kitx_str I.kIn True.intro e (fun z => nomatch z) h
  | flt y => obtain ⟨t, q⟩ := (show ∃ t, u = Value.float y t from rx); cases q; exact PySem.W.kia_one PySem.W.kitx_float I.kIn True.intro e (fun z => nomatch z) h
  | @lst a xs ea =>
    cases (show u = Value.ref a from rx)
    obtain ⟨_, _, n, _, h1⟩ := (show ObjOk X.prog X.w H s.heap a (.lst xs) from I.hok a _ ea)
    exact PySem.W.kia_one PySem.W.kitx_list I.kIn ⟨_, h1, rfl⟩ e (fun z => nomatch z) h
  | @frz a ob xs ea =>
    cases (show u = Value.ref a from rx)
    obtain ⟨_, _, _, n, _, h1⟩ := (show ObjOk X.prog X.w H s.heap a (.frz ob (.lst xs)) from I.hok a _ ea)
    exact PySem.W.kia_one PySem.W.kitx_list I.kIn ⟨_, h1, rfl⟩ e (fun z => nomatch z) h
  | @tup a xs ea =>
    cases (show u = Value.ref a from rx)
    obtain ⟨_, _, _, p⟩ := (show ObjOk X.prog X.w H s.heap a (.tup xs) from I.hok a _ ea)
    obtain ⟨o, h1, h2, _⟩ := p
    exact PySem.W.kia_one PySem.W.kitx_tuple I.kIn ⟨o, h1, h2⟩ e (fun z => nomatch z) h
  | @dK a kvs ea =>
    cases (show u = Value.ref a from rx)
    obtain ⟨_, _, vs, _, p⟩ := (show ObjOk X.prog X.w H s.heap a (.dK kvs) from I.hok a _ ea)
    obtain ⟨o, es, ep, h1, h2, _⟩ := p
    exact PySem.W.kia_one PySem.W.kitx_dict I.kIn ⟨o, h1, h2.1⟩ e (fun z => nomatch z) h
  | @dT a T kvs ea =>
    cases (show u = Value.ref a from rx)
    obtain ⟨_, _, xs, _, o, es, ep, h1, h2, _⟩ := (show ObjOk X.prog X.w H s.heap a (.dT T kvs) from I.hok a _ ea)
    exact PySem.W.kia_one PySem.W.kitx_dict I.kIn ⟨o, h1, h2.1⟩ e (fun z => nomatch z) h
  | @ins a C dx fs ea cl ha hn htk hm =>
    cases (show u = Value.ref a from rx)
    obtain ⟨mA, O, _⟩ := ins_get I.hok ea
    obtain ⟨od, J, _⟩ := O.look
    exact PySem.W.kia_one (PySem.W.kitx_own (cl.get _) cl.hd ha hn htk hm) I.kIn J e (fun z => nomatch z) h
end
end L2

namespace L2
open PySem PySem.Spec PyProof.Rows

/-! ### room -/
structure Room (k : Nat) (A : Around) : Prop where
  hd : A.handled = none
  dp : A.depth + 3 * k + 5 < recursionLimit
  un : A.units + 16 * k + 200 < cLine
  gd : A.guards = some []
theorem Room.mono {j k : Nat} {A : Around} (r : Room k A) (h : j ≤ k) : Room j A := ⟨r.hd, by have := r.dp; omega, by have := r.un; omega, r.gd⟩
theorem Room.deeper {k : Nat} {A : Around} (r : Room (k + 1) A) (env : Env) : Room k (A.deeper env) :=
  ⟨r.hd, by have := r.dp; show A.depth + 1 + 3 * k + 5 < _; omega, by have := r.un; show A.units + 3 + 16 * k + 200 < _; omega, r.gd⟩
theorem Room.in1 {k : Nat} {A : Around} (r : Room (k + 1) A) : Room k A.in1 :=
  ⟨r.hd, by have := r.dp; show A.depth + 3 * k + 5 < _; omega, by have := r.un; show A.units + 1 + 16 * k + 200 < _; omega, r.gd⟩
theorem Room.depth {k : Nat} {A : Around} (r : Room k A) : A.depth < recursionLimit := by have := r.dp; omega
theorem Room.units {k : Nat} {A : Around} (r : Room k A) : A.units + 64 < cLine := by have := r.un; omega
/-! ### argument lists and displays -/
def tNil : TA := fun _ H Q => Q [] H
def tCons (ta : TE) (tr : TA) : TA := fun σ H Q => ta σ H fun x H1 => tr σ H1 fun xs H2 => Q (x :: xs) H2
section
variable {X : Cx} {e : Expr} {es : List Expr} {te : TE} {t : TA} {pos : Pos}
theorem pa_nil : PA X [] tNil := fun _ _ _ _ H Q I h => Calls.spliced_nil ⟨[], H, I, .nil, h⟩
theorem pa_cons (ha : PE X e te) (hr : PA X es t) (hs : starEach (e :: es) X.env = (false, eval e X.env) :: starEach es X.env := by rfl) : PA X (e :: es) (tCons te t) := by
  intro pos pins s σ H Q I h
  rw [hs]
  show wpAny _ _ (spliced ((false, eval e X.env) :: backTo pos (starEach es X.env))) _ _ s
  refine Calls.spliced_cons (thn (ha pins s σ H _ I h) fun u s1 ⟨x, H1, I1, r1, q1⟩ => ?_)
  exact thn (hr pos pins s1 σ H1 _ I1 q1) fun us s2 ⟨xs, H2, I2, r2, q2⟩ => ⟨x :: xs, H2, I2, .cons r1 r2, q2⟩

/-- a tuple, a list of written items -/
def tTup (t : TA) : TE := fun σ H Q => t σ H fun xs H1 => xs.length ≤ sizeLine ∧ ∀ p, H1 p = none → Q (.ref p) (upd H1 p (.tup xs))
def tLst (t : TA) : TE := fun σ H Q => t σ H fun xs H1 => xs.length ≤ sizeLine ∧ ∀ p, H1 p = none → Q (.ref p) (upd H1 p (.lst xs))
theorem pe_tup {x1} (h : PA X es t) : PE X (.Tuple es x1 pos) (tTup t) := by
  intro pins s σ H Q I hq
  refine wpAny_Tuple_spliced (thn (h pos pins s σ H _ I hq) fun us s1 ⟨xs, H1, I1, r, z, q⟩ => ⟨by rw [← r.length]; exact z, ?_⟩)
  have hf : H1 s1.heap.objs.size = none := I1.hok.fresh (Nat.le_refl _)
  refine ⟨.ref s1.heap.objs.size, upd H1 s1.heap.objs.size (.tup xs), I1.laid (t' := s1.toks) (fun b u e => Heap.get?_push_of_some _ e) (Nat.le_refl _) ?_, rfl, q _ hf⟩
  exact ⟨z, us, r, ⟨_, Heap.get?_push_size _ rfl, rfl, _, rfl⟩⟩
theorem pe_lst (h : PA X es t) : PE X (.List es pos) (tLst t) := by
  intro pins s σ H Q I hq
  refine wpAny_List_spliced (thn (h pos pins s σ H _ I hq) fun us s1 ⟨xs, H1, I1, r, z, q⟩ => ⟨by rw [← r.length]; exact z, ?_⟩)
  have hf : H1 s1.heap.objs.size = none := I1.hok.fresh (Nat.le_refl _)
  refine ⟨.ref s1.heap.objs.size, upd H1 s1.heap.objs.size (.lst xs), I1.laid (t' := s1.toks) (fun b u e => Heap.get?_push_of_some _ e) (Nat.le_refl _) ?_, rfl, q _ hf⟩
  exact ⟨z, us, 0, r, Heap.get?_push_size _ rfl⟩
end

/-! ### what a def promises -/
/-- a def's promise: the bound arguments in the parameters' order, the heap, the wanted end, the wanted exception -/
abbrev Sp := List V → Hp → VK → XK → Prop
/-- how an exception lies behind a call (file 08 gives it): the callers' frames, abstract heap and state ahead of the call, the wish, the exception, the state -/
abbrev CXT := List Env → Hp → Shared → XK → Value → Shared → Prop

/-- the state at a call -/
structure Env0 (P : Program) (w : World) (K : PySem.W.Frag) (mg : Str → Option Value) (base : Heap) (A : Around) (outer : List Env) (s : Shared) (H : Hp) : Prop where
  frames : A.frames = some outer
  mod : Mod K mg base
  bs : ∀ b o, base.get? b = some o → s.heap.get? b = some o ∧ H b = none
  bsz : base.objs.size ≤ s.heap.objs.size
  funs : s.heap.FunFrames base outer
  frf : ∀ b ∈ frs outer, H b = none
  hok : HOk P w H s.heap
  bare : AllBare s.gens
/-- a call's end -/
def CE (outer : List Env) (P : Program) (w : World) (H : Hp) (s : Shared) (Q : VK) (u : Value) (s' : Shared) : Prop :=
  ∃ v H', s'.os = s.os ∧ AllBare s'.gens ∧ Un (frs outer) [] H H' s.heap s'.heap ∧ HOk P w H' s'.heap ∧ RelV v u ∧ Q v H'
def CR (CX : CXT) (outer : List Env) (P : Program) (w : World) (H : Hp) (s : Shared) (Q : VK) (E : XK) (r : Result) (s' : Shared) : Prop :=
  match r with
  | .ok (.ret u) => CE outer P w H s Q u s'
  | .ok _ => False
  | .error e => CX outer H s E e s'
structure FnOk (P : Program) (w : World) (K : PySem.W.Frag) (mg : Str → Option Value) (base : Heap) (CX : CXT) (k : Nat) (f : Addr) (fd : FuncData) (ps : List Str) (sp : Sp) : Prop where
  len : ∀ vs H Q E, sp vs H Q E → vs.length = ps.length
  run : ∀ (A : Around) (outer : List Env) (s : Shared) (H : Hp) (args : Args) (us : List Value) (vs : List V) (Q : VK) (E : XK), Room k A → Env0 P w K mg base A outer s H → BindsTo s fd args (ps.zip us) → Vals vs us → sp vs H Q E →
    codeAny (model P w) A (.call (.ref f) args) (CR CX outer P w H s Q E) s
theorem FnOk.mono {P : Program} {w : World} {K : PySem.W.Frag} {mg : Str → Option Value} {base : Heap} {CX : CXT} {j k : Nat} {f : Addr} {fd : FuncData} {ps : List Str} {sp : Sp} (F : FnOk P w K mg base CX j f fd ps sp) (h : j ≤ k) :
    FnOk P w K mg base CX k f fd ps sp := ⟨F.len, fun A outer s H args us vs Q E hr => F.run A outer s H args us vs Q E (hr.mono h)⟩
/-- a weaker promise -/
theorem FnOk.imp {P : Program} {w : World} {K : PySem.W.Frag} {mg : Str → Option Value} {base : Heap} {CX : CXT} {k : Nat} {f : Addr} {fd : FuncData} {ps : List Str} {sp sp' : Sp} (F : FnOk P w K mg base CX k f fd ps sp)
    (h : ∀ vs H Q E, sp' vs H Q E → sp vs H Q E) : FnOk P w K mg base CX k f fd ps sp' :=
  ⟨fun vs H Q E q => F.len vs H Q E (h _ _ _ _ q), fun A outer s H args us vs Q E hr he hb hv hs => F.run A outer s H args us vs Q E hr he hb hv (h _ _ _ _ hs)⟩

theorem Env0.in1 {P : Program} {w : World} {K : PySem.W.Frag} {mg : Str → Option Value} {base : Heap} {A : Around} {outer : List Env} {s : Shared} {H : Hp} (e : Env0 P w K mg base A outer s H) :
    Env0 P w K mg base A.in1 outer s H := ⟨e.frames, e.mod, e.bs, e.bsz, e.funs, e.frf, e.hok, e.bare⟩

section
variable {X : Cx} {pins : List (Addr × Obj)} {σ : St} {H : Hp} {s s' : Shared}
/-- from a body: what a callee wants -/
theorem Inv.env0 (I : Inv X pins σ H s) : Env0 X.prog X.w X.K X.mg X.base X.A X.stack s H :=
  ⟨I.ok.frames, I.ok.mod, I.bs, Nat.le_trans I.ok.bsz I.sz, I.stack, I.stkFree, I.hok, I.bare⟩
/-- behind a call -/
theorem Inv.after {Q : VK} {u : Value} (I : Inv X pins σ H s) (h : CE X.stack X.prog X.w H s Q u s') : EP X pins σ Q u s' := by
  obtain ⟨v, H', os, bare, un, hok, r, q⟩ := h
  obtain ⟨hh, g, d, t, os'⟩ := s'
  obtain rfl : os' = s.os := os
  exact ⟨v, H', I.call (h' := hh) (g' := g) (d' := d) (t' := t) (ch := []) un hok bare (fun b z => absurd z (by simp)), r, q⟩
end

/-! ### calls -/
/-- f(..): the written arguments, then the defaults dvs; E: what is wanted of an exception -/
def tCall (sp : Sp) (dvs : List V) (E : XK) (t : TA) : TE := fun σ H Q => t σ H fun vs H1 => sp (vs ++ dvs) H1 Q E
/-- o.m(..) of an instance of the class at C -/
def tMeth (C : Addr) (m : Str) (sp : Sp) (dvs : List V) (E : XK) (ta : TE) (t : TA) : TE := fun σ H Q => ta σ H fun x H1 => ∃ a dx fs, x = .ref a ∧ H1 a = some (.ins C dx fs) ∧ fs.lookup m = none ∧
  t σ H1 fun vs H2 => sp (x :: (vs ++ dvs)) H2 Q E
/-- C(..): a new instance and its dict, then __init__ -/
def tMake (C : Addr) (sp : Sp) (dvs : List V) (E : XK) (t : TA) : TE := fun σ H Q => t σ H fun vs H1 => ∀ x dx, H1 x = none → H1 dx = none → dx ≠ x →
  sp (.ref x :: (vs ++ dvs)) (upd (upd H1 dx (.own x)) x (.ins C dx [])) (fun v H2 => v = .non ∧ Q (.ref x) H2) E

/-- how the parameters are bound: us the positional arguments, kw the keywords' values by name, ds the defaults that fill up -/
def Binds (K : PySem.W.Frag) (fd : FuncData) (ps : List Str) (ds : List Value) : Prop :=
  ∀ (s : Shared) (us : List Value), K.In s.heap → (us ++ ds).length = ps.length → BindsTo s fd ⟨us, []⟩ (ps.zip (us ++ ds))
/-- every parameter is given -/
theorem Binds.all {K : PySem.W.Frag} {fd : FuncData} {ps : List Str} (h : ∀ us : List Value, us.length = ps.length → bindArgs fd ⟨us, []⟩ = pure (ps.zip us)) : Binds K fd ps [] := fun s us _ hl => by
  rw [List.append_nil] at hl ⊢
  exact .of_eq (h us hl)

/-- an exception of a callee reaches what this body wants of exceptions -/
def Passes (CX : CXT) (X : Cx) (E : XK) : Prop := ∀ (pins : List (Addr × Obj)) (σ : St) (H : Hp) (s : Shared) (e : Value) (s' : Shared), Inv X pins σ H s → CX X.stack H s E e s' → X.xe e s'

section
variable {X : Cx} {CX : CXT} {k : Nat} {f C : Addr} {fd : FuncData} {ps : List Str} {sp : Sp} {dvs : List V} {ds : List Value} {E : XK} {x m : Str} {p pos apos : Pos} {e o : Expr} {es : List Expr} {ta : TE} {t : TA}

/-- the callee runs -/
theorem run_fn {pins : List (Addr × Obj)} {σ : St} {H : Hp} {s : Shared} {Q : VK} {us : List Value} {vs : List V} (F : FnOk X.prog X.w X.K X.mg X.base CX k f fd ps sp) (hr : Room k X.A) (hb : Binds X.K fd ps ds) (hd : Vals dvs ds) (hx : Passes CX X E)
    (I : Inv X pins σ H s) (r : Vals vs us) (h : sp (vs ++ dvs) H Q E) : wpAny (model X.prog X.w) X.A (call (.ref f) us) (EP X pins σ Q) X.xe s := by
  have r2 : Vals (vs ++ dvs) (us ++ ds) := r.append hd
  have hl : (us ++ ds).length = ps.length := by rw [← r2.length]; exact F.len _ _ _ _ h
  refine wpAny_call (codeAny_mono (F.run X.A X.stack s H ⟨us, []⟩ (us ++ ds) (vs ++ dvs) Q E hr I.env0 (hb s us I.kIn hl) r2 h) fun r s' hq => ?_)
  cases r with
  | error e => exact hx pins σ H s e s' I hq
  | ok fl =>
    cases fl with
    | ret u => exact I.after hq
    | next => exact False.elim hq
    | brk => exact False.elim hq
    | cont => exact False.elim hq

theorem pe_call (F : FnOk X.prog X.w X.K X.mg X.base CX k f fd ps sp) (hr : Room k X.A) (hg : Gl X x) (hm : X.mg x = some (.ref f)) (hk : PySem.W.keepIn X.K (.ref f) = true) (hb : Binds X.K fd ps ds) (hd : Vals dvs ds) (hx : Passes CX X E)
    (ha : PA X (e :: es) t) (hdb : (x == ("__debug__" : Str)) = false := by decide) (he : starEach (e :: es) X.env = (false, eval e X.env) :: starEach es X.env := by rfl) (hpl : (backTo pos (starEach es X.env)).any (·.1) = false := by rfl) :
    PE X (.Call (.Name x p) (e :: es) [] pos) (tCall sp dvs E t) := by
  intro pins s σ H Q I h
  refine wpAny_Call_Name_kw (ld_glob I hg hm ?_ hdb)
  refine PySem.W.callWith_K (h₀ := X.base) I.ok.mod.kin hk (thn (ha pos pins s σ H _ I h) fun us s1 ⟨vs, H1, I1, r, q⟩ => ⟨I1.kIn, ?_⟩) he hpl
  exact run_fn F hr hb hd hx I1 r q
/-- what a class must have to be made -/
structure Mk (K : PySem.W.Frag) (C f : Addr) : Prop where
  makes : PySem.W.makesIn K C = true
  init : PySem.W.findIn K (.ref C) "__init__" = some (some (.ref f))
  fn : PySem.W.isFn K (.ref f) = true
  kp : PySem.W.keepIn K (.ref C) = true

end

/-! ### keywords -/
/-- the values of the keywords, from the left -/
def PK (X : Cx) (kws : List Keyword) (t : TA) : Prop :=
  ∀ (pos : Pos) (pins : List (Addr × Obj)) (s : Shared) (σ : St) (H : Hp) (Q : List V → Hp → Prop), Inv X pins σ H s → t σ H Q → wpAny (model X.prog X.w) X.A (evalAll ((backToKw pos (keywordEach kws X.env)).map (·.2))) (AP X pins σ Q) X.xe s
section
variable {X : Cx} {CX : CXT} {k : Nat} {f C : Addr} {fd : FuncData} {ps ks : List Str} {sp : Sp} {E : XK} {x m : Str} {p pos apos kpos : Pos} {e o : Expr} {es : List Expr} {kws : List Keyword} {te ta : TE} {t tk : TA} {nm : Option Str}
/-- how a call with keywords binds: g puts the positional values us and the keywords' values ws (names ks) in the parameters' order, defaults among them -/
structure KBinds (K : PySem.W.Frag) (fd : FuncData) (ps ks : List Str) (g : List Value → List Value → List Value) (gV : List V → List V → List V) : Prop where
  to : ∀ (s : Shared) (us ws : List Value), K.In s.heap → (g us ws).length = ps.length → BindsTo s fd ⟨us, ks.zip ws⟩ (ps.zip (g us ws))
  rel : ∀ {vs : List V} {us : List Value} {zs : List V} {ws : List Value}, Vals vs us → Vals zs ws → Vals (gV vs zs) (g us ws)
def tCallK (sp : Sp) (gV : List V → List V → List V) (E : XK) (t tk : TA) : TE := fun σ H Q => t σ H fun vs H1 => tk σ H1 fun zs H2 => sp (gV vs zs) H2 Q E
variable {g : List Value → List Value → List Value} {gV : List V → List V → List V}
end

/-! ### a def's body keeps its promise -/
/-- names: the parameters first -/
structure FnScope (N P : List Str) (sc : Scope) : Prop where
  kind : sc.kind = .function
  co : sc.isCoroutine = false
  gen : sc.isGenerator = false
  nd : N.Nodup
  pre : N.take P.length = P
  par : ∀ x ∈ P, sc.names.lookup x = some .local ∨ sc.names.lookup x = some .cell
  nofree : ∀ y ∈ sc.names, y.2 ≠ .free

theorem bindL_out {kindOf : Str → Option NameKind} {x : Str} : ∀ {binds : List (Str × Value)} {m : Str → Option Value}, (∀ v, (x, v) ∉ binds) → bindL kindOf binds m x = m x
  | [], _, _ => rfl
  | (n, v) :: r, m, h => by
    unfold bindL
    rw [bindL_out fun w hw => h w (List.mem_cons_of_mem _ hw)]
    split
    · have : x ≠ n := by rintro rfl; exact h v List.mem_cons_self
      simp [this]
    · rfl
theorem bindC_out {kindOf : Str → Option NameKind} {x : Str} : ∀ {binds : List (Str × Value)} {m : Str → Option Value}, (∀ v, (x, v) ∉ binds) → bindC kindOf binds m x = m x
  | [], _, _ => rfl
  | (n, v) :: r, m, h => by
    unfold bindC
    rw [bindC_out fun w hw => h w (List.mem_cons_of_mem _ hw)]
    split
    · rfl
    · have : x ≠ n := by rintro rfl; exact h v List.mem_cons_self
      simp [this]
theorem bindL_get {kindOf : Str → Option NameKind} {x : Str} {v : Value} : ∀ {P : List Str} {vs : List Value} {i : Nat} {m : Str → Option Value}, P.Nodup → P[i]? = some x → vs[i]? = some v → kindOf x = some .local →
    bindL kindOf (P.zip vs) m x = some v
  | [], _, _, _, _, h, _, _ => by simp at h
  | _ :: _, [], _, _, _, _, h, _ => by simp at h
  | p :: P, w :: vs, 0, m, nd, h1, h2, hk => by
    simp at h1 h2; subst h1; subst h2
    show bindL kindOf ((p, w) :: P.zip vs) m p = _
    unfold bindL
    rw [bindL_out fun v hv => (List.nodup_cons.mp nd).1 (List.of_mem_zip hv).1, if_pos hk]
    simp
  | p :: P, w :: vs, i + 1, m, nd, h1, h2, hk => by
    show bindL kindOf ((p, w) :: P.zip vs) m x = _
    unfold bindL
    exact bindL_get (i := i) (List.nodup_cons.mp nd).2 (by simpa using h1) (by simpa using h2) hk
theorem bindC_get {kindOf : Str → Option NameKind} {x : Str} {v : Value} : ∀ {P : List Str} {vs : List Value} {i : Nat} {m : Str → Option Value}, P.Nodup → P[i]? = some x → vs[i]? = some v → kindOf x ≠ some .local →
    bindC kindOf (P.zip vs) m x = some v
  | [], _, _, _, _, h, _, _ => by simp at h
  | _ :: _, [], _, _, _, _, h, _ => by simp at h
  | p :: P, w :: vs, 0, m, nd, h1, h2, hk => by
    simp at h1 h2; subst h1; subst h2
    show bindC kindOf ((p, w) :: P.zip vs) m p = _
    unfold bindC
    rw [bindC_out fun v hv => (List.nodup_cons.mp nd).1 (List.of_mem_zip hv).1, if_neg hk]
    simp
  | p :: P, w :: vs, i + 1, m, nd, h1, h2, hk => by
    show bindC kindOf ((p, w) :: P.zip vs) m x = _
    unfold bindC
    exact bindC_get (i := i) (List.nodup_cons.mp nd).2 (by simpa using h1) (by simpa using h2) hk

/-- the names' values at the entry -/
def start (N : List Str) (vs : List V) : St := vs.map some ++ List.replicate (N.length - vs.length) none

/-- the context of a def's body, at its entry; an exception leaves the frame, then lies as CX says -/
def cxOf (CX : CXT) (P : Program) (w : World) (K : PySem.W.Frag) (mg : Str → Option Value) (base : Heap) (N : List Str) (qual : Str) (scope : Scope) (f : Addr) (cd : Value) (A : Around) (outer : List Env) (s : Shared) (H : Hp) (E : XK) : Cx where
  prog := P
  w := w
  K := K
  mg := mg
  base := base
  A := A.deeper (envOfC qual scope s.heap.objs.size f cd)
  N := N
  s₀ := s
  H₀ := H
  env := envOfC qual scope s.heap.objs.size f cd
  outer := outer
  stack := envOfC qual scope s.heap.objs.size f cd :: outer
  ex := []
  calm := true
  fn := fun _ => true
  pn := []
  xe := fun e s' => wpAny (model P w) (A.deeper (envOfC qual scope s.heap.objs.size f cd)) (leaving (envOfC qual scope s.heap.objs.size f cd) e) (fun _ s'' => CX outer H s E e s'') (fun e' s'' => CX outer H s E e' s'') s'

theorem cell_has {sc : Scope} {n : Nat} {x : Str} (h : sc.names.lookup x = some .cell) : ∃ c, (cellsFrom n sc.names []).lookup x = some c := by
  have q := PySem.W.cellsFrom_some sc.names n [] (.inl h)
  exact Option.isSome_iff_exists.mp q

theorem inv_start {CX : CXT} {P : Program} {w : World} {K : PySem.W.Frag} {mg : Str → Option Value} {base : Heap} {N ps : List Str} {qual : Str} {scope : Scope} {f : Addr} {cd : Value} {A : Around} {outer : List Env} {s s1 : Shared} {H : Hp} {E : XK} {us : List Value} {vs : List V}
    (S : FnScope N ps scope) (hd : A.handled = none) (e0 : Env0 P w K mg base A outer s H) (hl : vs.length = ps.length) (r : Vals vs us)
    (x : InCallC s s.heap.objs.size (bindL (envOfC qual scope s.heap.objs.size f cd).kindOf (ps.zip us) fun _ => none) (cellsFrom (s.heap.objs.size + 1) scope.names []) (bindC (envOfC qual scope s.heap.objs.size f cd).kindOf (ps.zip us) fun _ => none) s1) :
    Inv (cxOf CX P w K mg base N qual scope f cd A outer s H E) [] (start N vs) H s1 := by
  have hpl : ps.length ≤ N.length := by have := congrArg List.length S.pre; rw [List.length_take] at this; omega
  obtain ⟨h1, tk, rfl, hk⟩ := x.done
  have noA : ∀ b : Addr, b ∉ (cxOf CX P w K mg base N qual scope f cd A outer s H E).ex := fun b z => absurd (show b ∈ ([] : List Addr) from z) (by simp)
  refine ⟨⟨e0.mod, S.kind, rfl, rfl, Nat.le_refl _, fun y z c h1 h2 => ?_, fun y hy => ?_, fun y c _ h => ?_, fun _ => hd, Around.frames_deeper e0.frames, .inr ⟨rfl, rfl⟩, fun b z => absurd z (noA b), e0.bs, e0.bsz, fun b _ _ => noA b, fun b z => absurd z (noA b), e0.funs, e0.frf⟩,
    rfl, e0.bare, Un.kept hk, ⟨_, x.toInCall.ns, fun i y v h1 h2 h3 => ?_⟩, fun y c h => ⟨_, x.cell y c h⟩, e0.hok.fresh (Nat.le_refl _), fun y c h => ?_, fun p hp => absurd (show p ∈ ([] : List (Addr × Obj)) from hp) (by simp), e0.hok.kept hk, ?_⟩
  · exact name_of_addr x.apart (PySem.mem_of_lookup h1) (PySem.mem_of_lookup h2)
  · have hy : scope.names.lookup y = some .cell ∨ scope.names.lookup y = some .free := hy
    rcases hy with hy | hy
    · exact cell_has hy
    · exact absurd rfl (S.nofree _ (PySem.mem_of_lookup hy))
  · exact Nat.le_of_lt (x.above y c (PySem.mem_of_lookup h))
  · have hi : i < vs.length := by
      unfold start at h2
      by_cases hi : i < vs.length
      · exact hi
      · rw [List.getElem?_append_right (by simpa using hi)] at h2
        rw [List.getElem?_replicate] at h2
        split at h2 <;> cases h2
    have ha : vs[i]? = some v := by
      unfold start at h2
      rw [List.getElem?_append_left (by simpa using hi), List.getElem?_map] at h2
      cases e : vs[i]? with
      | none => rw [e] at h2; cases h2
      | some a => rw [e] at h2; cases h2; rfl
    obtain ⟨u, hu, rv⟩ := r.get ha
    have hp : ps[i]? = some y := by
      rw [← S.pre, List.getElem?_take_of_lt (by omega)]; exact h1
    have ndP : ps.Nodup := by rw [← S.pre]; exact S.nd.sublist (List.take_sublist _ _)
    refine ⟨u, rv, ?_⟩
    rcases S.par y (List.mem_of_getElem? hp) with k | k
    · exact .inl ⟨k, bindL_get ndP hp hu k⟩
    · obtain ⟨c, e⟩ := cell_has (n := s.heap.objs.size + 1) k
      refine .inr ⟨.inl k, c, e, ?_⟩
      have q := x.cell y c e
      rw [bindC_get ndP hp hu (by show scope.names.lookup y ≠ _; rw [k]; decide)] at q
      exact q
  · exact e0.hok.fresh (Nat.le_of_lt (x.above y c (PySem.mem_of_lookup h)))
  · unfold start
    show _ = N.length
    rw [List.length_append, List.length_map, List.length_replicate]
    omega

/-- THE RULE: a def (or a method) of the text, by its body. The body's reading t is chosen for each entry; it is run at the parameters' values -/
theorem fn_of {CX : CXT} {P : Program} {w : World} {K : PySem.W.Frag} {mg : Str → Option Value} {base : Heap} {k : Nat} {f : Addr} {name qual : Str} {params : Arguments} {body : List Stmt} {scope : Scope} {dV kV doc pm cdv ct oc : Value} {an od : Option Addr}
    {osl : Array (Option Value)} {N ps : List Str} {sp : Sp} (lk : K.lookup f = some ⟨oc, od, .func (PySem.W.fnOf name qual params body scope dV kV doc pm an cdv ct), osl⟩) (hcd : PySem.W.codeIn K cdv qual = true) (S : FnScope N ps scope)
    (len : ∀ vs H Q E, sp vs H Q E → vs.length = ps.length)
    (hbody : ∀ (A : Around) (outer : List Env) (s : Shared) (H : Hp) (vs : List V) (Q : VK) (E : XK), Room k (A.deeper (envOfC qual scope s.heap.objs.size f cdv)) → sp vs H Q E →
      ∃ t, PSs (cxOf CX P w K mg base N qual scope f cdv A outer s H E) body t ∧ t { nx := fun _ H' => Q .non H', rt := Q } (start N vs) H) :
    FnOk P w K mg base CX (k + 1) f (PySem.W.fnOf name qual params body scope dV kV doc pm an cdv ct) ps sp := by
  refine ⟨len, fun A outer s H args us vs Q E hr e0 hb r hsp => ?_⟩
  have hl := len _ _ _ _ hsp
  have KX : K.In s.heap := e0.mod.kin.keeps fun b o e => (e0.bs b o e).1
  have lim : s.heap.NoLimit := e0.mod.nolimit.keeps fun b o e => (e0.bs b o e).1
  have hkind : ∀ y ∈ ps.zip us, scope.names.lookup y.1 = some .local ∨ (scope.names.lookup y.1 = some .cell ∧ ((cellsFrom (s.heap.objs.size + 1) scope.names []).lookup y.1).isSome = true) := fun ⟨n, v⟩ hy => by
    rcases S.par n (List.of_mem_zip hy).1 with q | q
    · exact .inl q
    · exact .inr ⟨q, PySem.W.cellsFrom_some _ _ _ (.inl q)⟩
  refine codeAny_call_function hr.depth (KX _ _ lk) rfl S.co S.gen rfl (PySem.W.codeRec_of KX hcd) (hb _ _ _ _ ?_)
  refine wpAny_newFunctionEnv_cells S.kind hkind fun env he s1 x => ?_
  subst he
  refine ⟨lim.keeps x.toInCall.keep, codeAny_func ?_⟩
  obtain ⟨t, ht, hq⟩ := hbody A outer s H vs Q E (hr.deeper _) hsp
  have I : Inv (cxOf CX P w K mg base N qual scope f cdv A outer s H E) [] (start N vs) H s1 := inv_start S hr.hd e0 hl r x
  refine wpAny_mono (ht [] s1 (start N vs) H _ I hq) (fun fl s' hs => ?_) fun e s' hs => hs
  have fin : ∀ {σ' : St} {H' : Hp} {v : V} {u : Value}, Inv (cxOf CX P w K mg base N qual scope f cdv A outer s H E) [] σ' H' s' → RelV v u → Q v H' → CE outer P w H s Q u s' :=
    fun {σ' H' v u} J rv q => ⟨v, H', J.os, J.bare, J.base, J.hok, rv, q⟩
  cases fl with
  | ret u =>
    obtain ⟨v, σ', H', J, rv, q⟩ := hs
    exact fin J rv q
  | next =>
    obtain ⟨σ', H', J, q⟩ := hs
    exact fin (v := V.non) (u := Value.none) J rfl q
  | brk =>
    obtain ⟨_, _, _, q⟩ := hs
    exact False.elim q
  | cont =>
    obtain ⟨_, _, _, q⟩ := hs
    exact False.elim q
end L2

namespace L2
open PySem PySem.Spec PyProof.Rows
section
variable {X : Cx} {x : Str} {p pos : Pos} {e : Expr} {es : List Expr} {t : TA} {id T : String} {r : List V → Hp → VK → Prop}

def tCB (r : List V → Hp → VK → Prop) (t : TA) : TE := fun σ H Q => t σ H fun vs H1 => r vs H1 Q
/-- f(e, ..), f a built-in function -/
theorem pe_callB (hc : CallR X (.builtin id) r) (hg : Gl X x) (hm : X.mg x = none) (hv : bootBuiltins x = some (.builtin id)) (ha : PA X (e :: es) t) (hn : x ≠ "__name__" := by decide) (hdb : (x == ("__debug__" : Str)) = false := by decide)
    (he : starEach (e :: es) X.env = (false, eval e X.env) :: starEach es X.env := by rfl) (hpl : (backTo pos (starEach es X.env)).any (·.1) = false := by rfl) : PE X (.Call (.Name x p) (e :: es) [] pos) (tCB r t) := by
  intro pins s σ H Q I h
  refine wpAny_Call_Name_kw (ld_blt I hg hm hv ?_ hn hdb)
  exact PyProof.Rows.callWith_builtin1 (thn (ha pos pins s σ H _ I h) fun us s1 ⟨vs, H1, I1, r1, q1⟩ => hc pins s1 σ H1 vs us Q I1 r1 q1) he hpl
/-- T(e, ..), T a built-in type -/
theorem pe_callTy (hc : CallR X (.type T) r) (hg : Gl X x) (hm : X.mg x = none) (hv : bootBuiltins x = some (.type T)) (ha : PA X (e :: es) t) (hn : x ≠ "__name__" := by decide) (hdb : (x == ("__debug__" : Str)) = false := by decide)
    (he : starEach (e :: es) X.env = (false, eval e X.env) :: starEach es X.env := by rfl) (hpl : (backTo pos (starEach es X.env)).any (·.1) = false := by rfl) : PE X (.Call (.Name x p) (e :: es) [] pos) (tCB r t) := by
  intro pins s σ H Q I h
  refine wpAny_Call_Name_kw (ld_blt I hg hm hv ?_ hn hdb)
  exact PyProof.Rows.callWith_type1 (thn (ha pos pins s σ H _ I h) fun us s1 ⟨vs, H1, I1, r1, q1⟩ => hc pins s1 σ H1 vs us Q I1 r1 q1) he hpl
end
end L2

namespace HT
open PySem PyProof.Rows

/-- t < u of tuples of ints -/
def lexLt : List Int → List Int → Bool
  | [], [] => false
  | [], _ :: _ => true
  | _ :: _, [] => false
  | x :: xs, y :: ys => if x = y then lexLt xs ys else decide (x < y)
theorem lexLt_cons (x y : Int) (xs ys : List Int) : lexLt (x :: xs) (y :: ys) = if x = y then lexLt xs ys else decide (x < y) := rfl
theorem lexLt_nil_nil : lexLt [] [] = false := rfl
theorem lexLt_nil_cons (y : Int) (ys : List Int) : lexLt [] (y :: ys) = true := rfl
theorem lexLt_cons_nil (x : Int) (xs : List Int) : lexLt (x :: xs) [] = false := rfl

theorem eqAt_int (A : Around) (s : Shared) (a : Int) (t : Tok) (c : Int) (u : Tok) : ∃ e, SeqAt.EqAt A s (.int a t) (.int c u) e ∧ (e = true ↔ a = c) :=
  ⟨(a == c), SeqAt.EqAt.int_int a t c u, by simp⟩
theorem rcLt_int (A : Around) (s : Shared) (a : Int) (t : Tok) (c : Int) (u : Tok) (prog : Program) (w : World) (E : Value → Shared → Prop) (Q : Value → Shared → Prop) (h : Q (.bool (decide (a < c))) s) :
    wpAny (model prog w) A (richCompare .Lt (.int a t) (.int c u)) Q E s :=
  (PyProof.Rows.lt_int h : wpAny (model prog w) A (compareOp .Lt (.int a t) (.int c u)) Q E s)

section
open PySem.SeqAt
open PySem.AutoSeq1 (wpAny_loadPart')
open PySem.MeetsSeq PySem.MeetsSeq2 PySem.MeetsSeq3

theorem tuple_lt_ints (l b : Addr) (items items2 : Array Value) (n n2 : Nat) (dd dd2 : Option Addr) (sl sl2 : Array (Option Value)) (ns ms : List Int) (hi : IntsAre items.toList ns) (hj : IntsAre items2.toList ms) :
    Meets (Builtin.«tuple.__lt__» ⟨[.ref l, .ref b], []⟩)
      (fun _ R s => s.heap.get? l = some { cls := .type "tuple", dict := dd, data := .seq items n, slots := sl } ∧ s.heap.get? b = some { cls := .type "tuple", dict := dd2, data := .seq items2 n2, slots := sl2 } ∧
        R (.ok (.ret (.bool (lexLt ns ms)))) s) :=
  .of_wp fun prog w A R s h => by
    obtain ⟨hp, g, d, tk, os⟩ := s; obtain ⟨hl, hb, h⟩ := h
    have f2 := AutoSeq1.sub_tuple_tuple
    have z1 : items.size = ns.length := by rw [← hi.length]; simp
    have z2 : items2.size = ms.length := by rw [← hj.length]; simp
    wp_walk using wpAny_loadPart' hl, wpAny_loadPart' hb, wpAny_forIn_list _ (fun rest b s' => b.1 = none ∧ s' = ⟨hp, g, d, tk, os⟩ ∧ ∃ (vs ws : List Value) (ns' ms' : List Int), rest = vs.zip ws ∧
      IntsAre vs ns' ∧ IntsAre ws ms' ∧ ns'.length + items2.size = ms'.length + items.size ∧ R (.ok (.ret (.bool (lexLt ns' ms')))) ⟨hp, g, d, tk, os⟩) _
    case turn =>
      rintro ⟨y, x⟩ rest b s' ⟨hb', rfl, vs, ws, ns', ms', hz, hvi, hwi, hlen, hR⟩
      cases hvi with
      | nil => rw [List.zip_nil_left] at hz; cases hz
      | cons a t hvi' =>
        cases hwi with
        | nil => rw [List.zip_nil_right] at hz; cases hz
        | cons c u hwi' =>
          rw [List.zip_cons_cons] at hz
          injection hz with hyx hrest
          injection hyx with hy hx
          subst hy hx
          rw [lexLt_cons] at hR
          simp only [List.length_cons] at hlen
          obtain ⟨e, he, hiff⟩ := eqAt_int A.in1 ⟨hp, g, d, tk, os⟩ a t c u
          refine wpAny_bind (he prog w _ _ ?_)
          cases e with
          | true =>
            rw [if_pos (hiff.mp rfl)] at hR
            wp_walk
            exact ⟨rfl, rfl, _, _, _, _, hrest, hvi', hwi', by omega, hR⟩
          | false =>
            rw [if_neg (fun q => absurd (hiff.mpr q) Bool.false_ne_true)] at hR
            have hri := rcLt_int A.in1 ⟨hp, g, d, tk, os⟩ a t c u prog w
            wp_walk using hri
            exact ⟨_, rfl, by simpa using hR⟩
    case fin =>
      rintro ⟨b1, b2⟩ s' ⟨hb', rfl, vs, ws, ns', ms', hz, hvi, hwi, hlen, hR⟩
      simp only at hb'
      subst hb'
      have hv : lexLt ns' ms' = decide (items.size < items2.size) := by
        cases hvi with
        | nil =>
          cases hwi with
          | nil =>
            simp only [List.length_nil] at hlen
            rw [lexLt_nil_nil]
            exact (decide_eq_false (by omega)).symm
          | cons c u hw =>
            simp only [List.length_nil, List.length_cons] at hlen
            rw [lexLt_nil_cons]
            exact (decide_eq_true (by omega)).symm
        | cons a t hv =>
          cases hwi with
          | nil =>
            simp only [List.length_nil, List.length_cons] at hlen
            rw [lexLt_cons_nil]
            exact (decide_eq_false (by omega)).symm
          | cons c u hw =>
            rw [List.zip_cons_cons] at hz
            cases hz
      rw [hv] at hR
      wp_walk
      exact ⟨_, rfl, by simpa [Builtin.Tuple.tupleCompareSizes] using hR⟩
    case h =>
      exact ⟨rfl, rfl, items.toList, items2.toList, ns, ms, rfl, hi, hj, by omega, h⟩
end

section
variable {prog : Program} {w : World} {A : Around} {E : Value → Shared → Prop} {s : Shared}

theorem lt_tupInts {l b : Addr} {items items2 : Array Value} {ns ms : List Int} {Q : Value → Shared → Prop} (hl : IsTup s.heap l items) (hb : IsTup s.heap b items2) (hi : IntsAre items.toList ns) (hj : IntsAre items2.toList ms)
    (hu : A.units < cLine) (h : Q (.bool (lexLt ns ms)) s) : wpAny (model prog w) A (compareOp .Lt (.ref l) (.ref b)) Q E s := by
  obtain ⟨⟨cls, dd, data, sl⟩, ho, hc, n, hd⟩ := id hl
  obtain ⟨⟨cls2, dd2, data2, sl2⟩, ho2, hc2, n2, hd2⟩ := id hb
  simp only at hc hd hc2 hd2
  subst hc hd hc2 hd2
  exact richCompare_meets_room (op := .Lt) ⟨_, ho, rfl⟩ ⟨_, ho2, rfl⟩ PySem.F.slot_tuple_lt PySem.F.entry_tuple_lt (PySem.F.args_tuple_lt_2 _ _) (tuple_lt_ints l b items items2 n n2 dd dd2 sl sl2 ns ms hi hj)
    ⟨ho, ho2, show Value.bool (lexLt ns ms) ≠ Value.notImplemented ∧ Q (.bool (lexLt ns ms)) s from ⟨(fun x => nomatch x), h⟩⟩ hu

/-- t + u, t not empty -/
theorem cat_tup {t b : Addr} {vs ws : List Value} {Q : Value → Shared → Prop} (ht : IsTup s.heap t vs.toArray) (hb : IsTup s.heap b ws.toArray) (hv : vs ≠ [])
    (h1 : ws = [] → Q (.ref t) s) (h2 : ws ≠ [] → Q (.ref s.heap.objs.size) { s with heap := s.heap.push { cls := .type "tuple", data := .seq (vs ++ ws).toArray } })
    (hsz : vs.length + ws.length ≤ sizeLine) : wpAny (model prog w) A (binaryOp .Add (.ref t) (.ref b)) Q E s := by
  obtain ⟨⟨cls, dd, data, sl⟩, ho, hc, n, hd⟩ := id ht
  obtain ⟨⟨cls2, dd2, data2, sl2⟩, ho2, hc2, n2, hd2⟩ := id hb
  simp only at hc hd hc2 hd2
  subst hc hd hc2 hd2
  have e : vs.toArray ++ ws.toArray = (vs ++ ws).toArray := by simp
  by_cases hw : ws = []
  · exact concat_meets ⟨_, ho, rfl⟩ ⟨_, ho2, rfl⟩ noFill_tuple_add seq_tuple_add PySem.F.slot_tuple_add PySem.F.entry_tuple_add (PySem.F.args_tuple_add_2 _ _)
      (tuple_addW1 t b vs.toArray ws.toArray n n2 dd dd2 sl sl2 (by simpa using hv) (by simp [hw])) ⟨ho, ho2, h1 hw⟩
  · refine concat_meets ⟨_, ho, rfl⟩ ⟨_, ho2, rfl⟩ noFill_tuple_add seq_tuple_add PySem.F.slot_tuple_add PySem.F.entry_tuple_add (PySem.F.args_tuple_add_2 _ _)
      (tuple_addW2 t b vs.toArray ws.toArray n n2 dd dd2 sl sl2 (by simpa using hv) (by simpa using hw) (by rw [List.size_toArray, List.size_toArray]; exact hsz)) ⟨ho, ho2, ?_⟩
    rw [e]
    exact h2 hw

/-! ### t[a:b], not the whole -/
/-- a slice's bound as a place among n (d where it is left out) -/
def sIx (n d : Nat) : Option Int → Nat
  | none => d
  | some v => if v < 0 then (v + (n : Int)).toNat else min v.toNat n
theorem sIx_le (n d : Nat) (hd : d ≤ n) (o : Option Int) : sIx n d o ≤ n := by
  cases o with
  | none => exact hd
  | some v =>
    show (if v < 0 then (v + (n : Int)).toNat else min v.toNat n) ≤ n
    by_cases hv : v < 0
    · rw [if_pos hv]; omega
    · rw [if_neg hv]; exact Nat.min_le_right _ _
theorem clip_eq (v : Int) (n d : Nat) : (if v < 0 then max (v + (n : Int)) 0 else min v (n : Int)) = ((sIx n d (some v) : Nat) : Int) := by
  show (if v < 0 then max (v + (n : Int)) 0 else min v (n : Int)) = (((if v < 0 then (v + (n : Int)).toNat else min v.toNat n) : Nat) : Int)
  by_cases hv : v < 0
  · simp only [if_pos hv]; omega
  · simp only [if_neg hv]; omega
theorem adjust_gen (lo hi : Option Int) (n : Nat) : Builtin.Slice.sliceAdjust lo hi 1 (n : Int) = (((sIx n 0 lo : Nat) : Int), ((sIx n n hi : Nat) : Int)) := by
  have h1 : ¬ ((1 : Int) < 0) := by omega
  unfold Builtin.Slice.sliceAdjust
  simp only [h1, if_false]
  refine Prod.ext ?_ ?_
  · cases lo with
    | none => rfl
    | some v => exact clip_eq v n 0
  · cases hi with
    | none => rfl
    | some v => exact clip_eq v n n
theorem places_gen (i j : Nat) : Builtin.Slice.slicePlaces (i : Int) (j : Int) 1 = j - i := by
  unfold Builtin.Slice.slicePlaces
  have h1 : (1 : Int) > 0 := by omega
  simp only [h1, if_true, Int.ediv_one]
  split <;> omega
theorem slicePart_ {v : Value} {o : Option Int} {Q : Option Int → Shared → Prop} (p : IsPart v o) (h : Q o s) : wpAny (model prog w) A (Builtin.Slice.slicePartIndex v) Q E s := by
  cases p with
  | none => exact slicePart_none h
  | int i t => exact slicePart_int h
theorem sliceApplied_gen {sl : Addr} {vl vu : Value} {lo hi : Option Int} {n : Nat} {Q : Int × Int × Nat → Shared → Prop} (hs : s.heap.IsSliceOf sl vl vu .none) (pl : IsPart vl lo) (pu : IsPart vu hi)
    (h : Q (((sIx n 0 lo : Nat) : Int), 1, sIx n n hi - sIx n 0 lo) s) : wpAny (model prog w) A (Builtin.Slice.sliceApplied (.ref sl) (pure (n : Int))) Q E s := by
  obtain ⟨os, hos, hcs, hds⟩ := id hs
  unfold Builtin.Slice.sliceApplied Builtin.Slice.sliceFields
  refine wpAny_bind (wpAny_bind (wpAny_field hos hds (x := vl) rfl (wpAny_bind (wpAny_field hos hds (x := vu) rfl (wpAny_bind (wpAny_field hos hds (x := .none) rfl (wpAny_pure ?_)))))))
  refine wpAny_bind (slicePart_none ?_)
  show wpAny _ _ (if ((1 : Int) == 0) = true then _ else _) _ _ s
  rw [if_neg (by decide)]
  refine wpAny_bind (slicePart_ pl (wpAny_bind (slicePart_ pu (wpAny_bind (wpAny_pure ?_)))))
  show wpAny _ _ (match Builtin.Slice.sliceAdjust lo hi 1 (n : Int) with | (lo, hi) => pure (lo, (1 : Int), Builtin.Slice.slicePlaces lo hi 1)) _ _ s
  rw [adjust_gen lo hi n]
  show wpAny _ _ (pure (((sIx n 0 lo : Nat) : Int), (1 : Int), Builtin.Slice.slicePlaces ((sIx n 0 lo : Nat) : Int) ((sIx n n hi : Nat) : Int) 1)) _ _ s
  rw [places_gen]
  exact wpAny_pure h
theorem pick_gen (xs : Array Value) (i k : Nat) : ((List.range k).filterMap fun (m : Nat) => xs[((i : Int) + (m : Int) * 1).toNat]?).toArray = ((xs.toList.drop i).take k).toArray := by
  have e : (fun (m : Nat) => xs[((i : Int) + (m : Int) * 1).toNat]?) = fun m => xs[i + m]? := by
    funext m
    have : ((i : Int) + (m : Int) * 1).toNat = i + m := by omega
    rw [this]
  rw [e]
  have := pick_run xs i k
  rw [List.filterMap_map] at this
  have e2 : ((fun x => xs[x]?) ∘ fun x => i + x) = fun m => xs[i + m]? := rfl
  rw [e2] at this
  rw [this]

theorem getItem_tuple_cut {t sl : Addr} {items : Array Value} {vl vu : Value} {lo hi : Option Int} {Q : Value → Shared → Prop} (ht : IsTup s.heap t items) (hs : s.heap.IsSliceOf sl vl vu .none) (pl : IsPart vl lo) (pu : IsPart vu hi)
    (hw : ¬ (sIx items.size 0 lo = 0 ∧ sIx items.size items.size hi = items.size))
    (h : Q (.ref s.heap.objs.size) { s with heap := s.heap.push { cls := .type "tuple", data := .seq ((items.toList.drop (sIx items.size 0 lo)).take (sIx items.size items.size hi - sIx items.size 0 lo)).toArray } })
    (hsz : items.size ≤ sizeLine) : wpAny (model prog w) A (getItem (.ref t) (.ref sl)) Q E s := by
  have htake : sizeOk (.seq ((items.toList.drop (sIx items.size 0 lo)).take (sIx items.size items.size hi - sIx items.size 0 lo)).toArray) := by
    show ((items.toList.drop (sIx items.size 0 lo)).take (sIx items.size items.size hi - sIx items.size 0 lo)).toArray.size ≤ sizeLine
    rw [List.size_toArray, List.length_take, List.length_drop, Array.length_toList]
    omega
  have hj : sIx items.size items.size hi ≤ items.size := sIx_le _ _ (Nat.le_refl _) hi
  obtain ⟨os, hos, hcs, hds⟩ := id hs
  have hTs : s.TypeIs (.ref sl) "slice" := ⟨os, hos, hcs⟩
  unfold getItem
  try with_reducible refine wpAny_holding ?_
  first | refine wpAny_bind (wpAny_pure ?_) | skip
  refine wpAny_bind (wpAny_sequenceKey ht.typeIs (by decide) ?_)
  refine wpAny_bind (wpAny_callSpecial?_slot (name := Str.ofString "__getitem__") ht.typeIs PyProof.Rows.slot_tuple_getitem
    (wpAny_call_entry PyProof.Rows.slot_tuple_getitem ht.typeIs entry_tuple_getitem ?_ (args_tuple_getitem _ _)))
  show wpAny _ _ (Builtin.Tuple.tupleItemsOf (.ref t) >>= _) _ _ s
  refine wpAny_bind (tupleItemsOf_ ht ?_)
  refine wpAny_bind (wpAny_typeOf hTs ?_)
  rw [if_pos (by decide)]
  refine wpAny_bind (sliceApplied_gen hs pl pu ?_)
  have hno : ¬ ((((sIx items.size 0 lo : Nat) : Int) == 0 && (1 : Int) == 1 && (sIx items.size items.size hi - sIx items.size 0 lo) == items.size) = true) := by
    intro q
    rw [Bool.and_eq_true, Bool.and_eq_true] at q
    have q1 : ((sIx items.size 0 lo : Nat) : Int) = 0 := eq_of_beq q.1.1
    have q2 : sIx items.size items.size hi - sIx items.size 0 lo = items.size := eq_of_beq q.2
    exact hw ⟨by omega, by omega⟩
  show wpAny _ _ (if (((sIx items.size 0 lo : Nat) : Int) == 0 && (1 : Int) == 1 && (sIx items.size items.size hi - sIx items.size 0 lo) == items.size) = true then _ else _) _ _ s
  rw [if_neg hno, pick_gen]
  first
    | exact wpAny_bind (m := Builtin.Tuple.tupleExact _) (wpAny_newObj_type (wpAny_pure ⟨_, rfl, wpAny_pure h⟩) htake)
    | exact wpAny_bind (m := Builtin.Tuple.tupleExact _) (wpAny_newObj_type (wpAny_bind (wpAny_pure (wpAny_pure ⟨_, rfl, wpAny_pure h⟩))) htake)
    | exact wpAny_bind (wpAny_bind (m := Builtin.Tuple.tupleExact _) (wpAny_newObj_type (wpAny_pure (wpAny_pure ⟨_, rfl, wpAny_pure h⟩)) htake))
    | exact wpAny_bind (wpAny_bind (m := Builtin.Tuple.tupleExact _) (wpAny_newObj_type (wpAny_pure ⟨_, rfl, wpAny_pure h⟩) htake))
end
end HT

namespace L2
open PySem PySem.Spec PyProof.Rows

/-! ### the parts of a slice -/
abbrev TO := St → Hp → (Option Int → Hp → Prop) → Prop
/-- a slice's part (left out, or an int) -/
def PO (X : Cx) (e : Option Expr) (t : TO) : Prop :=
  ∀ (pins : List (Addr × Obj)) (s : Shared) (σ : St) (H : Hp) (Q : Option Int → Hp → Prop), Inv X pins σ H s → t σ H Q →
    wpAny (model X.prog X.w) X.A (evalPart e X.env) (fun u s' => ∃ o H', Inv X pins σ H' s' ∧ IsPart u o ∧ Q o H') X.xe s
def tNoPart : TO := fun _ H Q => Q none H
def tPart (t : TE) : TO := fun σ H Q => t σ H fun x H1 => ∃ i, x = .int i ∧ Q (some i) H1

theorem intsAre_of {ns : List Int} : ∀ {us : List Value}, Vals (ns.map V.int) us → IntsAre us ns := by
  induction ns with
  | nil => intro us r; rw [List.map_nil] at r; cases r; exact .nil
  | cons n ns ih =>
    intro us r
    rw [List.map_cons] at r
    cases r with
    | cons r1 r2 =>
      obtain ⟨t, e⟩ := r1
      subst e
      exact .cons n t (ih r2)

section
variable {X : Cx} {e : Expr} {te : TE} {lo hi : Option Expr} {tl th : TO} {pos p2 : Pos}

theorem po_none : PO X none tNoPart := by
  intro pins s σ H Q I h
  rw [evalPart_none]
  exact wpAny_pure ⟨none, H, I, .none, h⟩
theorem po_some (h : PE X e te) : PO X (some e) (tPart te) := by
  intro pins s σ H Q I hw
  rw [evalPart_some]
  refine thn (h pins s σ H _ I hw) fun u s1 ⟨x, H1, I1, r1, q1⟩ => ?_
  obtain ⟨i, rfl, q⟩ := q1
  obtain ⟨t, rfl⟩ := r1
  exact ⟨some i, H1, I1, .int i t, q⟩

/-- what a slice of a value is, by values: the slice object stands at sl -/
def SlR (X : Cx) (r : V → Option Int → Option Int → Hp → VK → Prop) : Prop :=
  ∀ (pins : List (Addr × Obj)) (s : Shared) (σ : St) (H : Hp) (x : V) (v vl vu : Value) (lo hi : Option Int) (sl : Addr) (Q : VK), Inv X pins σ H s → RelV x v → s.heap.IsSliceOf sl vl vu .none → IsPart vl lo → IsPart vu hi → r x lo hi H Q →
    ∃ T id, typeLookup (.type T) "__getitem__" = pure (some (.builtin id)) ∧ s.TypeIs v T ∧ wpAny (model X.prog X.w) X.A (getItem v (.ref sl)) (EP X pins σ Q) X.xe s
theorem SlR.or {r r' : V → Option Int → Option Int → Hp → VK → Prop} (h : SlR X r) (h' : SlR X r') : SlR X (fun x lo hi H Q => r x lo hi H Q ∨ r' x lo hi H Q) := by
  intro pins s σ H x v vl vu lo hi sl Q I rx hs pl pu q
  rcases q with q | q
  · exact h pins s σ H x v vl vu lo hi sl Q I rx hs pl pu q
  · exact h' pins s σ H x v vl vu lo hi sl Q I rx hs pl pu q
def tSl (r : V → Option Int → Option Int → Hp → VK → Prop) (te : TE) (tl th : TO) : TE := fun σ H Q => te σ H fun x H1 => tl σ H1 fun l H2 => th σ H2 fun u H3 => r x l u H3 Q
/-- a[lo:hi], any a -/
theorem pe_slice {r : V → Option Int → Option Int → Hp → VK → Prop} (hr : SlR X r) (he : PE X e te) (hl : PO X lo tl) (hu : PO X hi th) : PE X (.Subscript e (.Slice lo hi none p2) pos) (tSl r te tl th) := by
  intro pins s σ H Q I h
  refine Subscript_ (thn (he pins s σ H _ I h) fun v s1 ⟨x, H1, I1, r1, q1⟩ => ?_)
  refine wpAny_Slice (thn (hl pins s1 σ H1 _ I1 q1) fun vl s2 ⟨l, H2, I2, pl, q2⟩ => thn (hu pins s2 σ H2 _ I2 q2) fun vu s3 ⟨u, H3, I3, pu, q3⟩ => ?_)
  rw [evalPart_none]
  refine wpAny_pure ?_
  have I4 : Inv X pins σ H3 { s3 with heap := s3.heap.push { cls := .type "slice", data := .fields #[vl, vu, .none] } } := I3.kept (t' := s3.toks) fun b ob q => Heap.get?_push_of_some _ q
  obtain ⟨T, id, hT, ht, hg⟩ := hr pins { s3 with heap := s3.heap.push { cls := .type "slice", data := .fields #[vl, vu, .none] } } σ H3 x v vl vu l u s3.heap.objs.size Q I4 r1 (Heap.IsSliceOf.new ..) pl pu q3
  show wpAny (model X.prog X.w) X.A (subscriptTail e (.Slice lo hi none p2) v (.ref s3.heap.objs.size)) (EP X pins σ Q) X.xe { s3 with heap := s3.heap.push { cls := .type "slice", data := .fields #[vl, vu, .none] } }
  exact tail_any (ops := [.ref s3.heap.objs.size, v]) ht hT hg (by with_unfolding_all rfl)

/-- the items of xs[lo:hi] -/
def cutV (xs : List V) (lo hi : Option Int) : List V := (xs.drop (HT.sIx xs.length 0 lo)).take (HT.sIx xs.length xs.length hi - HT.sIx xs.length 0 lo)
theorem cutV_length (xs : List V) (lo hi : Option Int) : (cutV xs lo hi).length ≤ xs.length := by
  unfold cutV
  rw [List.length_take, List.length_drop]
  omega
/-- t[lo:hi], not the whole of it (the whole would be t itself) -/
def rSlT (K : PySem.W.Frag) : V → Option Int → Option Int → Hp → VK → Prop := fun x lo hi H Q => ∃ a xs, x = .ref a ∧ SqT K H a xs ∧
  ¬ (HT.sIx xs.length 0 lo = 0 ∧ HT.sIx xs.length xs.length hi = xs.length) ∧ ∀ p, H p = none → Q (.ref p) (upd H p (.tup (cutV xs lo hi)))
theorem sl_tup : SlR X (rSlT X.K) := by
  intro pins s σ H x v vl vu lo hi sl Q I rx hs pl pu h
  obtain ⟨a, xs, rfl, hx, hw, q⟩ := h
  cases rx
  obtain ⟨its, r, ht, hz⟩ := I.tuple hx
  have hlen : its.toArray.size = xs.length := by rw [List.size_toArray]; exact r.length.symm
  refine ⟨"tuple", _, PyProof.Rows.slot_tuple_getitem.lookup, ht.typeIs, ?_⟩
  refine HT.getItem_tuple_cut ht hs pl pu (by rw [hlen]; exact hw) ?_ (by rw [hlen]; exact hz)
  rw [hlen]
  refine ⟨.ref s.heap.objs.size, _, I.laid (t' := s.toks) (o := .tup (cutV xs lo hi)) (fun b ob q => Heap.get?_push_of_some _ q) (Nat.le_refl _) ?_, rfl, q _ (I.hok.fresh (Nat.le_refl _))⟩
  exact ⟨Nat.le_trans (cutV_length xs lo hi) hz, _, (r.drop (HT.sIx xs.length 0 lo)).take (HT.sIx xs.length xs.length hi - HT.sIx xs.length 0 lo), IsTup.new _ _⟩

/-! ### t < u, t + u -/
def rLtT (K : PySem.W.Frag) : R2 := fun x y H Q => ∃ a b ns ms, x = .ref a ∧ y = .ref b ∧ SqT K H a (ns.map V.int) ∧ SqT K H b (ms.map V.int) ∧ Q (.bl (HT.lexLt ns ms)) H
theorem op_ltT (hu : X.A.units < cLine) : OpR X (compareOp .Lt) (rLtT X.K) := by
  intro pins s σ H x y v u Q I rx ry h
  obtain ⟨a, b, ns, ms, rfl, rfl, ha, hb, q⟩ := h
  cases rx
  cases ry
  obtain ⟨its, r1, p1, _⟩ := I.tuple ha
  obtain ⟨its2, r2, p2, _⟩ := I.tuple hb
  have i1 : IntsAre its.toArray.toList ns := intsAre_of r1
  have i2 : IntsAre its2.toArray.toList ms := intsAre_of r2
  exact HT.lt_tupInts p1 p2 i1 i2 hu ⟨.bl (HT.lexLt ns ms), H, I, rfl, q⟩
/-- t + u, t not empty: u empty gives t itself -/
def rCatT (K : PySem.W.Frag) : R2 := fun x y H Q => ∃ a b xs ys, x = .ref a ∧ y = .ref b ∧ SqT K H a xs ∧ SqT K H b ys ∧ xs ≠ [] ∧ xs.length + ys.length ≤ sizeLine ∧
  (ys = [] → Q (.ref a) H) ∧ (ys ≠ [] → ∀ p, H p = none → Q (.ref p) (upd H p (.tup (xs ++ ys))))
theorem Vals.nil_iff {xs : List V} {us : List Value} (r : Vals xs us) : us = [] ↔ xs = [] := by
  cases r with
  | nil => simp
  | cons _ _ => simp
theorem op_catT : OpR X (binaryOp .Add) (rCatT X.K) := by
  intro pins s σ H x y v u Q I rx ry h
  obtain ⟨a, b, xs, ys, rfl, rfl, ha, hb, hx, hz, q1, q2⟩ := h
  cases rx
  cases ry
  obtain ⟨its, r1, p1, _⟩ := I.tuple ha
  obtain ⟨its2, r2, p2, _⟩ := I.tuple hb
  refine HT.cat_tup p1 p2 (fun z => hx (r1.nil_iff.mp z)) (fun z => ⟨.ref a, H, I, rfl, q1 (r2.nil_iff.mp z)⟩) (fun z => ?_) (by rw [← r1.length, ← r2.length]; exact hz)
  refine ⟨.ref s.heap.objs.size, _, I.laid (t' := s.toks) (o := .tup (xs ++ ys)) (fun b ob q => Heap.get?_push_of_some _ q) (Nat.le_refl _) ?_, rfl, q2 (fun w => z (r2.nil_iff.mpr w)) _ (I.hok.fresh (Nat.le_refl _))⟩
  exact ⟨by rw [List.length_append]; exact hz, _, r1.append r2, IsTup.new _ _⟩
end
end L2

namespace L2
open PySem PySem.Spec PyProof.Rows

/-! ### places -/
/-- the place that an index of any sign means -/
def ixN (n : Nat) (i : Int) : Option Nat := if 0 ≤ i then (if i < n then some i.toNat else none) else if -(n : Int) ≤ i then some (i + n).toNat else none
def atI {α : Type} (xs : List α) (i : Int) : Option α := (ixN xs.length i).bind fun j => xs[j]?
theorem ixN_seq {n : Nat} {i : Int} {j : Nat} (h : ixN n i = some j) : seqIndex? i n = some j ∧ j < n ∧ -(n : Int) ≤ i ∧ i < n := by
  unfold ixN at h
  by_cases h0 : 0 ≤ i
  · rw [if_pos h0] at h
    by_cases h1 : i < n
    · rw [if_pos h1] at h
      have e : i.toNat = j := Option.some.inj h
      exact ⟨by rw [seqIndex_of h0 h1, e], by omega, by omega, h1⟩
    · rw [if_neg h1] at h; cases h
  · rw [if_neg h0] at h
    by_cases h1 : -(n : Int) ≤ i
    · rw [if_pos h1] at h
      have e : (i + n).toNat = j := Option.some.inj h
      exact ⟨by rw [seqIndex_neg (by omega) h1, e], by omega, h1, by omega⟩
    · rw [if_neg h1] at h; cases h
theorem atI_get {α : Type} {xs : List α} {i : Int} {v : α} (h : atI xs i = some v) : ∃ j, seqIndex? i xs.length = some j ∧ xs[j]? = some v ∧ j < xs.length ∧ -(xs.length : Int) ≤ i ∧ i < xs.length := by
  unfold atI at h
  cases e : ixN xs.length i with
  | none => rw [e] at h; cases h
  | some j =>
    rw [e] at h
    obtain ⟨h1, h2, h3, h4⟩ := ixN_seq e
    exact ⟨j, h1, h, h2, h3, h4⟩
/-! ### what may be subscripted -/
/-- what stands as an index of a plain subscript -/
def PlainIx (b : Expr) : Prop := ∀ o i, subscripted b false o i = operate [o, i] (getItem o i)
/-- a subscript by values -/
def IxR (X : Cx) (r : R2) : Prop :=
  ∀ (value slice : Expr) (pins : List (Addr × Obj)) (s : Shared) (σ : St) (H : Hp) (x y : V) (v u : Value) (Q : VK), Inv X pins σ H s → RelV x v → RelV y u → r x y H Q →
    subscripted slice false v u = operate [v, u] (getItem v u) → wpAny (model X.prog X.w) X.A (subscriptTail value slice v u) (EP X pins σ Q) X.xe s
/-- a call of a builtin's method by values: the receiver, the arguments -/
def MtR (X : Cx) (id : String) (r : V → List V → Hp → VK → Prop) : Prop :=
  ∀ (pins : List (Addr × Obj)) (s : Shared) (σ : St) (H : Hp) (x : V) (xs : List V) (v : Value) (us : List Value) (Q : VK), Inv X pins σ H s → RelV x v → Vals xs us → r x xs H Q →
    wpAny (model X.prog X.w) X.A (call (.builtin id) (v :: us)) (EP X pins σ Q) X.xe s
section
variable {X : Cx} {a b : Expr} {ta tb : TE} {pos : Pos}
theorem IxR.or {r r' : R2} (h : IxR X r) (h' : IxR X r') : IxR X (fun x y H Q => r x y H Q ∨ r' x y H Q) := by
  intro value slice pins s σ H x y v u Q I rx ry q hs
  rcases q with q | q
  · exact h value slice pins s σ H x y v u Q I rx ry q hs
  · exact h' value slice pins s σ H x y v u Q I rx ry q hs
theorem MtR.or {id : String} {r r' : V → List V → Hp → VK → Prop} (h : MtR X id r) (h' : MtR X id r') : MtR X id (fun x xs H Q => r x xs H Q ∨ r' x xs H Q) := by
  intro pins s σ H x xs v us Q I rx rs q
  rcases q with q | q
  · exact h pins s σ H x xs v us Q I rx rs q
  · exact h' pins s σ H x xs v us Q I rx rs q
/-- a[b] -/
theorem pe_ix {r : R2} (hr : IxR X r) (ha : PE X a ta) (hb : PE X b tb) (hs : PlainIx b) : PE X (.Subscript a b pos) (tOp r ta tb) := by
  intro pins s σ H Q I h
  exact Subscript_ (binT ha hb I h fun v u s2 x y H2 I2 rx ry q => hr a b pins s2 σ H2 x y v u Q I2 rx ry q (hs _ _))

def rIxL (K : PySem.W.Frag) : R2 := fun x y H Q => ∃ p xs i v, x = .ref p ∧ y = .int i ∧ SqL K H p xs ∧ atI xs i = some v ∧ Q v H
def rIxT (K : PySem.W.Frag) : R2 := fun x y H Q => ∃ p xs i v, x = .ref p ∧ y = .int i ∧ SqT K H p xs ∧ atI xs i = some v ∧ Q v H
def rIxS : R2 := fun x y H Q => ∃ z i c, x = .str z ∧ y = .int i ∧ z.length ≤ sizeLine ∧ atI z.cps.toList i = some c ∧ Q (.str ⟨#[c]⟩) H
theorem ix_list : IxR X (rIxL X.K) := by
  intro value slice pins s σ H x y v u Q I rx ry h hs
  obtain ⟨p, xs, i, z, rfl, rfl, hq, he, q⟩ := h
  cases rx
  obtain ⟨t, rfl⟩ := ry
  obtain ⟨its, r, pl, hz⟩ := I.list hq
  obtain ⟨j, h1, h2, h3, h4, h5⟩ := atI_get he
  obtain ⟨w, ew, rw'⟩ := r.get h2
  have hl := r.length
  have hn := line63
  have fin : EP X pins σ Q w s := ⟨z, H, I, rw', q⟩
  by_cases h0 : 0 ≤ i
  · have hj : i.toNat = j := by
      rw [seqIndex_of h0 h5] at h1
      exact Option.some.inj h1
    exact item_listR pl.isList h0 (by omega) (by rw [hj]; simpa using ew) fin hs
  · have hj : (i + (its.toArray.size : Int)).toNat = j := by
      rw [seqIndex_neg (by omega) h4] at h1
      rw [List.size_toArray, ← hl]
      exact Option.some.inj h1
    exact subscriptTail_builtinR (x := w) pl.isList.typeIs slot_list_getitem.lookup
      (wpAny_getItem_list_neg (Q := fun r s' => r = w ∧ EP X pins σ Q r s') pl.isList (by omega) (by rw [List.size_toArray] <;> omega) (by omega) (by rw [hj]; simpa using ew) ⟨rfl, fin⟩) hs
theorem ix_tup : IxR X (rIxT X.K) := by
  intro value slice pins s σ H x y v u Q I rx ry h hs
  obtain ⟨p, xs, i, z, rfl, rfl, hq, he, q⟩ := h
  cases rx
  obtain ⟨t, rfl⟩ := ry
  obtain ⟨its, r, pl, hz⟩ := I.tuple hq
  obtain ⟨j, h1, h2, h3, h4, h5⟩ := atI_get he
  obtain ⟨w, ew, rw'⟩ := r.get h2
  have hl := r.length
  have hn := line63
  have fin : EP X pins σ Q w s := ⟨z, H, I, rw', q⟩
  exact subscriptTail_builtinR (x := w) pl.typeIs slot_tuple_getitem.lookup
    (getItem_tuple (j := j) (Q := fun r s' => r = w ∧ EP X pins σ Q r s') pl (by omega) (by omega) (by rw [List.size_toArray, ← hl]; exact h1) (by simpa using ew) ⟨rfl, fin⟩) hs
theorem ix_str : IxR X rIxS := by
  intro value slice pins s σ H x y v u Q I rx ry h hs
  obtain ⟨z, i, c, rfl, rfl, hz, he, q⟩ := h
  obtain ⟨t, rfl⟩ := rx
  obtain ⟨t', rfl⟩ := ry
  obtain ⟨j, h1, h2, h3, h4, h5⟩ := atI_get he
  have hl : z.cps.toList.length = z.length := by simp [Str.length]
  rw [hl] at h1 h4 h5
  have hn := line63
  exact tail_any (typeIs_str s z t) slot_str_getitem.lookup (getItem_str (c := c) (by
    have e1 : decide (i < -(2 ^ 63 : Int)) = false := decide_eq_false (by omega)
    have e2 : decide (i ≥ 2 ^ 63) = false := decide_eq_false (by omega)
    rw [e1, e2, Bool.or_false]) (by rw [h1]; simpa using h2) ⟨.str ⟨#[c]⟩, H, I.tok _, ⟨_, rfl⟩, q⟩) hs
/-- list, tuple or str -/
def rIx (K : PySem.W.Frag) : R2 := fun x y H Q => rIxL K x y H Q ∨ rIxT K x y H Q ∨ rIxS x y H Q
/-! ### xs[i] = v, any sign -/
theorem Inv.lst {pins : List (Addr × Obj)} {σ : St} {H : Hp} {s : Shared} {p : Addr} {xs : List V} (I : Inv X pins σ H s) (h : H p = some (.lst xs)) :
    ∃ (its : List Value) (n : Nat), Vals xs its ∧ s.heap.get? p = some { cls := .type "list", data := .seq its.toArray n } ∧ xs.length ≤ sizeLine := by
  obtain ⟨z, its, n, r, e⟩ := I.hok p _ h
  exact ⟨its, n, r, e, z⟩
def rSetL : V → V → V → Hp → (Hp → Prop) → Prop := fun o i v H Q => ∃ p xs k j, o = .ref p ∧ i = .int k ∧ H p = some (.lst xs) ∧ ixN xs.length k = some j ∧ Q (upd H p (.lst (xs.set j v)))
/-! ### slices -/
theorem slice_bounds (lo hi : Option Int) (n : Nat) : (sliceBounds lo hi none n).1 = ((HT.sIx n 0 lo : Nat) : Int) ∧ (sliceBounds lo hi none n).2.1 = ((HT.sIx n n hi : Nat) : Int) ∧ (sliceBounds lo hi none n).2.2 = 1 := by
  refine ⟨?_, ?_, rfl⟩
  · cases lo with
    | none => simp [sliceBounds, HT.sIx]
    | some i =>
      simp only [sliceBounds, HT.sIx, Option.getD_none, show (1 : Int) > 0 by decide, if_true]
      by_cases h : i < 0
      · simp only [h, if_true] <;> omega
      · simp only [h, if_false] <;> omega
  · cases hi with
    | none => simp [sliceBounds, HT.sIx]
    | some i =>
      simp only [sliceBounds, HT.sIx, Option.getD_none, show (1 : Int) > 0 by decide, if_true]
      by_cases h : i < 0
      · simp only [h, if_true] <;> omega
      · simp only [h, if_false] <;> omega
theorem slicePick_cut (its : List Value) (lo hi : Option Int) : slicePick its.toArray lo hi none = ((its.drop (HT.sIx its.length 0 lo)).take (HT.sIx its.length its.length hi - HT.sIx its.length 0 lo)).toArray := by
  obtain ⟨h1, h2, h3⟩ := slice_bounds lo hi its.toArray.size
  unfold slicePick
  rw [h1, h2, h3]
  simp only [sliceRange_one, pick_run, List.size_toArray] <;> rfl
/-- xs[lo:hi] of a list: a new list -/
def rSlL (K : PySem.W.Frag) : V → Option Int → Option Int → Hp → VK → Prop := fun x lo hi H Q => ∃ a xs, x = .ref a ∧ SqL K H a xs ∧ ∀ p, H p = none → Q (.ref p) (upd H p (.lst (cutV xs lo hi)))
theorem sl_list : SlR X (rSlL X.K) := by
  intro pins s σ H x v vl vu lo hi sl Q I rx hs pl pu h
  obtain ⟨a, xs, rfl, hx, q⟩ := h
  cases rx
  obtain ⟨its, r, ht, hz⟩ := I.list hx
  have hlen := r.length
  refine ⟨"list", _, slot_list_getitem.lookup, ht.isList.typeIs, ?_⟩
  refine wpAny_getItem_list_slice ht.isList hs pl pu .none (by simp) ?_ (by rw [List.size_toArray] <;> omega)
  rw [slicePick_cut, ← hlen]
  refine ⟨.ref s.heap.objs.size, _, I.laid (t' := s.toks) (o := .lst (cutV xs lo hi)) (fun b ob q => Heap.get?_push_of_some _ q) (Nat.le_refl _) ?_, rfl, q _ (I.hok.fresh (Nat.le_refl _))⟩
  exact ⟨Nat.le_trans (cutV_length xs lo hi) hz, _, 0, (r.drop (HT.sIx xs.length 0 lo)).take (HT.sIx xs.length xs.length hi - HT.sIx xs.length 0 lo), Heap.get?_push_size _ rfl⟩

/-! ### in, not in: flat items -/
def flatV : V → Bool
  | .non => true
  | .bl _ => true
  | .int _ => true
  | .str _ => true
  | _ => false
/-- == of flat values -/
def eqV : V → V → Bool
  | .non, .non => true
  | .bl a, .bl b => a == b
  | .bl a, .int b => (if a then 1 else 0) == b
  | .int a, .bl b => a == (if b then 1 else 0)
  | .int a, .int b => a == b
  | .str a, .str b => a == b
  | _, _ => false
/-- the items' answers, read off the values (a value's own answer does not lean on its token) -/
def eqU (x : V) (u : Value) : Bool := match u with
  | .none => eqV .non x
  | .bool b => eqV (.bl b) x
  | .int i _ => eqV (.int i) x
  | .str z _ => eqV (.str z) x
  | _ => false
def inV (x : V) (xs : List V) : Bool := xs.any fun y => eqV y x
/-- x in a list or tuple of flat items -/
def rIn (K : PySem.W.Frag) (neg : Bool) : R2 := fun x y H Q => ∃ p xs, y = .ref p ∧ (SqL K H p xs ∨ SqT K H p xs) ∧ flatV x = true ∧ xs.all flatV = true ∧ Q (.bl (if neg then !inV x xs else inV x xs)) H
/-! ### len, list(x), tuple(x) of any list or tuple that is read -/
theorem call_len_seq : CallR X (.builtin "len") (fun xs H Q => ∃ p ys, xs = [.ref p] ∧ (SqL X.K H p ys ∨ SqT X.K H p ys) ∧ Q (.int ys.length) H) := by
  intro pins s σ H xs us Q I r h
  obtain ⟨p, ys, rfl, hq, q⟩ := h
  obtain ⟨u, rfl, rx⟩ := vals1 r
  cases rx
  have hn := line63
  rcases hq with hq | hq
  · obtain ⟨its, r', pl, hz⟩ := I.list hq
    have hlen := r'.length
    exact Calls.call_len_list pl.isList (by simp only [List.size_toArray] <;> omega) ⟨.int ys.length, H, I.tok _, ⟨s.toks + 1, by rw [List.size_toArray, hlen]⟩, q⟩
  · obtain ⟨its, r', pl, hz⟩ := I.tuple hq
    have hlen := r'.length
    exact len_tuple pl (by simp only [List.size_toArray] <;> omega) ⟨.int ys.length, H, I.tok _, ⟨s.toks + 1, by rw [List.size_toArray, hlen]⟩, q⟩
theorem call_len_str : CallR X (.builtin "len") (fun xs H Q => ∃ z, xs = [.str z] ∧ z.length ≤ sizeLine ∧ Q (.int z.length) H) := by
  intro pins s σ H xs us Q I r h
  obtain ⟨z, rfl, hz, q⟩ := h
  obtain ⟨u, rfl, t, rfl⟩ := vals1 r
  have hn := line63
  exact len_str (by omega) ⟨.int z.length, H, I.tok _, ⟨_, rfl⟩, q⟩
theorem CallR.or {f : Value} {r r' : List V → Hp → VK → Prop} (h : CallR X f r) (h' : CallR X f r') : CallR X f (fun xs H Q => r xs H Q ∨ r' xs H Q) := by
  intro pins s σ H xs us Q I rs q
  rcases q with q | q
  · exact h pins s σ H xs us Q I rs q
  · exact h' pins s σ H xs us Q I rs q
theorem call_tuple_of : CallR X (.type "tuple") (fun xs H Q => ∃ p ys, xs = [.ref p] ∧ ((SqL X.K H p ys ∧ ∀ l, H l = none → Q (.ref l) (upd H l (.tup ys))) ∨ (SqT X.K H p ys ∧ Q (.ref p) H))) := by
  intro pins s σ H xs us Q I r h
  obtain ⟨p, ys, rfl, h⟩ := h
  obtain ⟨u, rfl, rx⟩ := vals1 r
  cases rx
  rcases h with ⟨hq, q⟩ | ⟨hq, q⟩
  · obtain ⟨its, r', pl, hz⟩ := I.list hq
    have hlen := r'.length
    refine call_tuple_list pl.isList (fun h' kp => ?_) (by simp only [List.size_toArray] <;> omega)
    have I1 : Inv X pins σ H { s with heap := h' } := I.kept (t' := s.toks) kp
    have I2 : Inv X pins σ (upd H h'.objs.size (.tup ys)) { s with heap := h'.push { cls := .type "tuple", data := .seq its.toArray } } :=
      I1.laid (t' := s.toks) (fun b o e => Heap.get?_push_of_some _ e) (Nat.le_refl _) (show ObjOk X.prog X.w _ _ _ (.tup ys) from ⟨hz, its, r', IsTup.new _ _⟩)
    exact ⟨.ref h'.objs.size, _, I2, rfl, q _ (I1.hok.fresh (Nat.le_refl _))⟩
  · obtain ⟨its, r', pl, hz⟩ := I.tuple hq
    exact call_tuple_same pl ⟨.ref p, H, I, rfl, q⟩

/-! ### the call of a builtin's method: o.m(..) -/
/-- the value is of that builtin type -/
def tyV (K : PySem.W.Frag) (T : String) (x : V) (H : Hp) : Prop := match x with
  | .str _ => T = "str"
  | .int _ => T = "int"
  | .ref p => (T = "list" ∧ ∃ xs, SqL K H p xs) ∨ (T = "tuple" ∧ ∃ o, K.lookup p = some o ∧ o.cls = .type "tuple" ∧ o.dict = none) ∨
      (T = "dict" ∧ ((∃ kvs, H p = some (.dK kvs)) ∨ ∃ T kvs, Rd H p (.dT T kvs))) ∨ (T = "set" ∧ ∃ S n, H p = some (.set S n))
  | _ => False
theorem tyV_is {pins : List (Addr × Obj)} {σ : St} {H : Hp} {s : Shared} {T : String} {x : V} {v : Value} (I : Inv X pins σ H s) (r : RelV x v) (ty : tyV X.K T x H) :
    s.TypeIs v T ∧ ∀ a, v = .ref a → ∃ ob, s.heap.get? a = some ob ∧ ob.dict = none := by
  cases x with
  | str z =>
    obtain ⟨t, rfl⟩ := r
    cases (show T = "str" from ty)
    exact ⟨typeIs_str s z t, fun _ e => nomatch e⟩
  | int i =>
    obtain ⟨t, rfl⟩ := r
    cases (show T = "int" from ty)
    exact ⟨typeIs_int s i t, fun _ e => nomatch e⟩
  | ref p =>
    cases r
    rcases ty with ⟨rfl, xs, hq⟩ | ⟨rfl, o, hk, hc, hd⟩ | ⟨rfl, hk⟩ | ⟨rfl, S, n, hk⟩
    · obtain ⟨its, _, pl, _⟩ := I.list hq
      refine ⟨pl.isList.typeIs, fun a e => ?_⟩
      cases e
      obtain ⟨o, n, e, c, hd, _⟩ := pl
      exact ⟨o, e, hd⟩
    · refine ⟨⟨o, I.kIn p o hk, hc⟩, fun a e => ?_⟩
      cases e
      exact ⟨o, I.kIn _ o hk, hd⟩
    · have z : ∃ o, s.heap.get? p = some o ∧ o.ExactDict := by
        rcases hk with ⟨kvs, hk⟩ | ⟨_, kvs, hk⟩
        · obtain ⟨_, _, _, _, o, _, _, e, ex, _⟩ := I.hok p _ hk
          exact ⟨o, e, ex⟩
        · obtain ⟨_, _, _, _, o, _, _, e, ex, _⟩ := (show ObjOk X.prog X.w H s.heap p (.dT _ kvs) from hk.ok I.hok)
          exact ⟨o, e, ex⟩
      obtain ⟨o, e, ex⟩ := z
      refine ⟨⟨o, e, ex.1⟩, fun a e2 => ?_⟩
      cases e2
      exact ⟨o, e, ex.2.1⟩
    · obtain ⟨o, _, _, _, e, ex, _⟩ := I.hok p _ hk
      refine ⟨⟨o, e, ex.1⟩, fun a e2 => ?_⟩
      cases e2
      exact ⟨o, e, ex.2.1⟩
  | _ => exact False.elim ty
def tBM0 (K : PySem.W.Frag) (T : String) (r : V → List V → Hp → VK → Prop) (to : TE) : TE := fun σ H Q => to σ H fun x H1 => tyV K T x H1 ∧ r x [] H1 Q
def tBM (K : PySem.W.Frag) (T : String) (r : V → List V → Hp → VK → Prop) (to : TE) (t : TA) : TE := fun σ H Q => to σ H fun x H1 => tyV K T x H1 ∧ t σ H1 fun xs H2 => r x xs H2 Q
variable {o e : Expr} {es : List Expr} {to : TE} {t : TA} {name : Str} {apos cpos : Pos} {T id : String} {r : V → List V → Hp → VK → Prop}
theorem pe_bm0 (pa : PlainAttrs T) (slot : Slot T name id) (hty : typeOf (.builtin id) = pure (.type "method_descriptor")) (hm : MtR X id r) (ho : PE X o to)
    (hbase : attributeBase o name X.env (eval o X.env) = eval o X.env := by rfl) (hline : (apos.endLine == cpos.line) = true := by rfl) : PE X (.Call (.Attribute o name apos) [] [] cpos) (tBM0 X.K T r to) := by
  intro pins s σ H Q I h
  refine wpAny_Call_method0_late hbase hline (thn (ho pins s σ H _ I h) fun v s1 ⟨x, H1, I1, r1, ty, q1⟩ => ?_)
  obtain ⟨h1, h2⟩ := tyV_is I1 r1 ty
  exact ⟨T, id, pa, slot, hty, h1, h2, Calls.callWith_builtin rfl (PySem.evalArgs_none (hm pins s1 σ H1 x [] v [] Q I1 r1 .nil q1))⟩
theorem pe_bm (pa : PlainAttrs T) (slot : Slot T name id) (hty : typeOf (.builtin id) = pure (.type "method_descriptor")) (hm : MtR X id r) (ho : PE X o to) (ha : PA X (e :: es) t)
    (hbase : attributeBase o name X.env (eval o X.env) = eval o X.env := by rfl)
    (hfew : ((backTo cpos (starEach (e :: es) X.env)).all (fun x => !x.1) && (backToKw cpos (keywordEach [] X.env)).all (fun x => x.1.isSome)
      && decide ((e :: es).length + ([] : List Keyword).length + (if ([] : List Keyword).isEmpty then 0 else 1) < 30)) = true := by rfl)
    (hline : (apos.endLine == cpos.line) = true := by rfl) (hs : starEach (e :: es) X.env = (false, eval e X.env) :: starEach es X.env := by rfl) (hplain : (backTo cpos (starEach es X.env)).any (·.1) = false := by rfl) :
    PE X (.Call (.Attribute o name apos) (e :: es) [] cpos) (tBM X.K T r to t) := by
  intro pins s σ H Q I h
  refine wpAny_Call_method_late hbase hfew hline rfl (thn (ho pins s σ H _ I h) fun v s1 ⟨x, H1, I1, r1, ty, q1⟩ => ?_)
  obtain ⟨h1, h2⟩ := tyV_is I1 r1 ty
  refine ⟨T, id, pa, slot, hty, h1, h2, ?_⟩
  have hA := ha cpos pins s1 σ H1 _ I1 q1
  rw [hs] at hA ⊢
  refine Calls.callWith_builtin (by show (false || (backTo cpos (starEach es X.env)).any (·.1)) = false; rw [hplain] <;> rfl) (Calls.evalArgs_plain ?_)
  exact thn hA fun us s2 ⟨vs, H2, I2, r2, q2⟩ => hm pins s2 σ H2 x vs v us Q I2 r1 r2 q2

end
end L2

namespace L2
open PySem PySem.Spec PyProof.Rows

def MtM (X : Cx) (id : String) (r : V → List V → Hp → VK → Prop) : Prop :=
  ∀ (pins : List (Addr × Obj)) (s : Shared) (σ : St) (H : Hp) (x : V) (xs : List V) (v : Value) (us : List Value) (Q : VK), Inv X pins σ H s → RelV x v → Vals xs us → r x xs H Q →
    wpAny (model X.prog X.w) X.A (call (.builtin id) (v :: us)) (EP X pins σ Q) X.xe s

/-! ### lists of values -/
theorem Vals.one : ∀ {x : V} {us : List Value}, Vals [x] us → ∃ u, us = [u] ∧ RelV x u
  | _, _, .cons r .nil => ⟨_, rfl, r⟩
theorem Vals.two : ∀ {x y : V} {us : List Value}, Vals [x, y] us → ∃ u v, us = [u, v] ∧ RelV x u ∧ RelV y v
  | _, _, _, .cons r (.cons q .nil) => ⟨_, _, rfl, r, q⟩
theorem Vals.zero : ∀ {us : List Value}, Vals [] us → us = []
  | _, .nil => rfl
theorem Vals.dropLast {xs : List V} {us : List Value} (h : Vals xs us) : Vals xs.dropLast us.dropLast := by
  induction h with
  | nil => exact .nil
  | cons r t ih =>
    cases t with
    | nil => exact .nil
    | cons q t' => exact .cons r ih
theorem Vals.eraseIdx : ∀ {xs : List V} {us : List Value} (i : Nat), Vals xs us → Vals (xs.eraseIdx i) (us.eraseIdx i)
  | _, _, _, .nil => .nil
  | _, _, 0, .cons _ t => t
  | _, _, i + 1, .cons r t => .cons r (Vals.eraseIdx i t)
theorem Vals.reverse {xs : List V} {us : List Value} (h : Vals xs us) : Vals xs.reverse us.reverse := by
  induction h with
  | nil => exact .nil
  | cons r t ih => rw [List.reverse_cons, List.reverse_cons]; exact Vals.append ih (.cons r .nil)
section
variable {X : Cx} {pins : List (Addr × Obj)} {σ : St} {H : Hp} {s : Shared} {l b : Addr} {xs ys zs : List V}

/-! ### the two steps: a tracked list is rewritten, a new list is laid -/
theorem Inv.lset {its its' : List Value} {n : Nat} {f : Array Value → Array Value} {t' : Nat} (I : Inv X pins σ H s) (hH : H l = some (.lst xs))
    (e : s.heap.get? l = some { cls := .type "list", data := .seq its.toArray n }) (hf : f its.toArray = its'.toArray) (hv : Vals ys its') (hz : ys.length ≤ sizeLine) :
    Inv X pins σ (upd H l (.lst ys)) { s with heap := s.heap.update l (Obj.mapSeq f), toks := t' } := by
  have q := PySem.IsL.update e f
  rw [hf] at q
  refine I.write (x := l) (e := l) (by rw [hH]; exact trivial) (.inl rfl) (fun b' u hb hu => (Heap.get?_update_other s.heap (Obj.mapSeq f) (Ne.symm hb)).trans hu) ⟨_, q⟩ ?_
  exact ⟨hz, its', _, hv, q⟩
theorem Inv.fresh (I : Inv X pins σ H s) : H s.heap.objs.size = none := I.hok.fresh (Nat.le_refl _)
theorem Inv.lstM (I : Inv X pins σ H s) (hH : H l = some (.lst xs)) : xs.length ≤ sizeLine ∧ ∃ (its : List Value) (n : Nat), Vals xs its ∧ xs.length = its.length ∧ s.heap.get? l = some { cls := .type "list", data := .seq its.toArray n } := by
  obtain ⟨z, its, n, r, e⟩ := I.hok l _ hH
  exact ⟨z, its, n, r, r.length, e⟩

theorem notLongL {n : Nat} (h : n ≤ sizeLine) : Builtin.List.listTooLong n = false := by
  unfold Builtin.List.listTooLong
  exact decide_eq_false (by omega)
end

section
variable {X : Cx}

/-! ### methods -/
def rAppend : V → List V → Hp → VK → Prop := fun x vs H Q => ∃ l xs y, x = .ref l ∧ vs = [y] ∧ H l = some (.lst xs) ∧ xs.length < sizeLine ∧ Q .non (upd H l (.lst (xs ++ [y])))
theorem mt_append : MtM X "list.append" rAppend := by
  intro pins s σ H x vs v us Q I rx rv h
  obtain ⟨l, xs, y, rfl, rfl, hH, hz, q⟩ := h
  cases rx
  obtain ⟨u, rfl, ru⟩ := rv.one
  obtain ⟨z, its, n, r, hl, e⟩ := I.lstM hH
  refine call_meets F.slot_list_append ⟨_, e, rfl⟩ F.entry_list_append (F.args_list_append_2 _ _) (PySem.list_append l its.toArray n u (by rw [List.size_toArray]; omega)) ⟨e, ?_⟩
  refine ⟨.non, _, I.lset (its' := its ++ [u]) hH e (by simp) (r.append (.cons ru .nil)) ?_, rfl, q⟩
  rw [List.length_append, List.length_singleton]
  omega

def rExtend : V → List V → Hp → VK → Prop := fun x vs H Q => ∃ l b xs zs, x = .ref l ∧ vs = [.ref b] ∧ H l = some (.lst xs) ∧ H b = some (.lst zs) ∧ xs.length + zs.length ≤ sizeLine ∧ Q .non (upd H l (.lst (xs ++ zs)))
theorem mt_extend : MtM X "list.extend" rExtend := by
  intro pins s σ H x vs v us Q I rx rv h
  obtain ⟨l, b, xs, zs, rfl, rfl, hH, hB, hz, q⟩ := h
  cases rx
  obtain ⟨u, rfl, ru⟩ := rv.one
  cases ru
  obtain ⟨z, its, n, r, hl, e⟩ := I.lstM hH
  obtain ⟨z2, its2, n2, r2, hl2, e2⟩ := I.lstM hB
  have hsz : its.toArray.size + its2.toArray.size ≤ sizeLine := by rw [List.size_toArray, List.size_toArray]; omega
  have hlong : ¬ (!its.toArray.isEmpty && Builtin.List.listTooLong (its.toArray.size + its2.toArray.size)) = true := by
    rw [notLongL hsz, Bool.and_false]
    exact Bool.false_ne_true
  refine call_meets F.slot_list_extend ⟨_, e, rfl⟩ F.entry_list_extend (F.args_list_extend_2 _ _)
    (AutoSeq1.list_extend_list_list_0 l its.toArray n b its2.toArray n2 hlong (by rw [List.size_toArray]; omega) (by omega)) ⟨e, e2, ?_⟩
  refine ⟨.non, _, I.lset (its' := its ++ its2) hH e (by simp) (r.append r2) ?_, rfl, q⟩
  rw [List.length_append]
  omega

def rPop : V → List V → Hp → VK → Prop := fun x vs H Q => ∃ l xs y, x = .ref l ∧ vs = [] ∧ H l = some (.lst xs) ∧ xs[xs.length - 1]? = some y ∧ Q y (upd H l (.lst xs.dropLast))
def rPopAt : V → List V → Hp → VK → Prop := fun x vs H Q => ∃ l xs i k y, x = .ref l ∧ vs = [.int i] ∧ H l = some (.lst xs) ∧ -(2 ^ 63) ≤ i ∧ i < 2 ^ 63 ∧ seqIndex? i xs.length = some k ∧ xs[k]? = some y ∧ Q y (upd H l (.lst (xs.eraseIdx k)))
def rReverse : V → List V → Hp → VK → Prop := fun x vs H Q => ∃ l xs, x = .ref l ∧ vs = [] ∧ H l = some (.lst xs) ∧ Q .non (upd H l (.lst xs.reverse))
def rClear : V → List V → Hp → VK → Prop := fun x vs H Q => ∃ l xs, x = .ref l ∧ vs = [] ∧ H l = some (.lst xs) ∧ Q .non (upd H l (.lst []))
/-! ### list + list, list += list, list * int -/
def rCat : R2 := fun x y H Q => ∃ l b xs zs, x = .ref l ∧ y = .ref b ∧ H l = some (.lst xs) ∧ H b = some (.lst zs) ∧ xs.length + zs.length ≤ sizeLine ∧ ∀ p, H p = none → Q (.ref p) (upd H p (.lst (xs ++ zs)))
/-- a list times an int (a negative one is nothing) -/
def rRep : R2 := fun x y H Q => ∃ l k xs, x = .ref l ∧ y = .int k ∧ H l = some (.lst xs) ∧ -(2 ^ 63) ≤ k ∧ k < 2 ^ 63 ∧ xs.length * k.toNat ≤ sizeLine ∧
  ∀ p, H p = none → Q (.ref p) (upd H p (.lst (List.replicate k.toNat xs).flatten))
/-! ### del xs[i] -/
end

/-! ### xs[a:b] = ys -/
section
variable {prog : Program} {w : World} {A : Around} {E : Value → Shared → Prop} {s : Shared}
end

section
variable {X : Cx}
end
end L2

namespace Att
open PySem PySem.W PySem.Calls PyProof.Rows

/-! ### the script -/
theorem ints_of_wellAll {P : Params} {h : Heap} : ∀ (ns : List Int) (vs : List Value), WellAll P h vs (ns.map WData.int) → IntsAre vs ns := by
  intro ns
  induction ns with
  | nil =>
    intro vs w
    rw [List.map_nil] at w
    cases w
    exact .nil
  | cons n ns ih =>
    intro vs w
    rw [List.map_cons] at w
    cases w with
    | cons a b =>
      cases a
      exact .cons _ _ (ih _ b)

theorem script_of {l : OpenLaw} {n : Nat} (hn : l.most = some n) {P : Params} {h : Heap} {args : List WData} {vals : List Value}
    (hpre : l.row.toRowW.claim.pre args = true) (hwl : WellAll P h vals args) :
    ∃ a vs ns, vals = [Value.ref a] ∧ args = [WData.list (ns.map WData.int)] ∧ h.get? a = some { cls := .type "list", data := .seq vs.toArray } ∧ IntsAre vs ns ∧ ns.length ≤ n := by
  have hsh : WShape.hasAll [] args [.list .int] = true := (pre_splitW hpre).1
  have hc : l.pre.holds [] { args := args } = true := (pre_splitW hpre).2
  obtain ⟨d, r, rfl, h1, h2⟩ := hasAllW_cons hsh
  obtain rfl := hasAllW_nil h2
  obtain ⟨xs, rfl, h3⟩ := hasW_list h1
  obtain ⟨ns, rfl⟩ := items_int h3
  have hlen : ns.length ≤ n := by
    unfold OpenLaw.pre at hc
    have h4 : (WTm.not (.lt (.lit (.int (n : Int))) (.len (.arg 0)))).holds [] { args := [.list (ns.map .int)] } = true := by
      have h4 := (holds_andW hc).1
      rw [hn] at h4
      exact h4
    have h5 := condW_of h4 (w_not (w_lt w_lit (w_len_list (w_arg rfl))))
    rw [List.length_map] at h5
    refine Nat.le_of_not_lt fun q => ?_
    have q' : (n : Int) < ((ns.length : Nat) : Int) := by omega
    first
      | (rw [decide_eq_true q'] at h5; exact absurd h5 (by decide))
      | (simp at h5; omega)
  cases hwl with
  | cons w1 w2 =>
    cases w2
    cases w1 with
    | list ho hall => exact ⟨_, _, ns, rfl, rfl, ho, ints_of_wellAll ns _ hall, hlen⟩

theorem post_true (l : OpenLaw) (args : List WData) : l.row.toRowW.claim.post args (.bool true) args = true :=
  postW_of (r := l.row.toRowW) (X := (true == true))
    (show WShape.has [] (.bool true) .bool = true by first | rfl | decide | simp [WShape.has, WShape.arms, WShape.armsAll])
    (show (WTm.eq .res (.lit (.bool true))).value [] { args := args, res := some (.bool true), after := args } = some (.bool (true == true)) from w_eq_bool (w_res rfl) w_lit) rfl

/-! ### the attachment: holds_open's last premise (the goal 'hc' behind k_head) from a wpAny of the law's body -/
/-- the same from a codeAny of the CALL (for a layer whose function contracts speak of calls) -/
theorem attach_call {l : OpenLaw} {n : Nat} {q : Program} {loose : List Str} {XP : (Str → Option Value) → Heap → Prop} {YP : World → Heap → Prop} {d : DefRec}
    (hn : l.most = some n) (hdf : d.params.defaults = [])
    (call : ∀ (w : World) (s₀ s₁ : Shared) (mg mb : Str → Option Value) (fa : Addr) (o : Obj) (pm cd doc : Value) (a : Addr) (vs : List Value) (ns : List Int),
      Ground q loose [] XP w s₀ mg mb s₁.heap → YP w s₁.heap →
      s₁.heap.get? fa = some o → o.data = .func (docDef d.name d.params d.body d.scope pm cd doc) → s₁.heap.CodeRec cd d.name → mg d.name = some (.ref fa) →
      s₁.heap.get? a = some { cls := .type "list", data := .seq vs.toArray } → IntsAre vs ns → ns.length ≤ n → s₁.gens = #[] →
      codeAny (model l.prog w) callerA (.call (.ref fa) ⟨[.ref a], []⟩) (fun r s' => r = .ok (.ret (.bool true)) ∧ OldK s₁.heap s'.heap ∧ s'.os = s₁.os ∧ AllBare s'.gens) s₁) :
    WalkO q loose XP YP l.row.toRowW d [] (fun f vs => PySem.call f vs) := by
  intro w s₀ s₁ mg mb G Y fa o pm cd doc dV kV ho hd hcd hD hmg hg args vals as hpre hlay hrd hwl hlo
  obtain rfl : dV = .none := Dflts.none hD hdf
  obtain rfl : kV = .none := Dflts.noKw hD
  obtain ⟨a, vs, ns, rfl, rfl, hobj, hints, hlen⟩ := script_of hn hpre hwl
  refine enter_call (codeAny_mono (call w s₀ s₁ mg mb fa o pm cd doc a vs ns G Y ho (fd_plain hd) hcd hmg hobj hints hlen hg) fun r s' hq => ?_)
  obtain ⟨rfl, h2, h3, h4⟩ := hq
  exact ⟨.inl ⟨.bool true, .bool true, [], rfl, fun _ => rfl, .bool true, post_true l _, fun _ => ⟨List.Pairwise.nil, fun _ hm => (nomatch hm)⟩⟩, h2, h3, h4⟩

/-! ### rules over ANY heap (no ledger) from facts about the written part K: the library's own take a ledger (News) for what they write -/
section
variable {prog : Program} {w : World} {A : Around} {E : Value → Shared → Prop} {s : Shared} {K : Frag}

/-! the whole heap as the ledger: makes every rule that writes through a ledger a rule over any heap -/
def noObjs (h : Heap) : Heap := { h with objs := #[] }
def ledger (h : Heap) (L d : Addr) : List (Addr × Obj) := (List.range h.objs.size).filterMap fun a => if a = L ∨ a = d then none else (h.get? a).map fun o => (a, o)
end
end Att

namespace L2
open PySem PySem.Spec PyProof.Rows

theorem vals_ints : ∀ {vs : List Value} {ns : List Int}, IntsAre vs ns → Vals (ns.map V.int) vs
  | _, _, .nil => .nil
  | _, _, .cons n t h => .cons ⟨t, rfl⟩ (vals_ints h)

/-- nothing is tracked but the script, known to the object (or it is an object of the module) -/
def Only (H : Hp) : Prop := ∀ b, H b = none ∨ ∃ o xs, H b = some (.frz o (.lst xs))

/-- THE HEAD: the law's promise, at the heap behind the top. F, the promise of the law's def, may use that base is part of the heap (so K.In base, base.Ns mainGlobals mg stand in Mod) -/
theorem law_call {P : Program} {w : World} {K : PySem.W.Frag} {mg mb : Str → Option Value} {CX : CXT} {k : Nat} {fa a : Addr} {fd : FuncData} {x : Str} {sp : Sp} {s₁ : Shared} {vs : List Value} {ns : List Int}
    (KX : K.In s₁.heap) (hns : s₁.heap.Ns mainGlobals mg) (hb : s₁.heap.Ns builtinsNs mb) (hbb : ∀ x : Str, x ≠ "__name__" → mb x = bootBuiltins x) (hlim : s₁.heap.NoLimit) (hg : s₁.gens = #[])
    (ha : s₁.heap.get? a = some { cls := .type "list", data := .seq vs.toArray }) (hi : IntsAre vs ns) (hl : ns.length ≤ sizeLine) (hr : Room k callerA)
    (F : ∀ base : Heap, K.In base → base.Ns mainGlobals mg → FnOk P w K mg base CX k fa fd [x] sp) (hbind : ∀ (s : Shared) (u : Value), BindsTo s fd ⟨[u], []⟩ [(x, u)])
    (hsp : ∀ H : Hp, Only H → SqL K H a (ns.map V.int) → sp [.ref a] H (fun v _ => v = .bl true) fun _ _ _ => False)
    (hCX : ∀ H e s', CX [] H s₁ (fun _ _ _ => False) e s' → False) :
    codeAny (model P w) callerA (.call (.ref fa) ⟨[.ref a], []⟩) (fun r s' => r = .ok (.ret (.bool true)) ∧ OldK s₁.heap s'.heap ∧ s'.os = s₁.os ∧ AllBare s'.gens) s₁ := by
  have rv := vals_ints hi
  have lenV := hi.length
  -- from an abstract heap in which nothing but the script may be tracked
  have core : ∀ H : Hp, Only H → SqL K H a (ns.map V.int) → HOk P w H s₁.heap → (∀ b, H b ≠ none → b = a) → (H a ≠ none → K.lookup a = none) →
      codeAny (model P w) callerA (.call (.ref fa) ⟨[.ref a], []⟩) (fun r s' => r = .ok (.ret (.bool true)) ∧ OldK s₁.heap s'.heap ∧ s'.os = s₁.os ∧ AllBare s'.gens) s₁ := by
    intro H hO hS hok hA hK
    have base_of : ∀ {b : Addr} {o : Obj}, s₁.heap.get? b = some o → H b = none → (hidT s₁.heap H).get? b = some o := fun e n => hidT_get e n
    have noA : ∀ {b : Addr} {o : Obj} {es : Array DictEntry} {ep : Nat}, s₁.heap.get? b = some o → o.data = .dict es ep → H b = none := fun {b o es ep} e d => by
      cases q : H b with
      | none => rfl
      | some u =>
        have e' : b = a := hA b (by rw [q]; simp)
        subst e'
        rw [ha] at e; cases e
        have d' : Data.seq vs.toArray _ = Data.dict es ep := d
        cases d'
    have nsK : ∀ {b : Addr} {m : Str → Option Value}, s₁.heap.Ns b m → (hidT s₁.heap H).Ns b m := fun {b m} ⟨o, es, ep, e, d, r⟩ => ⟨o, es, ep, base_of e (noA e d), d, r⟩
    have hKb : K.In (hidT s₁.heap H) := fun b o e => base_of (KX b o e) (by
      cases q : H b with
      | none => rfl
      | some u =>
        have e' : b = a := hA b (by rw [q]; simp)
        subst e'
        rw [hK (by rw [q]; simp)] at e; cases e)
    have hM : Mod K mg (hidT s₁.heap H) := ⟨hKb, nsK hns, ⟨mb, nsK hb, hbb⟩, let ⟨mc, h1, h2⟩ := hlim; ⟨mc, nsK h1, h2⟩⟩
    have e0 : Env0 P w K mg (hidT s₁.heap H) callerA [] s₁ H := ⟨rfl, hM, fun b o e => of_hidT e, Nat.le_of_eq (hidT_size _ _), trivial, fun b hb => absurd (show b ∈ ([] : List Addr) from hb) (by simp), hok, .of_eq hg⟩
    refine codeAny_mono ((F _ hKb (nsK hns)).run callerA [] s₁ H ⟨[.ref a], []⟩ [.ref a] [.ref a] _ _ hr e0 (hbind s₁ (.ref a)) (.cons rfl .nil) (hsp H hO hS)) fun r s' h => ?_
    cases r with
    | error e => exact (hCX H e s' h).elim
    | ok fl =>
      cases fl with
      | next => exact False.elim h
      | brk => exact False.elim h
      | cont => exact False.elim h
      | ret u =>
        obtain ⟨v, H', os, bare, un, hok', r', q⟩ := h
        have q' : v = .bl true := q
        subst q'
        obtain rfl : u = Value.bool true := r'
        refine ⟨rfl, OldK.of_keep fun b o e => ?_, os, bare⟩
        cases q : H b with
        | none => exact un.keep b o e q (by intro z; exact absurd (show b ∈ ([] : List Addr) from z) (by simp)) (by simp)
        | some u =>
          rcases hO b with z | ⟨ob, xs, z⟩
          · rw [q] at z; cases z
          · have z2 := un.frzs b ob _ z
            obtain ⟨e1, _⟩ := hok b _ z
            obtain ⟨e2, _⟩ := hok' b _ z2
            rw [e] at e1; cases e1
            exact e2
  cases hk : K.lookup a with
  | some o =>
    -- the script is one of the module's own objects
    have e := KX a o hk
    rw [ha] at e
    cases e
    refine core (fun _ => none) (fun _ => .inl rfl) (.inr ⟨_, vs.toArray, _, hk, rfl, rfl, rfl, by rw [List.size_toArray, lenV]; exact hl, by simpa using rv⟩) (fun b u z => by have z' : (none : Option HO) = some u := z; cases z') (fun b z => absurd rfl z) fun z => absurd rfl z
  | none =>
    refine core (fun b => if b = a then some (.frz { cls := .type "list", data := .seq vs.toArray } (.lst (ns.map V.int))) else none) (fun b => ?_) (.inl (.inr ⟨{ cls := .type "list", data := .seq vs.toArray }, if_pos rfl⟩)) (fun b u z => ?_) (fun b z => ?_) fun _ => hk
    · by_cases hb : b = a
      · exact .inr ⟨_, _, if_pos hb⟩
      · exact .inl (if_neg hb)
    · by_cases hb : b = a
      · have z' := (if_pos hb).symm.trans z
        cases z'
        subst hb
        exact ⟨ha, by rw [List.length_map]; exact hl, vs, _, rv, ha⟩
      · have z' := (if_neg hb).symm.trans z
        cases z'
    · by_cases hb : b = a
      · exact hb
      · exact absurd (if_neg hb) z
end L2

namespace L2
open PySem PySem.Spec PyProof.Rows

abbrev KOf {K : PySem.W.Frag} {h : Heap} (_ : K.In h) : PySem.W.Frag := K

/-- the goal that k_head leaves (case hc), from the law's promise. F gives the function object fd (K's own) once, then the promise over every base -/
theorem walk_of {l : PySem.W.OpenLaw} {n k : Nat} {q : Program} {loose : List Str} {XP : (Str → Option Value) → Heap → Prop} {YP : World → Heap → Prop} {d : DefRec} {K : Params → PySem.W.Frag} {CX : World → CXT} {sp : World → Sp} {x : Str}
    (hn : l.most = some n) (hn2 : n ≤ sizeLine) (hdf : d.params.defaults = []) (hr : Room k callerA)
    (hY : ∀ (w : World) (h : Heap), YP w h → (K w.params).In h)
    (F : ∀ (w : World) (mg : Str → Option Value) (fa : Addr) (h : Heap), (K w.params).In h → h.Ns mainGlobals mg → mg d.name = some (.ref fa) →
      ∃ fd : FuncData, (∀ (s : Shared) (u : Value), BindsTo s fd ⟨[u], []⟩ [(x, u)]) ∧
        ∀ base : Heap, (K w.params).In base → base.Ns mainGlobals mg → FnOk l.prog w (K w.params) mg base (CX w) k fa fd [x] (sp w))
    (hsp : ∀ (w : World) (H : Hp) (a : Addr) (ns : List Int), ns.length ≤ n → Only H → SqL (K w.params) H a (ns.map V.int) → sp w [.ref a] H (fun v _ => v = .bl true) fun _ _ _ => False)
    (hCX : ∀ (w : World) (H : Hp) (s : Shared) (e : Value) (s' : Shared), CX w [] H s (fun _ _ _ => False) e s' → False) :
    PySem.W.WalkO q loose XP YP l.row.toRowW d [] (fun f vs => PySem.call f vs) := by
  refine Att.attach_call hn hdf fun w s₀ s₁ mg mb fa o pm cd doc a vs ns G Y ho hd hcd hmg hobj hints hlen hg => ?_
  have KX := hY w _ Y
  obtain ⟨fd, hb, hF⟩ := F w mg fa _ KX G.T.g hmg
  exact law_call KX G.T.g G.T.b G.T.builtins G.T.nolimit hg hobj hints (Nat.le_trans hlen hn2) hr hF hb (fun H hO hS => hsp w H a ns hlen hO hS) fun H e s' => hCX w H s₁ e s'
end L2



/-! SHORT WORDS over the layer: a def of the text, its body, what a loop and a test want. -/
namespace L2
open PySem PySem.Spec PyProof.Rows

/-! ### the text by places -/
/-- the j-th statement of a class's body -/
def inClass (s : Stmt) (j : Nat) : Stmt := match s with
  | .ClassDef _ _ _ body _ _ _ _ _ _ _ => body.getD j (.Pass ⟨0, 0, 0, 0⟩)
  | _ => .Pass ⟨0, 0, 0, 0⟩
def defArgs (s : Stmt) : Arguments := match s with
  | .FunctionDef _ a _ _ _ _ _ _ _ _ => a
  | _ => { posonlyargs := [], args := [], vararg := none, kwonlyargs := [], kw_defaults := [], kwarg := none, defaults := [] }
def defBody (s : Stmt) : List Stmt := match s with
  | .FunctionDef _ _ b _ _ _ _ _ _ _ => b
  | _ => []
def defScope (s : Stmt) : Scope := match s with
  | .FunctionDef _ _ _ _ _ _ sc _ _ _ => sc
  | _ => { kind := .function, names := [], isGenerator := false, isCoroutine := false }

/-! ### no exception leaves a def -/
abbrev CX0 : CXT := fun _ _ _ _ _ _ => False
abbrev E0 : XK := fun _ _ _ => False
/-! ### a def (or method) of the text as it stands behind the top -/
structure Fun (K : PySem.W.Frag) (x qual : Str) (st : Stmt) (f : Addr) (fd : FuncData) : Prop where
  ex : ∃ (oc : Value) (od : Option Addr) (kV doc pm : Value) (an : Option Addr) (cdv ct : Value) (osl : Array (Option Value)),
    fd = PySem.W.fnOf x qual (defArgs st) (defBody st) (defScope st) .none kV doc pm an cdv ct ∧ K.lookup f = some ⟨oc, od, .func fd, osl⟩ ∧ PySem.W.codeIn K cdv qual = true
  kp : PySem.W.keepIn K (.ref f) = true
section
variable {P : Program} {w : World} {K : PySem.W.Frag} {mg : Str → Option Value} {base : Heap}
/-- THE RULE for a def: its body as a term of rules, and the reading of that term -/
theorem Fun.ok {x qual : Str} {st : Stmt} {f : Addr} {fd : FuncData} {N ps : List Str} {k : Nat} {sp : Sp} (F : Fun K x qual st f fd) (S : FnScope N ps (defScope st)) (len : ∀ vs H Q E, sp vs H Q E → vs.length = ps.length)
    (hbody : ∀ (cdv : Value) (A : Around) (outer : List Env) (s : Shared) (H : Hp) (vs : List V) (Q : VK) (E : XK), Room k (A.deeper (envOfC qual (defScope st) s.heap.objs.size f cdv)) → sp vs H Q E →
      ∃ t, PSs (cxOf CX0 P w K mg base N qual (defScope st) f cdv A outer s H E).nox (defBody st) t ∧ t { nx := fun _ H' => Q .non H', rt := Q } (start N vs) H) : FnOk P w K mg base CX0 (k + 1) f fd ps sp := by
  obtain ⟨oc, od, kV, doc, pm, an, cdv, ct, osl, rfl, lk, hcd⟩ := F.ex
  refine fn_of lk hcd S len fun A outer s H vs Q E hr hsp => ?_
  obtain ⟨t, h, q⟩ := hbody cdv A outer s H vs Q E hr hsp
  exact ⟨t, h.nox, q⟩
/-- how its arguments bind (no defaults): h is «fun _ _ _ _ _ _ us hl => match us, hl with | [_, _], _ => rfl», one _ a parameter -/
theorem Fun.binds {x qual : Str} {st : Stmt} {f : Addr} {fd : FuncData} {ps : List Str} (F : Fun K x qual st f fd)
    (h : ∀ (kV doc pm : Value) (an : Option Addr) (cdv ct : Value) (us : List Value), us.length = ps.length → bindArgs (PySem.W.fnOf x qual (defArgs st) (defBody st) (defScope st) .none kV doc pm an cdv ct) ⟨us, []⟩ = pure (ps.zip us)) : Binds K fd ps [] := by
  obtain ⟨oc, od, kV, doc, pm, an, cdv, ct, osl, rfl, lk, hcd⟩ := F.ex
  exact .all (h kV doc pm an cdv ct)
theorem fun_mk {x qual : Str} {st : Stmt} {f : Addr} {oc : Value} {od an : Option Addr} {osl : Array (Option Value)} {kV doc pm cdv ct : Value} (l : K.lookup f = some ⟨oc, od, .func (PySem.W.fnOf x qual (defArgs st) (defBody st) (defScope st) .none kV doc pm an cdv ct), osl⟩)
    (c : PySem.W.codeIn K cdv qual = true) (k : PySem.W.keepIn K (.ref f) = true) : Fun K x qual st f (PySem.W.fnOf x qual (defArgs st) (defBody st) (defScope st) .none kV doc pm an cdv ct) := ⟨⟨oc, od, kV, doc, pm, an, cdv, ct, osl, rfl, l, c⟩, k⟩
end
/-! ### expressions in short: the name that stands in the i-th slot -/
section
variable {X : Cx}
theorem pv (i : Nat) {x : Str} {pos : Pos} (hN : X.N[i]? = some x := by rfl) (hv : Vis X.env.scope x := by first | exact Or.inl rfl | exact Or.inr (Or.inl rfl) | exact Or.inr (Or.inr rfl)) (hd : (x == ("__debug__" : Str)) = false := by decide)
    (hcd : (x == ("__classdict__" : Str)) = false := by decide) : PE X (.Name x pos) (tVar i) := pe_var hN hv hd hcd
end

/-! ### tests -/
/-! ### heaps -/
/-- all that was tracked is as it was -/
def Same (H H' : Hp) : Prop := ∀ b o, H b = some o → H' b = some o
theorem Same.refl (H : Hp) : Same H H := fun _ _ h => h
theorem Same.trans {H H1 H2 : Hp} (a : Same H H1) (b : Same H1 H2) : Same H H2 := fun c o h => b c o (a c o h)
theorem Same.free {H H' : Hp} (e : Same H H') {l : Addr} (h : H' l = Option.none) : H l = Option.none := by
  cases q : H l with
  | none => rfl
  | some o =>
    rw [e l o q] at h
    cases h
theorem Same.seq {K : PySem.W.Frag} {H H' : Hp} {a : Addr} {xs : List V} (e : Same H H') (h : SqL K H a xs) : SqL K H' a xs := by
  rcases h with (h | ⟨o, h⟩) | h
  · exact .inl (.inl (e _ _ h))
  · exact .inl (.inr ⟨o, e _ _ h⟩)
  · exact .inr h

end L2

set_option Elab.async false
set_option linter.all false
set_option maxRecDepth 100000
set_option maxHeartbeats 4000000
namespace Hd
open PySem PySem.Spec PyProof.Rows L2
abbrev St := L2.St

/-! ### numbers of any size -/
theorem log_lt {n k : Nat} (h : n < 2 ^ k) (hk : 0 < k) : n.log2 < k := by
  by_cases z : n = 0
  · rw [z]
    exact hk
  · exact (Nat.log2_lt z).mpr h
theorem bits_le {i : Int} (h : i.natAbs < 2 ^ 4000) : Builtin.Int.intBits i ≤ 4000 := by
  unfold Builtin.Int.intBits
  split
  · exact Nat.zero_le _
  · exact log_lt h (by decide)
def CDivB (_ j : Int) : Prop := j ≠ 0 ∧ j.natAbs < 2 ^ 4000
def CMulB (i j : Int) : Prop := i.natAbs < 2 ^ 4000 ∧ j.natAbs < 2 ^ 4000
theorem CMulB.ok {i j : Int} (h : CMulB i j) : IntMulOk i j := by
  have h1 := bits_le h.1
  have h2 := bits_le h.2
  have hb : bitsLine = 134217728 := rfl
  have z : Builtin.Int.intTooBig (Builtin.Int.intBits i + Builtin.Int.intBits j) = false := by
    unfold Builtin.Int.intTooBig
    refine decide_eq_false ?_
    omega
  unfold IntMulOk
  rw [z]
  simp
section
variable {X : Cx}
theorem op_fdivB : OpR X (binaryOp .FloorDiv) (rI CDivB fun i j => .int (i.fdiv j)) :=
  opI fun _ _ _ _ _ _ _ hc q => floordiv_int hc.1 q (.inl (PyProof.noPylong_of_log2 (Nat.lt_of_lt_of_le (log_lt hc.2 (by decide)) (by decide))))
theorem op_mulB : OpR X (binaryOp .Mult) (rI CMulB fun i j => .int (i * j)) := opI fun _ _ _ _ _ _ _ hc q => mul_int q hc.ok
end

/-! ### data: values with all that is within them -/
mutual
inductive DV (K : PySem.W.Frag) (H : Hp) : V → PyData → Prop where
  | non : DV K H .non .none
  | bl (b : Bool) : DV K H (.bl b) (.bool b)
  | int (i : Int) : DV K H (.int i) (.int i)
  | str (x : Str) : DV K H (.str x) (.str x)
  | tup {a : Addr} {xs : List V} {ds : List PyData} : SqT K H a xs → DVs K H xs ds → DV K H (.ref a) (.tuple ds)
  | lst {a : Addr} {xs : List V} {ds : List PyData} : SqL K H a xs → DVs K H xs ds → DV K H (.ref a) (.list ds)
inductive DVs (K : PySem.W.Frag) (H : Hp) : List V → List PyData → Prop where
  | nil : DVs K H [] []
  | cons {v : V} {vs : List V} {d : PyData} {ds : List PyData} : DV K H v d → DVs K H vs ds → DVs K H (v :: vs) (d :: ds)
end
section
variable {X : Cx} {pins : List (Addr × Obj)} {σ : St} {H : Hp} {s : Shared}
mutual
theorem DV.reads (I : Inv X pins σ H s) : ∀ {v : V} {d : PyData} {u : Value}, DV X.K H v d → RelV v u → ∃ as, Reads s.heap u d as
  | _, _, u, .non, r => by cases (show u = Value.none from r); exact ⟨_, .none⟩
  | _, _, u, .bl b, r => by cases (show u = Value.bool b from r); exact ⟨_, .bool b⟩
  | _, _, u, .int i, r => by obtain ⟨t, e⟩ := (show ∃ t, u = Value.int i t from r); subst e; exact ⟨_, .int i t⟩
  | _, _, u, .str x, r => by obtain ⟨t, e⟩ := (show ∃ t, u = Value.str x t from r); subst e; exact ⟨_, .str x t⟩
  | _, _, u, .tup (a := a) h hs, r => by
    cases (show u = Value.ref a from r)
    obtain ⟨its, rv, ⟨o, ho, hc, n, hd⟩, _⟩ := I.tuple h
    obtain ⟨as, ra⟩ := DVs.reads I hs rv
    exact ⟨as, .tuple ho hc hd (by simpa using ra)⟩
  | _, _, u, .lst (a := a) h hs, r => by
    cases (show u = Value.ref a from r)
    obtain ⟨its, rv, ⟨o, n, ho, hc, _, hd⟩, _⟩ := I.list h
    obtain ⟨as, ra⟩ := DVs.reads I hs rv
    exact ⟨a :: as, .list ho hc hd (by simpa using ra)⟩
theorem DVs.reads (I : Inv X pins σ H s) : ∀ {vs : List V} {ds : List PyData} {us : List Value}, DVs X.K H vs ds → Vals vs us → ∃ as, ReadsAll s.heap us ds as
  | _, _, _, .nil, .nil => ⟨[], .nil⟩
  | _, _, _, .cons h hs, .cons r rs => by
    obtain ⟨as, ra⟩ := DV.reads I h r
    obtain ⟨bs, rb⟩ := DVs.reads I hs rs
    exact ⟨as ++ bs, .cons ra rb⟩
end
end
section
variable {X : Cx}
/-- == and != of data -/
def rEqD (K : PySem.W.Frag) : R2 := fun x y H Q => ∃ d e, DV K H x d ∧ DV K H y e ∧ SeqAt.shaped d = true ∧ SeqAt.shaped e = true ∧ Q (.bl (PyData.eqv d e)) H
def rNeD (K : PySem.W.Frag) : R2 := fun x y H Q => ∃ d e, DV K H x d ∧ DV K H y e ∧ SeqAt.shaped d = true ∧ SeqAt.shaped e = true ∧ Q (.bl (!PyData.eqv d e)) H
theorem op_eqD (hu : X.A.units + 64 < cLine) : OpR X (compareOp .Eq) (rEqD X.K) := by
  intro pins s σ H x y v u Q I rx ry h
  obtain ⟨d, e, hd, he, sd, se, q⟩ := h
  obtain ⟨as, ra⟩ := hd.reads I rx
  obtain ⟨bs, rb⟩ := he.reads I ry
  exact eq_dataH ra rb sd se hu (fin_bl I q rfl)
theorem op_neD (hu : X.A.units + 64 < cLine) : OpR X (compareOp .NotEq) (rNeD X.K) := by
  intro pins s σ H x y v u Q I rx ry h
  obtain ⟨d, e, hd, he, sd, se, q⟩ := h
  obtain ⟨as, ra⟩ := hd.reads I rx
  obtain ⟨bs, rb⟩ := he.reads I ry
  exact ne_dataH ra rb sd se hu (fin_bl I q rfl)
end

/-! ### isinstance -/
section
variable {X : Cx}
def clsV : V → Option Value
  | .ty n => some (.type n)
  | .ref a => some (.ref a)
  | _ => none
theorem clsV_rel {c : V} {cv u : Value} (e : clsV c = some cv) (r : RelV c u) : u = cv := by
  cases c with
  | ty n => cases e; exact r
  | ref a => cases e; exact r
  | _ => cases e
def rIsi (K : PySem.W.Frag) : List V → Hp → VK → Prop := fun xs H Q => ∃ x c t cv b, xs = [x, c] ∧ clsV c = some cv ∧ TyOf K H x t ∧ PySem.W.kitOne K t cv = some b ∧ Q (.bl b) H
end

/-! ### an if whose ways meet: what holds behind it is said once -/
section
variable {X : Cx} {t u : TS} {pos : Pos}
def tIfJ (c : TT) (t u : TS) : TS := fun D σ H => ∃ R : St → Hp → Prop, tIfS c t u { D with nx := R } σ H ∧ ∀ σ' H', R σ' H' → D.nx σ' H'
end
end Hd

set_option Elab.async false
set_option linter.all false
set_option maxRecDepth 100000
set_option maxHeartbeats 4000000
namespace Hd
open PySem PySem.Spec PyProof.Rows L2

/-! ### exceptions of own classes, raised, passed on, caught -/
/-- an exception on its way: outer, the frames that it has still to pass; H, s: ahead of the call. B: what is kept of the heap (all but frames, the exception, its records), H' what is known of B -/
structure Fly (P : Program) (w : World) (outer : List Env) (H : Hp) (s : Shared) (e : Value) (s' : Shared) (ea t : Addr) (cls : Value) (B : Heap) (H' : Hp) : Prop where
  is : e = .ref ea
  os : s'.os = s.os
  bare : AllBare s'.gens
  fly : Heap.FlyingW B outer ea cls (.ref t) s'.heap
  keep : ∀ b o, s.heap.get? b = some o → H b = none → b ∉ frs outer → B.get? b = some o
  slot : ∀ b o, s.heap.get? b = some o → b ∈ frs outer → ∃ sl, s'.heap.get? b = some { o with slots := sl }
  free : ∀ b o, s.heap.get? b = some o → H b = none → H' b = none
  there : ∀ b o, s.heap.get? b = some o → b ∉ frs outer → ∃ o', B.get? b = some o'
  tups : ∀ b xs, H b = some (.tup xs) → H' b = some (.tup xs)
  frzs : ∀ b o u, H b = some (.frz o u) → H' b = some (.frz o u)
  tbls : ∀ b ps, H b = some (.tbl ps) → ∃ more, H' b = some (.tbl (ps ++ more))
  hok : HOk P w H' B
  new : s.heap.get? ea = none
  nin : H' ea = none
def CX1 (P : Program) (w : World) : CXT := fun outer H s E e s' => ∃ ea t cls B H', Fly P w outer H s e s' ea t cls B H' ∧ E cls none H'

theorem frs_cons {env : Env} {l : List Env} {L b : Addr} (hf : env.frame = some L) (h : b ∈ frs (env :: l)) : b = L ∨ b ∈ frs l := by
  unfold frs at h
  rw [List.filterMap_cons, hf] at h
  rcases List.mem_cons.mp h with z | z
  · exact .inl z
  · exact .inr z
theorem frs_tail {env : Env} {l : List Env} {b : Addr} (h : b ∈ frs l) : b ∈ frs (env :: l) := by
  unfold frs at h ⊢
  obtain ⟨e, he, hf⟩ := List.mem_filterMap.mp h
  exact List.mem_filterMap.mpr ⟨e, List.mem_cons_of_mem _ he, hf⟩

section
variable {P : Program} {w : World} {K : PySem.W.Frag} {mg : Str → Option Value} {base : Heap} {N : List Str} {qual : Str} {scope : Scope} {f : Addr} {cd : Value} {A : Around} {outer : List Env} {s : Shared} {H : Hp} {E : XK}

/-- it comes out of a callee and leaves this body too -/
theorem cx_pass : Passes (CX1 P w) (cxOf (CX1 P w) P w K mg base N qual scope f cd A outer s H E) E := by
  intro pins σ H1 s1 e s' I h
  obtain ⟨ea, t, cls, B, H', F, hw⟩ := h
  obtain rfl := F.is
  have nfr : ∀ b o, s.heap.get? b = some o → b ∉ frs outer → b ∉ frs (cxOf (CX1 P w) P w K mg base N qual scope f cd A outer s H E).stack := fun b o q nb hb => by
    rcases frs_cons (L := s.heap.objs.size) rfl hb with z | z
    · exact absurd (Heap.lt_size q) (by rw [z]; exact Nat.lt_irrefl _)
    · exact nb z
  have nx : ∀ b : Addr, b ∉ (cxOf (CX1 P w) P w K mg base N qual scope f cd A outer s H E).ex := fun b z => absurd (show b ∈ ([] : List Addr) from z) (by simp)
  refine wpAny_leaves_onW (base := B) (outer := outer) (L := s.heap.objs.size) I.ok.frames rfl F.fly fun h2 x1 x2 => ?_
  refine ⟨ea, t, cls, B, H', ⟨rfl, F.os.trans I.os, F.bare, x1, fun b o q n nb => ?_, fun b o q hb => ?_, fun b o q n => ?_, fun b o q nb => ?_, fun b xs q => F.tups b xs (I.base.tups b xs q), fun b o u q => F.frzs b o u (I.base.frzs b o u q), fun b ps q => ?_, F.hok, ?_, F.nin⟩, hw⟩
  · exact F.keep b o (I.base.keep b o q n nb (nx b)) (I.base.free b o q n (nx b)) (nfr b o q nb)
  · obtain ⟨sl, e1⟩ := I.base.slot b o q (I.ok.frf b hb) hb (nx b)
    obtain ⟨_, o', ho', hnf⟩ := I.ok.funs.mem hb
    have eo : o = o' := Option.some.inj (q.symm.trans ho')
    obtain ⟨sl1, e2⟩ := F.slot b _ e1 (frs_tail hb)
    obtain ⟨sl2, e3⟩ := x2 b _ e2 (fun v z => hnf v (by rw [← eo]; exact z))
    exact ⟨sl2, e3⟩
  · obtain ⟨o', e1⟩ := I.base.there b o q (nx b)
    exact F.free b o' e1 (I.base.free b o q n (nx b))
  · obtain ⟨o', e1⟩ := I.base.there b o q (nx b)
    exact F.there b o' e1 (nfr b o q nb)
  · obtain ⟨m1, e1⟩ := I.base.tbls b ps q
    obtain ⟨m2, e2⟩ := F.tbls b _ e1
    exact ⟨m1 ++ m2, by rw [e2, Array.append_assoc]⟩
  · cases q : s.heap.get? ea with
    | none => rfl
    | some o =>
      obtain ⟨o', e1⟩ := I.base.there ea o q (nx ea)
      rw [F.new] at e1; cases e1
end
/-- where no exception may come nothing passes -/
theorem pass1 {P : Program} {w : World} {X : Cx} : Passes (CX1 P w) X E0 := fun _ _ _ _ _ _ _ ⟨_, _, _, _, _, _, z⟩ => z.elim

/-- what stands at the address of a caught exception of the class C -/
def ExcIs (ea : Addr) (cls : Value) (h : Heap) : Prop := ∃ o, h.get? ea = some o ∧ o.cls = cls ∧ ∃ vs, o.data = .fields vs
section
variable {X : Cx} {pins : List (Addr × Obj)} {σ : St} {H H' : Hp} {s s' : Shared} {e : Value} {ea t : Addr} {cls : Value} {B : Heap}
end
end Hd

set_option Elab.async false
set_option linter.all false
set_option maxRecDepth 100000
set_option maxHeartbeats 4000000
namespace Hd
open PySem PySem.Spec PyProof.Rows L2

section
variable {X : Cx} {pins : List (Addr × Obj)} {σ : St} {H H' : Hp} {s s' : Shared} {e : Value} {ea t : Addr} {cls : Value} {B : Heap}
/-- within an except suite -/
def inh (X : Cx) (ea : Addr) : Cx := { X with A := X.A.mark (some (.ref ea)), calm := false, xe := fun _ _ => False }
end

/-! ### what may raise, in a try's body -/
def PEx (X : Cx) (e : Expr) (t : St → Hp → VK → XK → Prop) : Prop :=
  ∀ (pins : List (Addr × Obj)) (s : Shared) (σ : St) (H : Hp) (Q : VK) (E : XK), Inv X pins σ H s → t σ H Q E →
    wpAny (model X.prog X.w) X.A (eval e X.env) (EP X pins σ Q) (fun x s' => ∃ H1 s1, Inv X pins σ H1 s1 ∧ CX1 X.prog X.w X.stack H1 s1 E x s') s
def PSx (X : Cx) (sts : List Stmt) (t : Ends → (St → XK) → St → Hp → Prop) : Prop :=
  ∀ (pins : List (Addr × Obj)) (s : Shared) (σ : St) (H : Hp) (D : Ends) (E : St → XK), Inv X pins σ H s → t D E σ H →
    wpAny (model X.prog X.w) X.A (execs sts X.env) (SP X pins D) (fun x s' => ∃ σ1 H1 s1, Inv X pins σ1 H1 s1 ∧ CX1 X.prog X.w X.stack H1 s1 (E σ1) x s') s
section
variable {X : Cx} {k : Nat} {f : Addr} {fd : FuncData} {ps : List Str} {sp : Sp} {x : Str} {p pos pos' : Pos} {e : Expr} {es : List Expr} {t : TA}
end

/-- what is wanted behind the suite: its name is gone -/
def sEnds (i : Nat) (D : Ends) : Ends := { nx := fun σ H => D.nx (σ.set i none) H, rt := D.rt, bk := fun σ H => D.bk (σ.set i none) H, ct := fun σ H => D.ct (σ.set i none) H }
def tTry (K : PySem.W.Frag) (DC : Addr) (i : Nat) (tb : Ends → (St → XK) → St → Hp → Prop) (ts : TS) : TS := fun D σ H =>
  tb D (fun σ1 cls _ H' => PySem.W.exmOne K cls (.ref DC) = some true ∧ ∀ ea, H' ea = none → ts (sEnds i D) (σ1.set i (some (.ref ea))) (upd H' ea (.ext (ExcIs ea cls)))) σ H
end Hd

set_option Elab.async false
set_option linter.all false
set_option maxRecDepth 100000
set_option maxHeartbeats 4000000
namespace Hd
open PySem PySem.Spec PyProof.Rows L2

/-! ### raise -/
section
variable {X : Cx} {x : Str} {e₀ : Expr} {np cpos pos : Pos} {te : TE} {C : Addr} {bmB : List Value} {B newId initId : String}
end

/-! ### defs of the text, in one word -/
structure Fn (P : Program) (w : World) (K : PySem.W.Frag) (mg : Str → Option Value) (base : Heap) (k : Nat) (x : Str) (ps : List Str) (sp : Sp) : Prop where
  ex : ∃ f fd, FnOk P w K mg base (CX1 P w) k f fd ps sp ∧ Binds K fd ps [] ∧ PySem.W.keepIn K (.ref f) = true ∧ mg x = some (.ref f)
section
variable {X : Cx} {j k : Nat} {x : Str} {ps : List Str} {sp : Sp} {p pos : Pos} {e : Expr} {es : List Expr} {t : TA}
end
section
variable {P : Program} {w : World} {K : PySem.W.Frag} {mg : Str → Option Value} {base : Heap}
theorem fun_okx {x qual : Str} {st : Stmt} {f : Addr} {fd : FuncData} {N ps : List Str} {k : Nat} {sp : Sp} (F : Fun K x qual st f fd) (S : FnScope N ps (defScope st)) (len : ∀ vs H Q E, sp vs H Q E → vs.length = ps.length)
    (hbody : ∀ (cdv : Value) (A : Around) (outer : List Env) (s : Shared) (H : Hp) (vs : List V) (Q : VK) (E : XK), Room k (A.deeper (envOfC qual (defScope st) s.heap.objs.size f cdv)) → sp vs H Q E →
      ∃ t, PSs (cxOf (CX1 P w) P w K mg base N qual (defScope st) f cdv A outer s H E) (defBody st) t ∧ t { nx := fun _ H' => Q .non H', rt := Q } (start N vs) H) : FnOk P w K mg base (CX1 P w) (k + 1) f fd ps sp := by
  obtain ⟨oc, od, kV, doc, pm, an, cdv, ct, osl, rfl, lk, hcd⟩ := F.ex
  refine fn_of lk hcd S len fun A outer s H vs Q E hr hsp => ?_
  obtain ⟨t, h, q⟩ := hbody cdv A outer s H vs Q E hr hsp
  exact ⟨t, h, q⟩
end
/-- a def of the text with what its call wants -/
structure Df (K : PySem.W.Frag) (mg : Str → Option Value) (x : Str) (st : Stmt) (ps : List Str) : Prop where
  ex : ∃ f fd, Fun K x x st f fd ∧ Binds K fd ps [] ∧ mg x = some (.ref f)
theorem Df.fn {P : Program} {w : World} {K : PySem.W.Frag} {mg : Str → Option Value} {base : Heap} {x : Str} {st : Stmt} {ps : List Str} {k : Nat} {sp : Sp} (D : Df K mg x st ps)
    (h : ∀ f fd, Fun K x x st f fd → FnOk P w K mg base (CX1 P w) k f fd ps sp) : Fn P w K mg base k x ps sp := by
  obtain ⟨f, fd, F, b, m⟩ := D.ex
  exact ⟨f, fd, h f fd F, b, F.kp, m⟩
end Hd

set_option Elab.async false
set_option linter.all false
set_option maxRecDepth 100000
set_option maxHeartbeats 4000000
namespace Hd
open PySem PySem.Spec PyProof.Rows L2

/-! ### isinstance of a caught exception -/
structure XC (K : PySem.W.Frag) (C : Addr) : Prop where
  ga : PySem.W.findIn K (.ref C) "__getattribute__" = some (some (.builtin "BaseException.__getattribute__"))
  no : PySem.W.findIn K (.ref C) "__getattr__" = some none
  cl : PySem.W.findIn K (.ref C) "__class__" = some (some (.builtin "object.__class__"))
  bs : PySem.W.subIn K (.ref C) (.type "BaseException") = some true
  ob : PySem.W.subIn K (.ref C) (.type "object") = some true
  is : (PySem.W.clsIn K C).isSome = true
section
variable {prog : Program} {w : World} {A : Around} {E : Value → Shared → Prop} {h : Heap} {g : Array GenState} {d : Drawn} {t : Nat} {os : OsState} {a C : Addr} {o : Obj} {K : PySem.W.Frag}
def XAt (a C : Addr) (h : Heap) : Prop := ∃ o, h.get? a = some o ∧ o.cls = .ref C
end
section
variable {X : Cx}
def rIsiX (K : PySem.W.Frag) : List V → Hp → VK → Prop := fun xs H Q => ∃ ea C c cv b, xs = [.ref ea, c] ∧ clsV c = some cv ∧ H ea = some (.ext (ExcIs ea (.ref C))) ∧ XC K C ∧ PySem.W.kitOne K (.ref C) cv = some b ∧ Q (.bl b) H
end
end Hd

set_option Elab.async false
set_option linter.all false
set_option maxRecDepth 100000
namespace L2
open PySem PySem.Spec PyProof.Rows

/-! ### lists of pairs as tables -/
section
variable {κ : Type} [DecidableEq κ]
def valV (kvs : List (κ × V)) (k : κ) : Option V := (kvs.find? fun kv => decide (kv.1 = k)).map (·.2)
/-- in its place, or at the end -/
def putK (kvs : List (κ × V)) (k : κ) (v : V) : List (κ × V) :=
  if (kvs.any fun kv => decide (kv.1 = k)) = true then kvs.map (fun kv => if kv.1 = k then (kv.1, v) else kv) else kvs ++ [(k, v)]
def dropK (kvs : List (κ × V)) (k : κ) : List (κ × V) := kvs.filter fun kv => decide (kv.1 ≠ k)

theorem valV_pos {p : κ × V} {r : List (κ × V)} {k : κ} (e : p.1 = k) : valV (p :: r) k = some p.2 := by simp [valV, List.find?_cons, e]
theorem valV_neg {p : κ × V} {r : List (κ × V)} {k : κ} (e : ¬ p.1 = k) : valV (p :: r) k = valV r k := by simp [valV, List.find?_cons, e]
theorem valV_any (k : κ) : ∀ kvs : List (κ × V), (kvs.any fun kv => decide (kv.1 = k)) = (valV kvs k).isSome
  | [] => rfl
  | p :: r => by
    rw [List.any_cons]
    by_cases e : p.1 = k
    · simp only [valV_pos e, decide_eq_true e, Bool.true_or, Option.isSome_some]
    · rw [valV_neg e, decide_eq_false e, Bool.false_or]; exact valV_any k r
theorem length_putK (kvs : List (κ × V)) (k : κ) (v : V) : (putK kvs k v).length ≤ kvs.length + 1 := by
  unfold putK
  split
  · rw [List.length_map]; omega
  · rw [List.length_append, List.length_cons, List.length_nil]; omega
theorem RelO.isSome_eq {o : Option V} {u : Option Value} (r : RelO o u) : o.isSome = u.isSome := by
  cases o with
  | none => cases u with
    | none => rfl
    | some _ => exact (show False from r).elim
  | some _ => cases u with
    | none => exact (show False from r).elim
    | some _ => rfl
theorem RelO.getD {o : Option V} {u : Option Value} {d : V} {d' : Value} (r : RelO o u) (rd : RelV d d') : RelV (o.getD d) (u.getD d') := by
  cases o with
  | none => cases u with
    | none => exact rd
    | some _ => exact (show False from r).elim
  | some _ => cases u with
    | none => exact (show False from r).elim
    | some _ => exact r

/-- raw tables of the same keys -/
theorem KV.val {kvs : List (κ × V)} {vs : List (κ × Value)} (r : KV kvs vs) (k : κ) : RelO (valV kvs k) (valueAt vs k) := by
  unfold KV at r
  induction r with
  | nil => exact True.intro
  | @cons p q ps qs h t ih =>
    obtain ⟨h1, h2⟩ := h
    by_cases e : p.1 = k
    · have e' : q.1 = k := h1.symm.trans e
      have b : valueAt (q :: qs) k = some q.2 := by simp [valueAt, List.find?_cons, e']
      rw [valV_pos e, b]; exact h2
    · have e' : ¬ q.1 = k := fun z => e (h1.trans z)
      have b : valueAt (q :: qs) k = valueAt qs k := by simp [valueAt, List.find?_cons, e']
      rw [valV_neg e, b]; exact ih
theorem KV.any {kvs : List (κ × V)} {vs : List (κ × Value)} (r : KV kvs vs) (k : κ) : (kvs.any fun kv => decide (kv.1 = k)) = vs.any fun kv => decide (kv.1 = k) := by
  unfold KV at r
  induction r with
  | nil => rfl
  | cons h t ih => rw [List.any_cons, List.any_cons, ih, h.1]
theorem KV.repl {kvs : List (κ × V)} {vs : List (κ × Value)} (r : KV kvs vs) (k : κ) {y : V} {u : Value} (ry : RelV y u) :
    KV (kvs.map fun kv => if kv.1 = k then (kv.1, y) else kv) (vs.map fun kv => if kv.1 = k then (kv.1, u) else kv) := by
  unfold KV at r ⊢
  induction r with
  | nil => exact .nil
  | @cons p q ps qs h t ih =>
    rw [List.map_cons, List.map_cons]
    refine .cons ?_ ih
    obtain ⟨h1, h2⟩ := h
    by_cases e : p.1 = k
    · rw [if_pos e, if_pos (h1.symm.trans e)]; exact ⟨h1, ry⟩
    · rw [if_neg e, if_neg (fun z => e (h1.trans z))]; exact ⟨h1, h2⟩
theorem KV.put {kvs : List (κ × V)} {vs : List (κ × Value)} (r : KV kvs vs) (k : κ) {y : V} {u : Value} (ry : RelV y u) : KV (putK kvs k y) (stored vs k u) := by
  unfold putK stored
  rw [r.any k]
  by_cases e : (vs.any fun kv => decide (kv.1 = k)) = true
  · rw [if_pos e, if_pos e]; exact r.repl k ry
  · rw [if_neg e, if_neg e]; exact Paired.snoc r ⟨rfl, ry⟩
theorem KV.drop {kvs : List (κ × V)} {vs : List (κ × Value)} (r : KV kvs vs) (k : κ) : KV (dropK kvs k) (without vs k) := by
  unfold KV at r ⊢
  unfold dropK without
  induction r with
  | nil => exact .nil
  | @cons p q ps qs h t ih =>
    obtain ⟨h1, h2⟩ := h
    rw [List.filter_cons, List.filter_cons]
    by_cases e : p.1 = k
    · have a : ¬ decide (p.1 ≠ k) = true := by simp [e]
      have b : ¬ decide (q.1 ≠ k) = true := by simp [h1.symm.trans e]
      rw [if_neg a, if_neg b]; exact ih
    · have e' : ¬ q.1 = k := fun z => e (h1.trans z)
      have a : decide (p.1 ≠ k) = true := by simp [e]
      have b : decide (q.1 ≠ k) = true := by simp [e']
      rw [if_pos a, if_pos b]; exact .cons ⟨h1, h2⟩ ih
theorem KV.keys {kvs : List (κ × V)} {vs : List (κ × Value)} (r : KV kvs vs) : kvs.map (·.1) = vs.map (·.1) := by
  unfold KV at r
  induction r with
  | nil => rfl
  | cons h t ih => rw [List.map_cons, List.map_cons, ih, h.1]
theorem KV.length {kvs : List (κ × V)} {vs : List (κ × Value)} (r : KV kvs vs) : kvs.length = vs.length := Paired.length r
end


/-! ### a tracked dict, its keys ints and texts or tuples of these -/
theorem kV_is {P : Program} {w : World} {k : Key} {u : Value} (r : RelV (kV k) u) : (mixKind P w).is k u = true := by
  cases k with
  | inl i => obtain ⟨t, e⟩ := (show ∃ t, u = Value.int i t from r); subst e; exact mixKind_int P w i t
  | inr x => obtain ⟨t, e⟩ := (show ∃ t, u = Value.str x t from r); subst e; exact mixKind_str P w x t
/-- raw entries of a dict with tuple keys -/
abbrev KT (T : Addr → List V → Prop) (H : Hp) : List (List Kt × V) → List (List Kt × Addr × Value) → Prop := Paired fun p q => p.1 = q.1 ∧ TrT T H q.2.1 p.1 ∧ RelV p.2 q.2.2
theorem KT.val {T : Addr → List V → Prop} {H : Hp} {kvs : List (List Kt × V)} {xs : List (List Kt × Addr × Value)} (r : KT T H kvs xs) (k : List Kt) : RelO (valV kvs k) ((atKey xs k).map (·.2)) := by
  induction r with
  | nil => exact True.intro
  | @cons p q ps qs h t ih =>
    obtain ⟨h1, _, h2⟩ := h
    by_cases e : p.1 = k
    · have e' : q.1 = k := h1.symm.trans e
      have b : atKey (q :: qs) k = some q.2 := by simp [atKey, List.find?_cons, e']
      rw [valV_pos e, b]; exact h2
    · have e' : ¬ q.1 = k := fun z => e (h1.trans z)
      have b : atKey (q :: qs) k = atKey qs k := by simp [atKey, List.find?_cons, e']
      rw [valV_neg e, b]; exact ih
theorem KT.repl {T : Addr → List V → Prop} {H : Hp} {kvs : List (List Kt × V)} {xs : List (List Kt × Addr × Value)} (r : KT T H kvs xs) (k : List Kt) {y : V} {u : Value} (ry : RelV y u) :
    KT T H (kvs.map fun kv => if kv.1 = k then (kv.1, y) else kv) (xs.map (putAt k u)) := by
  induction r with
  | nil => exact .nil
  | @cons p q ps qs h t ih =>
    rw [List.map_cons, List.map_cons]
    refine .cons ?_ ih
    obtain ⟨h1, h2, h3⟩ := h
    unfold putAt
    by_cases e : p.1 = k
    · rw [if_pos e, if_pos (h1.symm.trans e)]; exact ⟨h1, h2, ry⟩
    · rw [if_neg e, if_neg (fun z => e (h1.trans z))]; exact ⟨h1, h2, h3⟩
theorem KT.put {T : Addr → List V → Prop} {H : Hp} {kvs : List (List Kt × V)} {xs : List (List Kt × Addr × Value)} (r : KT T H kvs xs) (k : List Kt) {b : Addr} {y : V} {u : Value} (hb : TrT T H b k) (ry : RelV y u) :
    KT T H (putK kvs k y) (storedH xs k b u) := by
  have e : (kvs.any fun kv => decide (kv.1 = k)) = (atKey xs k).isSome := by
    rw [valV_any, (r.val k).isSome_eq, Option.isSome_map]
  unfold putK storedH
  rw [e]
  by_cases q : (atKey xs k).isSome = true
  · rw [if_pos q, if_pos q]; exact r.repl k ry
  · rw [if_neg q, if_neg q]; exact Paired.snoc r ⟨rfl, hb, ry⟩
theorem KT.keeps {T : Addr → List V → Prop} {H H' : Hp} {kvs : List (List Kt × V)} {xs : List (List Kt × Addr × Value)} (r : KT T H kvs xs) (ht : ∀ b ys, H b = some (.tup ys) → H' b = some (.tup ys)) : KT T H' kvs xs :=
  Paired.mapP r fun _ _ z => ⟨z.1, z.2.1.imp ht, z.2.2⟩

section
variable {P : Program} {w : World} {H : Hp} {h : Heap} {a : Addr}
theorem rd_of {u : HO} (ok : HOk P w H h) (e : Rd H a u) : ObjOk P w H h a u := e.ok ok
theorem dk_rd {kvs : List (Key × V)} (ok : HOk P w H h) (e : Rd H a (.dK kvs)) : kvs.length ≤ sizeLine ∧ (a == sysModules) = false ∧ ∃ vs, KV kvs vs ∧ h.DictOf (mixKind P w) a vs :=
  show ObjOk P w H h a (.dK kvs) from rd_of ok e
theorem dk_of {kvs : List (Key × V)} (ok : HOk P w H h) (e : H a = some (.dK kvs)) : kvs.length ≤ sizeLine ∧ (a == sysModules) = false ∧ ∃ vs, KV kvs vs ∧ h.DictOf (mixKind P w) a vs := dk_rd ok (.inl e)
theorem dt_rd {T : Addr → List V → Prop} {kvs : List (List Kt × V)} (hT : ∀ b ks, TrT T H b ks → (treeKind P w).is h ks b) (ok : HOk P w H h) (e : Rd H a (.dT T kvs)) : kvs.length ≤ sizeLine ∧ (a == sysModules) = false ∧
    ∃ xs, KT T H kvs xs ∧ h.DictOfH (treeKind P w) a xs := by
  obtain ⟨z, y, xs, r, o, es, ep, h1, h2, h3, h4, h5⟩ := (show ObjOk P w H h a (.dT T kvs) from rd_of ok e)
  refine ⟨z, y, xs, r, o, es, ep, h1, h2, h3, h4, fun x hx => ?_, h5⟩
  have all : ∀ {l : List (List Kt × V)} {m : List (List Kt × Addr × Value)}, KT T H l m → ∀ x ∈ m, (treeKind P w).is h x.1 x.2.1 := by
    intro l m q
    induction q with
    | nil => intro x hx; exact nomatch hx
    | @cons p q ps qs hq t ih =>
      intro x hx
      rcases List.mem_cons.mp hx with e | hx
      · subst e
        rw [← hq.1]
        exact hT _ _ hq.2.1
      · exact ih x hx
  exact all r x hx
theorem dt_of {T : Addr → List V → Prop} {kvs : List (List Kt × V)} (hT : ∀ b ks, TrT T H b ks → (treeKind P w).is h ks b) (ok : HOk P w H h) (e : H a = some (.dT T kvs)) : kvs.length ≤ sizeLine ∧ (a == sysModules) = false ∧
    ∃ xs, KT T H kvs xs ∧ h.DictOfH (treeKind P w) a xs := dt_rd hT ok (.inl e)
end

/-- what the dict at a holds at the key y -/
def DGet (K : PySem.W.Frag) (H : Hp) (a : Addr) (y : V) (r : Option V) : Prop :=
  (∃ kvs k, Rd H a (.dK kvs) ∧ y = kV k ∧ r = valV kvs k) ∨ ∃ kvs k b, Rd H a (.dT (KTp K) kvs) ∧ y = .ref b ∧ TrT (KTp K) H b k ∧ r = valV kvs k
/-- the heap behind a[y] = v -/
def DPut (K : PySem.W.Frag) (H : Hp) (a : Addr) (y v : V) (H' : Hp) : Prop :=
  (∃ kvs k, H a = some (.dK kvs) ∧ y = kV k ∧ kvs.length < sizeLine ∧ H' = upd H a (.dK (putK kvs k v))) ∨
  ∃ kvs k b, H a = some (.dT (KTp K) kvs) ∧ y = .ref b ∧ TrT (KTp K) H b k ∧ kvs.length < sizeLine ∧ H' = upd H a (.dT (KTp K) (putK kvs k v))
theorem DGet.k {K : PySem.W.Frag} {H : Hp} {a : Addr} {kvs : List (Key × V)} {k : Key} (e : H a = some (.dK kvs)) : DGet K H a (kV k) (valV kvs k) := .inl ⟨kvs, k, .inl e, rfl, rfl⟩
theorem DGet.t {K : PySem.W.Frag} {H : Hp} {a b : Addr} {kvs : List (List Kt × V)} {k : List Kt} (e : H a = some (.dT (KTp K) kvs)) (eb : TrT (KTp K) H b k) : DGet K H a (.ref b) (valV kvs k) := .inr ⟨kvs, k, b, .inl e, rfl, eb, rfl⟩
theorem DPut.k {K : PySem.W.Frag} {H : Hp} {a : Addr} {kvs : List (Key × V)} {k : Key} {v : V} (e : H a = some (.dK kvs)) (hl : kvs.length < sizeLine) : DPut K H a (kV k) v (upd H a (.dK (putK kvs k v))) := .inl ⟨kvs, k, e, rfl, hl, rfl⟩
theorem DPut.t {K : PySem.W.Frag} {H : Hp} {a b : Addr} {kvs : List (List Kt × V)} {k : List Kt} {v : V} (e : H a = some (.dT (KTp K) kvs)) (eb : TrT (KTp K) H b k) (hl : kvs.length < sizeLine) :
    DPut K H a (.ref b) v (upd H a (.dT (KTp K) (putK kvs k v))) := .inr ⟨kvs, k, b, e, rfl, eb, hl, rfl⟩


section
variable {X : Cx} {pins : List (Addr × Obj)} {σ : St} {H : Hp} {s : Shared} {a : Addr} {y v : V} {u r : Value} {o : Option V} {A : Around} {E : Value → Shared → Prop}

theorem Inv.big (I : Inv X pins σ H s) : sysModules < s.heap.objs.size := by
  have h : mainGlobals < s.heap.objs.size := (I.mod.glob.keeps I.bk).lt
  exact Nat.lt_trans (by decide) h

mutual
theorem ktIs_at (I : Inv X pins σ H s) : ∀ {n : Nat} {v : V} {k : Kt} {u : Value}, KtAt (KTp X.K) H n v k → RelV v u → KtIs s.heap n k u
  | n, _, _, u, .k (x := x), r => by rw [ktIs_k]; exact kV_is (P := X.prog) (w := X.w) r
  | _, _, _, u, .t (b := b) h hs, r => by
    cases (show u = Value.ref b from r)
    obtain ⟨its, rv, ⟨o, ho, hc, m, hd⟩, _⟩ := I.tuple (SqU.sq h)
    exact ktIs_t.mpr ⟨b, o, its.toArray, m, rfl, ho, hc, hd, by simpa using ktsIs_at I hs rv⟩
theorem ktsIs_at (I : Inv X pins σ H s) : ∀ {n : Nat} {vs : List V} {ks : List Kt} {us : List Value}, KtsAt (KTp X.K) H n vs ks → Vals vs us → Paired (KtIs s.heap n) ks us
  | _, _, _, _, .nil, .nil => .nil
  | _, _, _, _, .cons h hs, .cons r rs => .cons (ktIs_at I h r) (ktsIs_at I hs rs)
end
theorem key_sq {ks : List Kt} {b : Addr} (I : Inv X pins σ H s) (e : TrT (KTp X.K) H b ks) : (treeKind X.prog X.w).is s.heap ks b := by
  obtain ⟨vs, h, hs⟩ := e
  exact ktIs_at I (.t h hs) rfl
theorem key_K (I : Inv X pins σ H s) : ∀ b ks, TrT (KTp X.K) H b ks → (treeKind X.prog X.w).is s.heap ks b := fun b ks e => key_sq I e
theorem tree_room {A : Around} (hu : A.units + 16 < cLine) : (treeKind X.prog X.w).room A.in1 := by
  show A.units + 1 + 8 < cLine
  omega
/-- d[y], there -/
theorem d_getItem {Q : Value → Shared → Prop} (hu : A.units + 16 < cLine) (I : Inv X pins σ H s) (g : DGet X.K H a y (some v)) (ry : RelV y u) (h : ∀ w' s', Inv X pins σ H s' → RelV v w' → Q w' s') :
    wpAny (model X.prog X.w) A (getItem (.ref a) u) Q E s := by
  rcases g with ⟨kvs, k, e, ey, l⟩ | ⟨kvs, k, b, e, ey, eb, l⟩
  · subst ey
    obtain ⟨z, hd, vs, rel, dd⟩ := dk_rd I.hok e
    obtain ⟨w', hw, rw'⟩ := RelO.some_of (v := v) (o := valueAt vs k) (by rw [l]; exact rel.val k)
    exact wpAny_getItem_of (kV_is ry) dd.mapOf hw (h w' _ (I.tok _) rw')
  · subst ey
    cases (show u = Value.ref b from ry)
    obtain ⟨z, hd, xs, rel, dd⟩ := dt_rd (key_K I) I.hok e
    obtain ⟨w', hw, rw'⟩ := RelO.some_of (v := v) (o := (atKey xs k).map (·.2)) (by rw [l]; exact rel.val k)
    obtain ⟨p, hp, hp2⟩ := Option.map_eq_some_iff.mp hw
    refine wpAny_getItem_heap (tree_room hu) (key_sq I eb) dd hp ?_
    rw [hp2]
    exact h w' _ (I.tok _) rw'
/-- a dict's object is replaced -/
theorem d_write {h' : Heap} {t' : Nat} {ob : HO} (I : Inv X pins σ H s) (mu : Mut (H a)) (hs : Heap.SameBut a s.heap h') (he : ∃ q, h'.get? a = some q) (new : ObjOk X.prog X.w (upd H a ob) h' a ob) :
    Inv X pins σ (upd H a ob) { s with heap := h', toks := t' } :=
  I.write (x := a) (e := a) mu (.inl rfl) (fun b q hb z => (hs.2 b hb).trans z) he new
theorem dk_new {P : Program} {w : World} {H' : Hp} {h' : Heap} {kvs : List (Key × V)} {vs : List (Key × Value)} (z : kvs.length ≤ sizeLine) (hd : (a == sysModules) = false) (rel : KV kvs vs) (dd : h'.DictOf (mixKind P w) a vs) :
    ObjOk P w H' h' a (.dK kvs) := ⟨z, hd, vs, rel, dd⟩
/-- d[y] = v -/
theorem d_setItem {H' : Hp} {Q : Unit → Shared → Prop} (hu : A.units + 16 < cLine) (I : Inv X pins σ H s) (g : DPut X.K H a y v H') (ry : RelV y u) (rv : RelV v r) (h : ∀ s', Inv X pins σ H' s' → Q () s') :
    wpAny (model X.prog X.w) A (setItem (.ref a) u r) Q E s := by
  rcases g with ⟨kvs, k, e, ey, l, eH⟩ | ⟨kvs, k, b, e, ey, eb, l, eH⟩
  · subst ey eH
    obtain ⟨z, hd, vs, rel, dd⟩ := dk_of I.hok e
    have hz : vs.length ≤ sizeLine := by rw [← rel.length]; exact z
    have hl : (putK kvs k v).length ≤ sizeLine := by have := length_putK kvs k v; omega
    refine wpAny_setItem_pairs (hsz := hz) (kV_is ry) dd fun h' dd' hs => h _ ?_
    have he : ∃ q, h'.get? a = some q := let ⟨q, _, _, hq, _⟩ := dd'; ⟨q, hq⟩
    exact d_write I (by rw [e]; exact True.intro) hs he (dk_new hl hd (rel.put k rv) dd')
  · subst ey eH
    cases (show u = Value.ref b from ry)
    obtain ⟨z, hd, xs, rel, dd⟩ := dt_of (key_K I) I.hok e
    have hz : xs.length ≤ sizeLine := by rw [← Paired.length rel]; exact z
    have hl : (putK kvs k v).length ≤ sizeLine := by have := length_putK kvs k v; omega
    refine wpAny_setItem_heap (hsz := hz) (tree_room hu) (key_sq I eb) dd fun h' dd' hs => h _ ?_
    obtain ⟨q, es, ep, hq, h2, h3, h4, _, h5⟩ := dd'
    refine d_write I (by rw [e]; exact True.intro) hs ⟨q, hq⟩ ⟨hl, hd, _, (rel.put k eb rv).keeps fun c ys ec => ?_, q, es, ep, hq, h2, h3, h4, h5⟩
    rw [upd_ne (ne_of ec e (fun z => nomatch z))]
    exact ec
end

section
variable {X : Cx} {pins : List (Addr × Obj)} {σ : St} {H : Hp} {s : Shared} {a : Addr} {kvs : List (Key × V)} {k : Key} {u : Value} {A : Around} {E : Value → Shared → Prop}
/-- len(d) -/
theorem d_len {Q : Value → Shared → Prop} (I : Inv X pins σ H s) (e : Rd H a (.dK kvs)) (h : ∀ t s', Inv X pins σ H s' → Q (.int kvs.length t) s') : wpAny (model X.prog X.w) A (call (.builtin "len") [.ref a]) Q E s := by
  obtain ⟨z, hd, vs, rel, dd⟩ := dk_rd I.hok e
  refine call_len_dict hd dd (by rw [← rel.length]; rw [sizeLine_eq] at z; omega) ?_
  rw [← rel.length]
  exact h _ _ (I.tok _)
end


/-! ### readings and rules -/
/-- the element of a subscription, not a slice -/
def NoSl (i : Expr) : Prop := ∀ ov iv, subscripted i false ov iv = operate [ov, iv] (getItem ov iv)
theorem subD_of {prog : Program} {w : World} {A : Around} {E : Value → Shared → Prop} {s : Shared} {env : Env} {value slice : Expr} {pos : Pos} {T id : String} {Q : Value → Shared → Prop}
    (hl : typeLookup (.type T) "__getitem__" = pure (some (.builtin id))) (hs : NoSl slice)
    (h : wpAny (model prog w) A (eval value env) (fun o s₁ => wpAny (model prog w) A (eval slice env) (fun i s₂ => s₂.TypeIs o T ∧ wpAny (model prog w) A (getItem o i) Q E s₂) E s₁) E s) :
    wpAny (model prog w) A (eval (.Subscript value slice pos) env) Q E s := by
  refine Subscript_ (wpAny_mono h (fun o s₁ h₁ => wpAny_mono h₁ (fun i s₂ h₂ => ?_) fun _ _ x => x) fun _ _ x => x)
  obtain ⟨hT, h₂⟩ := h₂
  unfold subscriptTail
  refine wpAny_bind ?_
  rw [getitemInPython_of_ne hT.not_modules]
  refine wpAny_bind (wpAny_specialOf hT hl ?_)
  have fin : wpAny (model prog w) A (subscripted slice false o i) (fun r s₃ => wpAny (model prog w) A (letTemporaryGo value o r >>= fun _ => pure r) Q E s₃) E s₂ := by
    rw [hs o i]
    exact wpAny_operating (wpAny_mono h₂ (fun r s₃ h₃ => wpAny_bind (wpAny_letTemporaryGo (wpAny_pure h₃))) fun _ _ x => x)
  first
    | exact wpAny_pure (wpAny_bind fin)
    | exact wpAny_bind (wpAny_pure (wpAny_bind fin))
    | exact wpAny_bind fin

theorem dict_typeIs {X : Cx} {pins : List (Addr × Obj)} {σ : St} {H : Hp} {s : Shared} {a : Addr} {y : V} {o : Option V} (I : Inv X pins σ H s) (g : DGet X.K H a y o) : s.TypeIs (.ref a) "dict" := by
  rcases g with ⟨kvs, k, e, _, _⟩ | ⟨kvs, k, b, e, _, _, _⟩
  · obtain ⟨_, _, vs, _, dd⟩ := dk_rd I.hok e
    exact dd.typeIs
  · obtain ⟨_, _, xs, _, dd⟩ := dt_rd (key_K I) I.hok e
    exact dd.typeIs
/-- d[y] -/
def tDGet (K : PySem.W.Frag) (td ty : TE) : TE := fun σ H Q => td σ H fun x H1 => ty σ H1 fun y H2 => ∃ a v, x = .ref a ∧ DGet K H2 a y (some v) ∧ Q v H2
/-- y in d, y not in d -/
def tDIn (K : PySem.W.Frag) (ty td : TE) : TE := fun σ H Q => ty σ H fun y H1 => td σ H1 fun x H2 => ∃ a o, x = .ref a ∧ DGet K H2 a y o ∧ Q (.bl o.isSome) H2
def tDNotIn (K : PySem.W.Frag) (ty td : TE) : TE := fun σ H Q => ty σ H fun y H1 => td σ H1 fun x H2 => ∃ a o, x = .ref a ∧ DGet K H2 a y o ∧ Q (.bl (!o.isSome)) H2
/-- d[y] = v -/
def sDPut (K : PySem.W.Frag) (td ty tv : TE) : TS := fun D σ H => tv σ H fun v H1 => td σ H1 fun x H2 => ty σ H2 fun y H3 => ∃ a H4, x = .ref a ∧ DPut K H3 a y v H4 ∧ D.nx σ H4
/-- d[y] op= v -/
def sDAug (K : PySem.W.Frag) (td ty tv : TE) (rd : V → V → Hp → VK → Prop) : TS := fun D σ H => td σ H fun x H1 => ty σ H1 fun y H2 => ∃ a v, x = .ref a ∧ DGet K H2 a y (some v) ∧
  tv σ H2 fun y2 H3 => rd v y2 H3 fun z H4 => ∃ H5, DPut K H4 a y z H5 ∧ D.nx σ H5
/-- del d[y] -/
def sDDel (td ty : TE) : TS := fun D σ H => td σ H fun x H1 => ty σ H1 fun y H2 => ∃ a kvs k, x = .ref a ∧ H2 a = some (.dK kvs) ∧ y = kV k ∧ (valV kvs k).isSome = true ∧ D.nx σ (upd H2 a (.dK (dropK kvs k)))

section
variable {X : Cx} {o i e value : Expr} {pos pos' tpos : Pos} {td ty tv : TE}
theorem pe_dget (hu : X.A.units + 16 < cLine) (ho : PE X o td) (hi : PE X i ty) (hs : NoSl i) : PE X (.Subscript o i pos) (tDGet X.K td ty) := by
  intro pins s σ H Q I h
  refine subD_of PySem.F.slot_dict_getitem.lookup hs (thn (ho pins s σ H _ I h) fun u s1 ⟨x, H1, I1, rx, q1⟩ => thn (hi pins s1 σ H1 _ I1 q1) fun iv s2 ⟨y, H2, I2, ry, a, v, ex, g, q2⟩ => ?_)
  subst ex
  obtain rfl : u = Value.ref a := rx
  exact ⟨dict_typeIs I2 g, d_getItem hu I2 g ry fun w' s3 I3 rw' => ⟨v, H2, I3, rw', q2⟩⟩
theorem ps_dput (hu : X.A.units + 16 < cLine) (ho : PE X o td) (hi : PE X i ty) (hv : PE X value tv) (hs : swapsWith value (some (.Subscript o i pos')) pos.line X.env = pure false) :
    PS X (.Assign [.Subscript o i pos'] value pos) (sDPut X.K td ty tv) := by
  intro pins s σ H D I h
  refine wpAny_Assign_Subscript (thn (hv pins s σ H _ I h) fun r s1 ⟨v, H1, I1, rv, q1⟩ => thn (ho pins s1 σ H1 _ I1 q1) fun u s2 ⟨x, H2, I2, rx, q2⟩ => thn (hi pins s2 σ H2 _ I2 q2) fun iv s3 ⟨y, H3, I3, ry, a, H4, ex, g, q3⟩ => ?_) hs
  subst ex
  obtain rfl : u = Value.ref a := rx
  exact d_setItem hu I3 g ry rv fun s4 I4 => ⟨σ, H4, I4, q3⟩
end


/-! ### displays -/
theorem dt_empty {T : Addr → List V → Prop} {P : Program} {w : World} {H : Hp} (h : Heap) (hb : sysModules < h.objs.size) : ObjOk P w H (h.push { cls := .type "dict", data := .dict #[] }) h.objs.size (.dT T []) :=
  ⟨Nat.zero_le _, beq_eq_false_iff_ne.mpr (Ne.symm (Nat.ne_of_lt hb)), [], .nil, _, #[], 0, Heap.get?_push_size _ rfl, ⟨rfl, rfl, rfl⟩, rfl, rfl, List.nodup_nil⟩
/-- {}, to be a dict of the kind that is wanted -/
def tDNewK : TE := fun _ H Q => ∀ p, H p = none → Q (.ref p) (upd H p (.dK []))
def tDNewT (K : PySem.W.Frag) : TE := fun _ H Q => ∀ p, H p = none → Q (.ref p) (upd H p (.dT (KTp K) []))
section
variable {X : Cx} {pos : Pos}
theorem pe_dnewT : PE X (.Dict [] [] pos) (tDNewT X.K) := fun pins s σ H Q I h =>
  wpAny_Dict_empty ⟨.ref s.heap.objs.size, _, I.laid (a := s.heap.objs.size) (o := .dT (KTp X.K) []) (t' := s.toks) (fun _ _ q => Heap.get?_push_of_some _ q) (Nat.le_refl _) (dt_empty s.heap I.big), rfl, h _ (I.hok.fresh (Nat.le_refl _))⟩
end

/-- the pairs of a display, from the left -/
def tPairs : List (TE × TE) → St → Hp → (List (V × V) → Hp → Prop) → Prop
  | [], _, H, Q => Q [] H
  | (tk, tv) :: r, σ, H, Q => tk σ H fun x H1 => tv σ H1 fun y H2 => tPairs r σ H2 fun ps H3 => Q ((x, y) :: ps) H3
abbrev VV : List (V × V) → List (Value × Value) → Prop := Paired fun p q => RelV p.1 q.1 ∧ RelV p.2 q.2
def PPs (X : Cx) (pos : Pos) (keys : List (Option Expr)) (values : List Expr) (trs : List (TE × TE)) : Prop :=
  ∀ (pins : List (Addr × Obj)) (s : Shared) (σ : St) (H : Hp) (Q : List (V × V) → Hp → Prop), Inv X pins σ H s → tPairs trs σ H Q →
    wpAny (model X.prog X.w) X.A (evalPairs (pairTrees keys values X.env pos)) (fun vs s' => ∃ ps H', Inv X pins σ H' s' ∧ VV ps vs ∧ Q ps H') X.xe s
def mergeK (kvs more : List (Key × V)) : List (Key × V) := more.foldl (fun acc kv => putK acc kv.1 kv.2) kvs
/-- {k: v, ..} with keys ints and texts; the new dict stands empty while the pairs are made -/
def tDisp (trs : List (TE × TE)) : TE := fun σ H Q => ∀ p, H p = none → tPairs trs σ (upd H p (.dK [])) fun ps H2 => H2 p = some (.dK []) ∧ ∃ kvs : List (Key × V), ps = kvs.map (fun kv => (kV kv.1, kv.2)) ∧ kvs.length ≤ 15 ∧ Q (.ref p) (upd H2 p (.dK (mergeK [] kvs)))
/-! ### methods -/
/-- a method call o.m(e) of a built-in, with one argument: what must be seen of the text -/
structure M1 (X : Cx) (o : Expr) (m : Str) (apos : Pos) (e : Expr) (cpos : Pos) : Prop where
  base : attributeBase o m X.env (eval o X.env) = eval o X.env
  few : ((backTo cpos (starEach [e] X.env)).all (fun x => !x.1) && (backToKw cpos (keywordEach [] X.env)).all (fun x => x.1.isSome)
    && decide (([e] : List Expr).length + ([] : List Keyword).length + (if ([] : List Keyword).isEmpty then 0 else 1) < 30)) = true
  line : (apos.endLine == cpos.line) = true
  trees : backTo cpos (starEach [e] X.env) = [(false, eval e X.env)]
structure M2 (X : Cx) (o : Expr) (m : Str) (apos : Pos) (e f : Expr) (cpos : Pos) : Prop where
  base : attributeBase o m X.env (eval o X.env) = eval o X.env
  few : ((backTo cpos (starEach [e, f] X.env)).all (fun x => !x.1) && (backToKw cpos (keywordEach [] X.env)).all (fun x => x.1.isSome)
    && decide (([e, f] : List Expr).length + ([] : List Keyword).length + (if ([] : List Keyword).isEmpty then 0 else 1) < 30)) = true
  line : (apos.endLine == cpos.line) = true
  trees : backTo cpos (starEach [e, f] X.env) = [(false, eval e X.env), (false, eval f X.env)]

/-- a is a dict, whatever its keys -/
def IsD (K : PySem.W.Frag) (H : Hp) (a : Addr) : Prop := (∃ kvs, Rd H a (.dK kvs)) ∨ ∃ kvs, Rd H a (.dT (KTp K) kvs)
theorem isD_at {X : Cx} {pins : List (Addr × Obj)} {σ : St} {H : Hp} {s : Shared} {a : Addr} (I : Inv X pins σ H s) (d : IsD X.K H a) :
    s.TypeIs (.ref a) "dict" ∧ (∀ b, Value.ref a = .ref b → ∃ ob, s.heap.get? b = some ob ∧ ob.dict = none) ∧ (a == sysModules) = false := by
  rcases d with ⟨kvs, e⟩ | ⟨kvs, e⟩
  · obtain ⟨_, hd, vs, _, dd⟩ := dk_rd I.hok e
    refine ⟨dd.typeIs, fun b q => ?_, hd⟩
    cases q
    obtain ⟨ob, _, _, h1, h2, _⟩ := dd
    exact ⟨ob, h1, h2.2.1⟩
  · obtain ⟨_, hd, xs, _, dd⟩ := dt_rd (key_K I) I.hok e
    refine ⟨dd.typeIs, fun b q => ?_, hd⟩
    cases q
    obtain ⟨ob, _, _, h1, h2, _⟩ := dd
    exact ⟨ob, h1, h2.2.1⟩

section
variable {X : Cx} {pins : List (Addr × Obj)} {σ : St} {H : Hp} {s : Shared} {a : Addr} {y d : V} {u r : Value} {o : Option V} {A : Around} {E : Value → Shared → Prop}
/-- d.get(y, x) -/
theorem d_get2 {Q : Value → Shared → Prop} (hu : A.units + 16 < cLine) (I : Inv X pins σ H s) (g : DGet X.K H a y o) (ry : RelV y u) (rd : RelV d r) (h : ∀ w' s', Inv X pins σ H s' → RelV (o.getD d) w' → Q w' s') :
    wpAny (model X.prog X.w) A (call (.builtin "dict.get") [.ref a, u, r]) Q E s := by
  rcases g with ⟨kvs, k, e, ey, l⟩ | ⟨kvs, k, b, e, ey, eb, l⟩
  · subst ey
    obtain ⟨z, hd, vs, rel, dd⟩ := dk_rd I.hok e
    refine call_meetsIn PySem.F.slot_dict_get dd.typeIs PySem.F.entry_dict_get (PySem.F.args_dict_get_3 _ _ _) (meets_dict_get_default (mixKind X.prog X.w) a (kV_is ry) hd r) ⟨_, dd.mapOf, h _ _ (I.tok _) ?_⟩
    rw [l]
    exact (rel.val k).getD rd
  · subst ey
    cases (show u = Value.ref b from ry)
    obtain ⟨z, hd, xs, rel, dd⟩ := dt_rd (key_K I) I.hok e
    refine call_meetsIn PySem.F.slot_dict_get dd.typeIs PySem.F.entry_dict_get (PySem.F.args_dict_get_3 _ _ _) (meetsH_dict_get_default (treeKind X.prog X.w) a b hd r) ⟨tree_room hu, k, xs, key_sq I eb, dd, h _ _ (I.tok _) ?_⟩
    rw [l]
    exact (rel.val k).getD rd
end

def tDGet1 (K : PySem.W.Frag) (td ty : TE) : TE := fun σ H Q => td σ H fun x H1 => ∃ a, x = .ref a ∧ IsD K H1 a ∧ ty σ H1 fun y H2 => ∃ o, DGet K H2 a y o ∧ Q (o.getD .non) H2
def tDGet2 (K : PySem.W.Frag) (td ty tx : TE) : TE := fun σ H Q => td σ H fun x H1 => ∃ a, x = .ref a ∧ IsD K H1 a ∧ ty σ H1 fun y H2 => tx σ H2 fun z H3 => ∃ o, DGet K H3 a y o ∧ Q (o.getD z) H3
/-- d.pop(k): there; d.pop(k, x): there or not -/
def tDPop1 (K : PySem.W.Frag) (td ty : TE) : TE := fun σ H Q => td σ H fun x H1 => ∃ a, x = .ref a ∧ IsD K H1 a ∧ ty σ H1 fun y H2 => ∃ kvs k v, H2 a = some (.dK kvs) ∧ y = kV k ∧ valV kvs k = some v ∧ Q v (upd H2 a (.dK (dropK kvs k)))
def tDPop2 (K : PySem.W.Frag) (td ty tx : TE) : TE := fun σ H Q => td σ H fun x H1 => ∃ a, x = .ref a ∧ IsD K H1 a ∧ ty σ H1 fun y H2 => tx σ H2 fun z H3 => ∃ kvs k, H3 a = some (.dK kvs) ∧ y = kV k ∧
  (∀ v, valV kvs k = some v → Q v (upd H3 a (.dK (dropK kvs k)))) ∧ (valV kvs k = none → Q z H3)
section
variable {X : Cx} {o e f : Expr} {apos cpos : Pos} {td ty tx : TE}
theorem pe_dget2 (hu : X.A.units + 16 < cLine) (ho : PE X o td) (he : PE X e ty) (hf : PE X f tx) (m : M2 X o "get" apos e f cpos) : PE X (.Call (.Attribute o "get" apos) [e, f] [] cpos) (tDGet2 X.K td ty tx) := by
  intro pins s σ H Q I h
  refine wpAny_Call_method m.base m.few m.line PySem.F.plainAttrs_dict PySem.F.slot_dict_get PySem.F.type_dict_get (thn (ho pins s σ H _ I h) fun u s1 ⟨x, H1, I1, rx, a, ex, d, q1⟩ => ?_)
  subst ex
  obtain rfl : u = Value.ref a := rx
  obtain ⟨t1, t2, _⟩ := isD_at I1 d
  refine ⟨t1, t2, ?_⟩
  rw [m.trees]
  refine Calls.callWith_builtin rfl (Calls.evalArgs_plain (Calls.spliced_cons (thn (he pins s1 σ H1 _ I1 q1) fun iv s2 ⟨y, H2, I2, ry, q2⟩ =>
    Calls.spliced_cons (thn (hf pins s2 σ H2 _ I2 q2) fun fv s3 ⟨z, H3, I3, rz, ov, g, q3⟩ => Calls.spliced_nil ?_))))
  exact d_get2 hu I3 g ry rz fun w' s4 I4 rw' => ⟨_, H3, I4, rw', q3⟩
end

/-! ### dict(d): a copy -/
section
variable {X : Cx} {pins : List (Addr × Obj)} {σ : St} {H : Hp} {s : Shared} {a : Addr} {kvs : List (Key × V)} {A : Around} {E : Value → Shared → Prop}
end


section
variable {X : Cx} {pins : List (Addr × Obj)} {σ : St} {H : Hp} {s : Shared} {a : Addr} {y : V} {u : Value} {A : Around} {E : Value → Shared → Prop}
end
end L2
namespace L2
open PySem PySem.Spec PyProof.Rows
section
variable {X : Cx}
theorem call_lenD : CallR X (.builtin "len") (fun xs H Q => ∃ a kvs, xs = [V.ref a] ∧ H a = some (.dK kvs) ∧ Q (.int kvs.length) H) := by
  intro pins s σ H xs us Q I r h
  obtain ⟨a, kvs, rfl, ha, q⟩ := h
  obtain ⟨u, rfl, ru⟩ := vals1 r
  cases ru
  exact d_len I (.inl ha) fun t s' I' => ⟨.int kvs.length, H, I', ⟨t, rfl⟩, q⟩
end
/-! ### a dict's pairs: keys that differ -/
section
variable {κ : Type} [DecidableEq κ]
end
end L2

set_option Elab.async false
set_option linter.all false
set_option maxRecDepth 100000
set_option maxHeartbeats 4000000
namespace Hd
open PySem PySem.Spec PyProof.Rows L2

/-! ### what is made: the heap behind it a letter, all that was known kept -/
theorem same_new {H : Hp} {p : Addr} (h : H p = none) (o : HO) : Same H (upd H p o) := fun b u q => by
  rw [upd_ne (ne_of_none q h)]
  exact q
section
variable {X : Cx} {e : Expr} {es : List Expr} {pos : Pos}
theorem pe_weak {T T' : TE} (h : PE X e T) (k : ∀ σ H Q, T' σ H Q → T σ H Q) : PE X e T' := fun pins s σ H Q I q => h pins s σ H Q I (k σ H Q q)
def clA (t : TA) : TA := fun σ H Q => ∃ R, t σ H R ∧ ∀ xs H1, R xs H1 → Q xs H1
theorem pa_cl {t : TA} (h : PA X es t) : PA X es (clA t) := fun pos pins s σ H Q I ⟨R, hR, k⟩ => thn (h pos pins s σ H R I hR) fun _ _ ⟨vs, H1, I1, r, q⟩ => ⟨vs, H1, I1, r, k _ _ q⟩
def tTupG (t : TA) : TE := fun σ H Q => t σ H fun xs H1 => xs.length ≤ sizeLine ∧ ∀ p H', Same H1 H' → H' p = some (.tup xs) → Q (.ref p) H'
def tLstG (t : TA) : TE := fun σ H Q => t σ H fun xs H1 => xs.length ≤ sizeLine ∧ ∀ p H', Same H1 H' → H' p = some (.lst xs) → Q (.ref p) H'
theorem pe_tupG {x1} {t : TA} (h : PA X es t) : PE X (.Tuple es x1 pos) (tTupG t) :=
  pe_weak (pe_tup (pa_cl h)) fun _ _ _ q => ⟨_, q, fun _ _ ⟨z, k⟩ => ⟨z, fun p hp => k p _ (same_new hp _) upd_same⟩⟩
def rCatG : R2 := fun x y H Q => ∃ l b xs zs, x = .ref l ∧ y = .ref b ∧ H l = some (.lst xs) ∧ H b = some (.lst zs) ∧ xs.length + zs.length ≤ sizeLine ∧ ∀ p H', Same H H' → H' p = some (.lst (xs ++ zs)) → Q (.ref p) H'
def rSlG (K : PySem.W.Frag) : V → Option Int → Option Int → Hp → VK → Prop := fun x lo hi H Q => ∃ a xs, x = .ref a ∧ SqL K H a xs ∧ ∀ p H', Same H H' → H' p = some (.lst (cutV xs lo hi)) → Q (.ref p) H'
def tDctG : TE := fun _ H Q => ∀ p H', Same H H' → H' p = some (.dK []) → Q (.ref p) H'
end
end Hd

set_option Elab.async false
set_option linter.all false
set_option maxRecDepth 100000
set_option maxHeartbeats 4000000
namespace Hd
open PySem PySem.Spec PyProof.Rows L2

/-! ### list comprehensions -/
/-- the context of a comprehension's block -/
abbrev compCx (X : Cx) (N' : List Str) (scope : Scope) (cl : List (Str × Addr)) (C : Addr) (sE : Shared) (HE : Hp) (fp : List Addr) (pins : List (Addr × Obj)) : Cx :=
  { X with N := N', s₀ := sE, H₀ := HE, env := compEnvC scope cl C X.env, outer := X.stack, ex := fp, fn := fun _ => false, pn := X.pn ++ pins, xe := fun _ _ => False }
/-- the scope of a comprehension (scope) within a def's (sc), the names that it takes from there -/
structure CSc (sc scope : Scope) (caps : List Str) : Prop where
  kind : scope.kind = .function
  nocell : ∀ y ∈ scope.names, y.2 ≠ .cell
  loc : ∀ y ∈ scope.names, y.2 = .local → scope.names.lookup y.1 = some .local
  free : ∀ y ∈ scope.names, y.2 = .free → sc.names.lookup y.1 = some .cell ∨ sc.names.lookup y.1 = some .free
  caps : ∀ x ∈ caps, scope.names.lookup x = some .free ∧ (sc.names.lookup x = some .cell ∨ sc.names.lookup x = some .free)

theorem mem_of_lookup {β : Type} : ∀ {l : List (Str × β)} {x : Str} {k : β}, l.lookup x = some k → (x, k) ∈ l
  | [], _, _, h => by simp at h
  | (n, k') :: r, x, k, h => by
    rw [List.lookup_cons] at h
    split at h
    · rename_i e
      have e' : x = n := by simpa using e
      cases h
      rw [e']
      exact List.mem_cons_self
    · exact List.mem_cons_of_mem _ (mem_of_lookup h)
theorem relabel_free {env : Env} : ∀ {names : List (Str × NameKind)} {x : Str}, names.lookup x = some .free →
    (names.map fun (n, k) => if (k == NameKind.free && env.scope.kind == .function && env.kindOf n == some .cell) then (n, NameKind.cell) else (n, k)).lookup x = some .cell ∨
    (names.map fun (n, k) => if (k == NameKind.free && env.scope.kind == .function && env.kindOf n == some .cell) then (n, NameKind.cell) else (n, k)).lookup x = some .free
  | [], _, h => by simp at h
  | (n, k) :: r, x, h => by
    have ih := @relabel_free env r x
    show List.lookup x ((if (k == NameKind.free && env.scope.kind == .function && env.kindOf n == some .cell) = true then (n, NameKind.cell) else (n, k)) :: _) = _ ∨ List.lookup x ((if (k == NameKind.free && env.scope.kind == .function && env.kindOf n == some .cell) = true then (n, NameKind.cell) else (n, k)) :: _) = _
    cases hx : x == n with
    | true =>
      simp only [List.lookup_cons, hx] at h
      cases h
      by_cases hc : (NameKind.free == NameKind.free && env.scope.kind == .function && env.kindOf n == some .cell) = true
      · rw [if_pos hc]; simp only [List.lookup_cons, hx]; exact .inl trivial
      · rw [if_neg hc]; simp only [List.lookup_cons, hx]; exact .inr trivial
    | false =>
      simp only [List.lookup_cons, hx] at h
      by_cases hc : (k == NameKind.free && env.scope.kind == .function && env.kindOf n == some .cell) = true
      · rw [if_pos hc]; simp only [List.lookup_cons, hx]; exact ih h
      · rw [if_neg hc]; simp only [List.lookup_cons, hx]; exact ih h
theorem of_relabel {env : Env} : ∀ {names : List (Str × NameKind)} {x : Str}, (∀ y ∈ names, y.2 ≠ .cell) →
    ((names.map fun (n, k) => if (k == NameKind.free && env.scope.kind == .function && env.kindOf n == some .cell) then (n, NameKind.cell) else (n, k)).lookup x = some .cell ∨
    (names.map fun (n, k) => if (k == NameKind.free && env.scope.kind == .function && env.kindOf n == some .cell) then (n, NameKind.cell) else (n, k)).lookup x = some .free) → names.lookup x = some .free
  | [], _, _, h => by simp at h
  | (n, k) :: r, x, hn, h => by
    have ih := @of_relabel env r x (fun y hy => hn y (List.mem_cons_of_mem _ hy))
    have h' : List.lookup x ((if (k == NameKind.free && env.scope.kind == .function && env.kindOf n == some .cell) = true then (n, NameKind.cell) else (n, k)) :: _) = some .cell ∨ List.lookup x ((if (k == NameKind.free && env.scope.kind == .function && env.kindOf n == some .cell) = true then (n, NameKind.cell) else (n, k)) :: _) = some .free := h
    have hk : k ≠ .cell := hn (n, k) List.mem_cons_self
    by_cases hc : (k == NameKind.free && env.scope.kind == .function && env.kindOf n == some .cell) = true
    · rw [if_pos hc] at h'
      have kf : k = .free := by
        simp only [Bool.and_eq_true, beq_iff_eq] at hc
        exact hc.1.1
      subst kf
      cases hx : x == n with
      | true => simp only [List.lookup_cons, hx]
      | false =>
        simp only [List.lookup_cons, hx] at h' ⊢
        exact ih h'
    · rw [if_neg hc] at h'
      cases hx : x == n with
      | true =>
        simp only [List.lookup_cons, hx] at h' ⊢
        rcases h' with z | z
        · exact absurd (Option.some.inj z) hk
        · exact z
      | false =>
        simp only [List.lookup_cons, hx] at h' ⊢
        exact ih h'

theorem closure_go {env : Env} : ∀ (names : List (Str × NameKind)) (acc : List (Str × Addr)), (∀ y ∈ names, y.2 = .free → ∃ c, env.cells.lookup y.1 = some c) →
    ∃ cl, (forIn names acc fun (y : Str × NameKind) (cs : List (Str × Addr)) => (if y.2 == .free then do let c ← cellOf env y.1; pure (ForInStep.yield ((y.1, c) :: cs)) else pure (ForInStep.yield cs) : Sem (ForInStep (List (Str × Addr))))) = pure cl ∧
      (∀ x c, cl.lookup x = some c → acc.lookup x = some c ∨ env.cells.lookup x = some c) ∧ (∀ x c, acc.lookup x = some c → ∃ c', cl.lookup x = some c') ∧ ∀ y ∈ names, y.2 = .free → ∃ c, cl.lookup y.1 = some c
  | [], acc, _ => ⟨acc, rfl, fun _ _ e => .inl e, fun _ c e => ⟨c, e⟩, fun _ z => nomatch z⟩
  | (n, k) :: r, acc, h => by
    have hr : ∀ y ∈ r, y.2 = .free → ∃ c, env.cells.lookup y.1 = some c := fun y hy => h y (List.mem_cons_of_mem _ hy)
    by_cases hk : (k == NameKind.free) = true
    · obtain ⟨c, hc⟩ := h (n, k) List.mem_cons_self (by simpa using hk)
      obtain ⟨cl, e, h1, h2, h3⟩ := closure_go r ((n, c) :: acc) hr
      refine ⟨cl, ?_, fun x d q => ?_, fun x d q => ?_, fun y hy q => ?_⟩
      · have ec : cellOf env n = pure c := by unfold cellOf; rw [show env.cells.lookup n = some c from hc]
        rw [List.forIn_cons]
        simp only [hk, if_true, ec, pure_bind]
        exact e
      · rcases h1 x d q with z | z
        · rw [List.lookup_cons] at z
          split at z
          · rename_i e1
            have e1' : x = n := by simpa using e1
            cases z
            rw [e1']
            exact .inr hc
          · exact .inl z
        · exact .inr z
      · by_cases e1 : (x == n) = true
        · exact h2 x c (by rw [List.lookup_cons, e1])
        · exact h2 x d (by rw [List.lookup_cons]; simp only [Bool.not_eq_true] at e1; rw [e1]; exact q)
      · rcases List.mem_cons.mp hy with z | z
        · subst z
          exact h2 n c (by rw [List.lookup_cons]; simp)
        · exact h3 y z q
    · obtain ⟨cl, e, h1, h2, h3⟩ := closure_go r acc hr
      refine ⟨cl, ?_, h1, h2, fun y hy q => ?_⟩
      · rw [List.forIn_cons]
        simp only [hk, if_false, pure_bind, Bool.false_eq_true]
        exact e
      · rcases List.mem_cons.mp hy with z | z
        · subst z
          exact absurd (show (k == NameKind.free) = true by simpa using q) hk
        · exact h3 y z q
theorem closure_for {scope : Scope} {env : Env} (h : ∀ y ∈ scope.names, y.2 = .free → ∃ c, env.cells.lookup y.1 = some c) :
    ∃ cl, closureFor scope env = pure cl ∧ (∀ x c, cl.lookup x = some c → env.cells.lookup x = some c) ∧ ∀ y ∈ scope.names, y.2 = .free → ∃ c, cl.lookup y.1 = some c := by
  obtain ⟨cl, e, h1, _, h3⟩ := closure_go scope.names [] h
  refine ⟨cl, ?_, fun x c q => (h1 x c q).elim (fun z => by simp at z) id, h3⟩
  unfold closureFor
  simp only [bind_pure]
  refine Eq.trans ?_ e
  rfl

section
variable {X : Cx} {pins : List (Addr × Obj)} {σ : St} {HE : Hp} {sE : Shared} {N' : List Str} {scope sc : Scope} {cl : List (Str × Addr)} {fp : List Addr} {caps : List Str}
theorem comp_ok (I : Inv X pins σ HE sE) (S : CSc sc scope caps) (hfp : ∀ b ∈ fp, FpOk X pins HE b ∧ b < sE.heap.objs.size)
    (hc1 : ∀ x c, cl.lookup x = some c → X.env.cells.lookup x = some c) (hc2 : ∀ y ∈ scope.names, y.2 = .free → ∃ c, cl.lookup y.1 = some c) :
    (compCx X N' scope cl sE.heap.objs.size sE HE fp pins).Ok where
  mod := I.ok.mod
  kind := S.kind
  glob := I.ok.glob
  blt := I.ok.blt
  above := Nat.le_refl _
  inj := fun x y c h1 h2 => I.ok.inj x y c (hc1 x c h1) (hc1 y c h2)
  has := fun x h => hc2 (x, .free) (mem_of_lookup (of_relabel S.nocell h)) rfl
  cab := fun x c h => nomatch h
  hd := I.ok.hd
  frames := I.ok.frames
  stk := .inl rfl
  exf := fun b hb => ⟨Nat.ne_of_lt (hfp b hb).2, fun x c h => (hfp b hb).1.2.2.2.2.1 x c (hc1 x c h)⟩
  bs := I.bs
  bsz := Nat.le_trans I.ok.bsz I.sz
  noex := fun b o e hb => by
    rcases (hfp b hb).1.2.2.2.1 with z | z
    · exact I.ok.noex b o e z
    · exact absurd (Nat.lt_of_lt_of_le (Heap.lt_size e) (Nat.le_trans I.ok.bsz z)) (Nat.lt_irrefl _)
  exfs := fun b hb hz => by
    rcases List.mem_cons.mp (I.stkSub b hz) with z | z
    · exact (hfp b hb).1.2.1 z
    · exact (hfp b hb).1.2.2.1 z
  funs := I.stack
  frf := I.stkFree
/-- what the block knows at its start: its own names nothing, the taken ones what they are outside -/
theorem comp_inv {k : Nat} {cap : List Nat} {h' : Heap} (I : Inv X pins σ HE sE) (S : CSc sc scope caps) (hsc : X.env.scope = sc) (hfp : ∀ b ∈ fp, FpOk X pins HE b ∧ b < sE.heap.objs.size)
    (hc1 : ∀ x c, cl.lookup x = some c → X.env.cells.lookup x = some c) (hc2 : ∀ y ∈ scope.names, y.2 = .free → ∃ c, cl.lookup y.1 = some c)
    (hN : N'.drop k = caps) (hk : k ≤ N'.length) (hcap : Paired (fun j x => X.N[j]? = some x) cap caps) {m : Str → Option Value}
    (kp : ∀ b o, sE.heap.get? b = some o → h'.get? b = some o) (hns : h'.Ns sE.heap.objs.size m) (tk : Nat) :
    Inv (compCx X N' scope cl sE.heap.objs.size sE HE fp pins) [] (List.replicate k none ++ cap.map fun j => (σ[j]?).join) HE { sE with heap := h', toks := tk } where
  ok := comp_ok I S hfp hc1 hc2
  os := rfl
  bare := I.bare
  base := Un.kept kp
  loc := by
    refine ⟨m, hns, fun i x v e1 e2 e3 => ?_⟩
    have hik : k ≤ i := by
      by_cases z : k ≤ i
      · exact z
      · rw [List.getElem?_append_left (by simp; omega), List.getElem?_replicate] at e2
        rw [if_pos (by omega)] at e2
        cases e2
    obtain ⟨j', rfl⟩ : ∃ j', i = k + j' := ⟨i - k, by omega⟩
    rw [List.getElem?_append_right (by simp), List.length_replicate, Nat.add_sub_cancel_left, List.getElem?_map] at e2
    have hx : caps[j']? = some x := by rw [← hN, List.getElem?_drop]; exact e1
    have : ∀ {l : List Nat} {l' : List Str} {i : Nat}, Paired (fun j x => X.N[j]? = some x) l l' → l'[i]? = some x → ∃ j, l[i]? = some j ∧ X.N[j]? = some x := by
      intro l l' i p
      induction p generalizing i with
      | nil => intro z; simp at z
      | cons a _ ih =>
        intro z
        cases i with
        | zero => simp at z; subst z; exact ⟨_, rfl, a⟩
        | succ i => exact ih (by simpa using z)
    obtain ⟨j, hj, hNj⟩ := this hcap hx
    rw [hj] at e2
    have e2' : σ[j]? = some (some v) := by
      cases q : σ[j]? with
      | none => rw [Option.map_some, q] at e2; cases e2
      | some o =>
        rw [Option.map_some, q] at e2
        have : o = some v := Option.some.inj e2
        rw [this]
    obtain ⟨hxf, hxo⟩ := S.caps x (List.mem_of_getElem? hx)
    rw [← hsc] at hxo
    obtain ⟨m0, _, hl⟩ := I.loc
    obtain ⟨u, r, L⟩ := hl j x v hNj e2' (hxo.elim (fun z => .inr (.inl z)) fun z => .inr (.inr z))
    refine ⟨u, r, .inr ⟨relabel_free hxf, ?_⟩⟩
    rcases L with ⟨z, _⟩ | ⟨_, c, hc, hcell⟩
    · have z' : X.env.scope.names.lookup x = some .local := z
      rcases hxo with q | q <;> rw [z'] at q <;> cases q
    · obtain ⟨c', hc'⟩ := hc2 (x, .free) (mem_of_lookup hxf) rfl
      have e := hc1 x c' hc'
      rw [hc] at e
      cases e
      obtain ⟨o, ho, hd⟩ := hcell
      exact ⟨c, hc', o, kp c o ho, hd⟩
  cell := fun x c e => by
    obtain ⟨v, o, ho, hd⟩ := I.cell x c (hc1 x c e)
    exact ⟨v, o, kp c o ho, hd⟩
  free := I.hok.fresh (Nat.le_refl _)
  freeC := fun x c e => I.freeC x c (hc1 x c e)
  pin := fun p hp => by
    rw [List.append_nil] at hp
    obtain ⟨e, n, ne, nf, d⟩ := I.pin p hp
    refine ⟨kp _ _ e, n, Nat.ne_of_lt (Heap.lt_size e), fun z => ?_, d⟩
    rcases List.mem_cons.mp (I.stkSub p.1 z) with q | q
    · exact ne q
    · exact nf q
  hok := I.hok.kept kp
  len := by
    show (List.replicate k none ++ cap.map fun j => (σ[j]?).join).length = N'.length
    have := hcap.length
    rw [← hN, List.length_drop] at this
    simp
    omega
/-- behind the block -/
theorem comp_back {σ' : St} {H' : Hp} {s' : Shared} {p' : List (Addr × Obj)} (I : Inv X pins σ HE sE) (hfp : ∀ b ∈ fp, FpOk X pins HE b ∧ b < sE.heap.objs.size)
    (I' : Inv (compCx X N' scope cl sE.heap.objs.size sE HE fp pins) p' σ' H' s') : Inv X pins σ H' s' :=
  I.call' (ch := fp) I'.os I'.base I'.hok I'.bare fun b hb => ⟨(hfp b hb).1.2.2.2.1, (hfp b hb).1.2.1, (hfp b hb).1.2.2.2.2.1, (hfp b hb).1.2.2.2.2.2⟩
end
/-- the names of the block are let go -/
theorem comp_let {X : Cx} {pins : List (Addr × Obj)} {σ σ' : St} {HE H' : Hp} {sE s' : Shared} {h' : Heap} (I : Inv X pins σ HE sE) (I' : Inv X pins σ' H' s') (hn : H' sE.heap.objs.size = none)
    (hs : Heap.SameBut sE.heap.objs.size s'.heap h') : Inv X pins σ' H' { s' with heap := h' } := by
  refine I'.turned (t' := s'.toks) (fun b o hb e => (hs.2 b hb).trans e) hn (Nat.ne_of_gt I.lt) (.inr I.sz) (fun x c e z => ?_) (fun p hp z => ?_)
  · obtain ⟨v, q⟩ := I.cell x c e
    exact absurd q.lt (by rw [z]; exact Nat.lt_irrefl _)
  · exact absurd (Heap.lt_size (I.pin p hp).1) (by rw [z]; exact Nat.lt_irrefl _)

/-- the tests of a comprehension -/
def PIfs (X : Cx) (ifs : List Expr) (t : TT) : Prop :=
  ∀ (pins : List (Addr × Obj)) (s : Shared) (σ : St) (H : Hp) (Q : Bool → Hp → Prop), Inv X pins σ H s → t σ H Q →
    wpAny (model X.prog X.w) X.A (forIn ifs true fun c r => if r = true then do let ok ← isTrue c X.env (eval c X.env); pure (ForInStep.yield ok) else pure (ForInStep.yield r)) (TP X pins σ Q) X.xe s
def tAll : TT := fun _ H Q => Q true H
theorem ifs_nil {X : Cx} : PIfs X [] tAll := fun _ _ _ H _ I q => wpAny_tests_nil ⟨H, I, q⟩
/-- the state of the block ahead of a turn: k names of its own, then the taken ones -/
def cSt (k : Nat) (cap : List Nat) (σ : St) : St := List.replicate k none ++ cap.map fun j => (σ[j]?).join
/-- what a comprehension over J, its list at l, wants: W is the invariant by the turn, a measure and what was gathered -/
def CompW (J : It) (k : Nat) (cap : List Nat) (g : TG) (tt : TT) (te : TE) (σ : St) (H1 : Hp) (l : Addr) (Q : VK) : Prop :=
  ∃ W : Nat → Nat → List V → Hp → Prop, (∃ m, W 0 m [] (upd H1 l (.lst []))) ∧ ∀ i m ys H, W i m ys H →
    (J.stop i H ∧ Q (.ref l) H) ∨ (J.go i H ∧ ∀ x H', J.yld i H x H' → g x (cSt k cap σ) H' fun σ2 H3 => σ2.drop k = (cSt k cap σ).drop k ∧ tt σ2 H3 fun b H4 =>
      if b = true then te σ2 H4 fun y H5 => H5 l = some (.lst ys) ∧ ys.length < sizeLine ∧ ∃ m', m' < m ∧ W (i + 1) m' (ys ++ [y]) (upd H5 l (.lst (ys ++ [y])))
      else ∃ m', m' < m ∧ W (i + 1) m' ys H4)
/-- [elt for tg in iter if ..] -/
def tComp (k : Nat) (cap : List Nat) (wi : TI) (g : TG) (tt : TT) (te : TE) : TE := fun σ H Q => wi σ H fun J H1 => ∀ l, H1 l = none → CompW J k cap g tt te σ H1 l Q

section
variable {X : Cx} {tg iter elt : Expr} {ifs : List Expr} {sc scope : Scope} {caps N' : List Str} {cap : List Nat} {k : Nat} {wi : TI} {g : TG} {tt : TT} {te : TE} {pos : Pos}
theorem comp_run {pins : List (Addr × Obj)} {s : Shared} {σ : St} {H : Hp} {Q : VK} (hcalm : X.calm = true) (S : CSc sc scope caps) (hsc : X.env.scope = sc) (hN : N'.drop k = caps) (hk : k ≤ N'.length) (hcap : Paired (fun j x => X.N[j]? = some x) cap caps)
    (hi : PI X tg iter wi) (hg : ∀ cl C sE HE fp pins, PG (compCx X N' scope cl C sE HE fp pins) tg g) (ht : ∀ cl C sE HE fp pins, PIfs (compCx X N' scope cl C sE HE fp pins) ifs tt) (he : ∀ cl C sE HE fp pins, PE (compCx X N' scope cl C sE HE fp pins) elt te)
    (I : Inv X pins σ H s) (h : tComp k cap wi g tt te σ H Q) {cl : List (Str × Addr)} (hc1 : ∀ x c, cl.lookup x = some c → X.env.cells.lookup x = some c) (hc2 : ∀ y ∈ scope.names, y.2 = .free → ∃ c, cl.lookup y.1 = some c)
    {RR : Value → Addr → Result → Shared → Prop}
    (hRR : ∀ l sE HE H' s' m, Inv X pins σ HE sE → Inv X pins σ H' s' → H' sE.heap.objs.size = none → s'.heap.Ns sE.heap.objs.size m → Q (.ref l) H' → RR (.ref l) sE.heap.objs.size (.ok .next) s') :
    wpAny (model X.prog X.w) X.A (eval iter X.env) (fun xv s₁ => wpAny (model X.prog X.w) X.A (pyIter xv) (fun it s₂ => wpAny (model X.prog X.w) X.A (newList []) (fun acc s₃ =>
      wpAny (model X.prog X.w) X.A (newFunctionEnv scope X.env.globals cl [] X.env.qual none .none (some X.env)) (fun cenv s₄ =>
        codeAny (model X.prog X.w) X.A (.compStart (.ListComp elt [⟨tg, iter, ifs, 0⟩] scope pos) 0 it acc { cenv with scope := relabel scope X.env }) (RR acc cenv.locals) s₄) X.xe s₃) X.xe s₂) X.xe s₁) X.xe s := by
  refine thn (hi pins s σ H _ I h) fun v s1 h1 => thn h1 fun itv s2 h2 => ?_
  obtain ⟨it, fp, tn, J, H1, e, I1, T, st1, f1, q1⟩ := h2
  subst e
  refine wpAny_newList ?_
  have hfree : H1 s2.heap.objs.size = none := I1.hok.fresh (Nat.le_refl _)
  have fpl : ∀ b ∈ fp, b < s2.heap.objs.size := fun b hb => by
    obtain ⟨o, e, _⟩ := T.obj _ _ st1 b hb
    exact Heap.lt_size e
  generalize hE : ({ s2 with heap := s2.heap.push { cls := .type "list", data := .seq ([] : List Value).toArray } } : Shared) = sE
  have k2 : ∀ b o, s2.heap.get? b = some o → sE.heap.get? b = some o := fun b o e => by rw [← hE]; exact Heap.get?_push_of_some _ e
  have szE : s2.heap.objs.size < sE.heap.objs.size := by rw [← hE]; show _ < (s2.heap.push _).objs.size; rw [Heap.size_push]; exact Nat.lt_succ_self _
  have IE : Inv X pins σ (upd H1 s2.heap.objs.size (.lst [])) sE := by
    rw [← hE]
    refine I1.laid (t' := s2.toks) (fun b o e => Heap.get?_push_of_some _ e) (Nat.le_refl _) ?_
    exact ⟨Nat.zero_le _, [], 0, .nil, Heap.get?_push_size _ rfl⟩
  have fE : ∀ b ∈ fp, FpOk X pins (upd H1 s2.heap.objs.size (.lst [])) b ∧ b < sE.heap.objs.size := fun b hb =>
    ⟨⟨by rw [upd_ne (Nat.ne_of_lt (fpl b hb))]; exact (f1 b hb).1, (f1 b hb).2⟩, Nat.lt_trans (fpl b hb) szE⟩
  obtain ⟨W, ⟨m0, w0⟩, turn⟩ := q1 _ hfree
  generalize hl : s2.heap.objs.size = l at *
  clear hl
  generalize hHE : upd H1 l (.lst []) = HE at *
  refine wpAny_newFunctionEnv S.nocell (by intro y hy; simp at hy) (fun h₁ hns₁ hsb₁ => ?_) S.kind
  have kE : ∀ b o, sE.heap.get? b = some o → h₁.get? b = some o := fun b o e => (hsb₁.2 b (Nat.ne_of_lt (Heap.lt_size e))).trans (Heap.get?_push_of_some _ e)
  have I0 := comp_inv (k := k) (cap := cap) (N' := N') IE S hsc fE hc1 hc2 hN hk hcap kE hns₁ (sE.toks + ([] : List (Str × Value)).length)
  have st0 : tn 0 h₁ := T.keep _ _ _ st1 fun b hb o e => kE b o (k2 b o e)
  have hX : ∀ {H' : Hp}, (∀ b ∈ fp, H' b = none) → ∀ b ∈ fp, FpOk (compCx X N' scope cl sE.heap.objs.size sE HE fp pins) [] H' b := fun hn b hb =>
    ⟨hn b hb, (I0.ok.exf b hb).1, I0.ok.exfs b hb, .inl hb, (I0.ok.exf b hb).2, fun p hp => by
      rw [List.append_nil] at hp
      exact (fE b hb).1.2.2.2.2.2 p hp⟩
  have loop : ∀ s₃ : Shared, s₃ = { sE with heap := h₁, toks := sE.toks + ([] : List (Str × Value)).length } →
      codeAny (model X.prog X.w) X.A (.compLoop (.ListComp elt [⟨tg, iter, ifs, 0⟩] scope pos) 0 (.ref it) (.ref l) (compEnvC scope cl sE.heap.objs.size X.env)) (RR (.ref l) sE.heap.objs.size) s₃ := by
    rintro s₃ rfl
    refine codeAny_loop rfl (fun n s' => ∃ i ys H', Inv (compCx X N' scope cl sE.heap.objs.size sE HE fp pins) [] (cSt k cap σ) H' s' ∧ tn i s'.heap ∧ (∀ b ∈ fp, H' b = none) ∧ W i n ys H') (fun n s3 hI => ?_) m0
      ⟨0, [], HE, I0, st0, fun b hb => (fE b hb).1.1, w0⟩
    obtain ⟨i, ys, H3, I3, st3, fr3, w3⟩ := hI
    show wpAny _ X.A ((compTurn (.ListComp elt [⟨tg, iter, ifs, 0⟩] scope pos) 0 (.ref it) (.ref l) (compEnvC scope cl sE.heap.objs.size X.env)).onRaise (fun x => do noteFrame x (compEnvC scope cl sE.heap.objs.size X.env); theTreesLotGoes x)) _ _ s3
    refine wpAny_noted ?_
    rw [compTurn_list]
    refine wpAny_bind (wpAny_standAt (wpAny_bind ?_))
    rcases turn i n ys H3 w3 with ⟨stop, qn⟩ | ⟨go, step⟩
    · refine wpAny_mono (T.done (compCx X N' scope cl sE.heap.objs.size sE HE fp pins) rfl rfl rfl hcalm i [] s3 _ H3 (fun _ _ => False) I3 (hX fr3) st3 stop) (fun r s4 ⟨hr, I4⟩ => ?_) fun _ _ z => z.elim
      subst hr
      obtain ⟨m4, hn4, _⟩ := I4.loc
      exact wpAny_pure (hRR l sE HE H3 s4 m4 IE (comp_back IE fE I4) I4.free hn4 qn)
    · refine wpAny_mono (T.item (compCx X N' scope cl sE.heap.objs.size sE HE fp pins) rfl rfl rfl hcalm i [] s3 _ H3 (fun _ _ => False) I3 (hX fr3) st3 go) (fun r s4 ⟨u, hr, h4⟩ => ?_) fun _ _ z => z.elim
      subst hr
      refine wpAny_bind (wpAny_mono h4 (fun _ s5 ⟨x, H5, I5, r5, y5, st5, fr5⟩ => ?_) fun _ _ z => z.elim)
      have I5' := I5.pinned (hX fr5) (T.obj _ _ st5)
      refine wpAny_bind (wpAny_mono (hg _ _ _ _ _ _ _ s5 _ H5 x u _ I5' r5 (step x H5 y5)) (fun _ s6 ⟨σ6, H6, I6, q6⟩ => ?_) fun _ _ z => z.elim)
      obtain ⟨d6, q6⟩ := q6
      have weak : ∀ {H7 s7}, Inv (compCx X N' scope cl sE.heap.objs.size sE HE fp pins) ([] ++ pinsAt fp s5.heap) σ6 H7 s7 → Inv (compCx X N' scope cl sE.heap.objs.size sE HE fp pins) ([] ++ pinsAt fp s5.heap) (cSt k cap σ) H7 s7 := fun {H7 s7} I7 => by
        refine I7.weak (I0.len.trans I7.len.symm) fun j v e => ?_
        by_cases z : k ≤ j
        · obtain ⟨j', rfl⟩ : ∃ j', j = k + j' := ⟨j - k, by omega⟩
          rw [← List.getElem?_drop] at e ⊢
          rw [d6]
          exact e
        · unfold cSt at e
          rw [List.getElem?_append_left (by simp; omega), List.getElem?_replicate, if_pos (by omega)] at e
          cases e
      have again : ∀ {H7 : Hp} {s7 : Shared} {zs : List V}, Inv (compCx X N' scope cl sE.heap.objs.size sE HE fp pins) ([] ++ pinsAt fp s5.heap) σ6 H7 s7 → (∃ m', m' < n ∧ W (i + 1) m' zs H7) →
          ∃ m, m < n ∧ ∃ i ys H', Inv (compCx X N' scope cl sE.heap.objs.size sE HE fp pins) [] (cSt k cap σ) H' s7 ∧ tn i s7.heap ∧ (∀ b ∈ fp, H' b = none) ∧ W i m ys H' := fun {H7 s7 zs} I7 ⟨m', hm, w7⟩ => by
        refine ⟨m', hm, i + 1, zs, H7, (weak I7).unpinned, T.keep _ _ _ st5 fun b hb o e => (I7.pin (b, o) (List.mem_append_right _ (List.mem_append_right _ (mem_pinsAt hb e)))).1, fun b hb => ?_, w7⟩
        obtain ⟨o, e, d⟩ := T.obj _ _ st5 b hb
        exact (I7.pin (b, o) (List.mem_append_right _ (List.mem_append_right _ (mem_pinsAt hb e)))).2.1
      refine wpAny_bind (wpAny_mono (ht _ _ _ _ _ _ _ s6 σ6 H6 _ I6 q6) (fun b s7 ⟨H7, I7, q7⟩ => ?_) fun _ _ z => z.elim)
      cases b with
      | false =>
        rw [if_neg Bool.false_ne_true] at q7
        exact wpAny_pure ⟨rfl, again I7 q7⟩
      | true =>
        rw [if_pos rfl] at q7
        refine wpAny_bind (wpAny_bind (wpAny_mono (he _ _ _ _ _ _ _ s7 σ6 H7 _ I7 q7) (fun yv s8 ⟨y, H8, I8, r8, hl8, hz8, q8⟩ => ?_) fun _ _ z => z.elim))
        refine wpAny_bind (wpAny_mono (mt_append (X := compCx X N' scope cl sE.heap.objs.size sE HE fp pins) _ s8 σ6 H8 (.ref l) [y] (.ref l) [yv] (fun _ H9 => H9 = upd H8 l (.lst (ys ++ [y]))) I8 rfl (.cons r8 .nil) ⟨l, ys, y, rfl, rfl, hl8, hz8, rfl⟩)
          (fun _ s9 ⟨_, H9, I9, _, e9⟩ => ?_) fun _ _ z => z.elim)
        subst e9
        exact wpAny_pure (wpAny_pure ⟨rfl, again I9 q8⟩)
  exact codeAny_compStart_list (loop _ rfl) (T.self _ 0 _ _ _ st0 (loop _ rfl))
theorem pe_comp (sc : Scope) (N' caps : List Str) (k : Nat) (cap : List Nat) (hcalm : X.calm = true) (S : CSc sc scope caps) (hcap : Paired (fun j x => X.N[j]? = some x) cap caps)
    (hi : PI X tg iter wi) (hg : ∀ cl C sE HE fp pins, PG (compCx X N' scope cl C sE HE fp pins) tg g) (ht : ∀ cl C sE HE fp pins, PIfs (compCx X N' scope cl C sE HE fp pins) ifs tt) (he : ∀ cl C sE HE fp pins, PE (compCx X N' scope cl C sE HE fp pins) elt te)
    (hsc : X.env.scope = sc := by rfl) (hN : N'.drop k = caps := by rfl) (hk : k ≤ N'.length := by decide) (hs : ∀ x, foldedSetIterable iter X.env x = pure x := by intro _; rfl) :
    PE X (.ListComp elt [⟨tg, iter, ifs, 0⟩] scope pos) (tComp k cap wi g tt te) := by
  intro pins s σ H Q I h
  obtain ⟨cl, hcl, hc1, hc2⟩ := closure_for (scope := scope) (env := X.env) fun y hy e => I.ok.has y.1 (by
    have z := S.free y hy e
    rw [← hsc] at z
    exact z)
  rw [eval_ListComp]
  refine wpAny_comprehension_free (use := none) rfl hs hcl S.kind S.loc (comp_run (RR := fun acc C => compPost (model X.prog X.w) X.A X.xe none (EP X pins σ Q) acc C) hcalm S hsc hN hk hcap hi hg ht he I h hc1 hc2 ?_)
  intro l sE HE H' s' m IE I' hn hns q
  exact ⟨m, hns, fun h' hs' => ⟨.ref l, H', comp_let IE I' hn hs', rfl, q⟩⟩
/-- y = [..]: stored ahead of the block's end -/
theorem ps_setComp {i : Nat} {y : Str} {py spos : Pos} (sc : Scope) (N' caps : List Str) (k : Nat) (cap : List Nat) (hnd : X.N.Nodup) (hi' : X.N[i]? = some y) (hy : Loc X.env.scope y) (hcalm : X.calm = true) (S : CSc sc scope caps) (hcap : Paired (fun j x => X.N[j]? = some x) cap caps)
    (hi : PI X tg iter wi) (hg : ∀ cl C sE HE fp pins, PG (compCx X N' scope cl C sE HE fp pins) tg g) (ht : ∀ cl C sE HE fp pins, PIfs (compCx X N' scope cl C sE HE fp pins) ifs tt) (he : ∀ cl C sE HE fp pins, PE (compCx X N' scope cl C sE HE fp pins) elt te)
    (hsw : swapsWith (.ListComp elt [⟨tg, iter, ifs, 0⟩] scope pos) (some (.Name y py)) spos.line X.env = pure true := by rfl)
    (hsc : X.env.scope = sc := by rfl) (hN : N'.drop k = caps := by rfl) (hk : k ≤ N'.length := by decide) (hs : ∀ x, foldedSetIterable iter X.env x = pure x := by intro _; rfl)
    (hf : X.fn y = true ∨ X.env.scope.names.lookup y = some .local := by first | exact .inl rfl | exact .inr rfl | assumption) :
    PS X (.Assign [.Name y py] (.ListComp elt [⟨tg, iter, ifs, 0⟩] scope pos) spos) (tAsg (tComp k cap wi g tt te) (gName i)) := by
  intro pins s σ H D I h
  obtain ⟨cl, hcl, hc1, hc2⟩ := closure_for (scope := scope) (env := X.env) fun y hy e => I.ok.has y.1 (by
    have z := S.free y hy e
    rw [← hsc] at z
    exact z)
  rw [exec_Assign_Name_used _ _ _ _ hsw]
  refine wpAny_bind (wpAny_standAt (wpAny_bind ?_))
  show wpAny _ X.A (do let _ ← comprehension (.ListComp elt [⟨tg, iter, ifs, 0⟩] scope pos) scope X.env _ (newList []) false (eval iter X.env) (some (assign (.Name y py) X.env))) _ _ s
  refine wpAny_bind (wpAny_mono (wpAny_comprehension_free (use := some (assign (.Name y py) X.env)) (Q := fun _ s' => SP X pins D .next s') rfl hs hcl S.kind S.loc
    (comp_run (RR := fun acc C => compPost (model X.prog X.w) X.A X.xe (some (assign (.Name y py) X.env)) (fun _ s' => SP X pins D .next s') acc C) hcalm S hsc hN hk hcap hi hg ht he I h hc1 hc2 ?_)) (fun _ s' hq => wpAny_pure (wpAny_pure hq)) fun _ _ e => e)
  intro l sE HE H' s' m IE I' hn hns q
  show wpAny _ X.A (assign (.Name y py) X.env (.ref l)) _ _ _
  refine wpAny_assign_Name (store_ok2 I' hnd hi' hy (v := .ref l) rfl (fun s2 I2 hb => ?_) hf)
  obtain ⟨a, hsb, ha⟩ := hb
  have hne : sE.heap.objs.size ≠ a := fun z => by
    rcases ha with e | e
    · exact absurd IE.lt (by rw [← e, ← z]; exact Nat.lt_irrefl _)
    · obtain ⟨v, q⟩ := IE.cell y a e
      exact absurd q.lt (by rw [z]; exact Nat.lt_irrefl _)
  exact ⟨m, hns.sameBut hsb hne, fun h' hs' => ⟨_, H', comp_let IE I2 hn hs', q⟩⟩
end
end Hd

set_option Elab.async false
set_option linter.all false
set_option maxRecDepth 100000
set_option maxHeartbeats 4000000
namespace Hd
open PySem PySem.Spec PyProof.Rows L2

/-! ### isinstance, also of the module's own tuples and lists -/
inductive TyK (K : PySem.W.Frag) (H : Hp) : V → Value → Prop where
  | of {v : V} {t : Value} : TyOf K H v t → TyK K H v t
  | tup {a : Addr} {xs : List V} : SqT K H a xs → TyK K H (.ref a) (.type "tuple")
  | lst {a : Addr} {xs : List V} : SqL K H a xs → TyK K H (.ref a) (.type "list")
section
variable {X : Cx}
def rIsiK (K : PySem.W.Frag) : List V → Hp → VK → Prop := fun xs H Q => ∃ x c t cv b, xs = [x, c] ∧ clsV c = some cv ∧ TyK K H x t ∧ PySem.W.kitOne K t cv = some b ∧ Q (.bl b) H
theorem call_isiK : CallR X (.builtin "isinstance") (rIsiK X.K) := by
  intro pins s σ H xs us Q I r h
  obtain ⟨x, c, t, cv, b, rfl, rc, ty, e, q⟩ := h
  obtain ⟨u, w', rfl, ru, rw'⟩ := vals2 r
  have z := clsV_rel rc rw'
  subst z
  cases ty with
  | of ty => exact isinst_ok I ru ty e fun tk => ⟨.bl b, H, I.tok _, rfl, q⟩
  | @tup a xs hs =>
    cases (show u = Value.ref a from ru)
    obtain ⟨its, _, ⟨o, h1, h2, _⟩, _⟩ := I.tuple hs
    exact PySem.W.kia_one PySem.W.kitx_tuple I.kIn ⟨o, h1, h2⟩ e (fun z => nomatch z) fun tk => ⟨.bl b, H, I.tok _, rfl, q⟩
  | @lst a xs hs =>
    cases (show u = Value.ref a from ru)
    obtain ⟨its, _, ⟨o, n, h1, h2, _⟩, _⟩ := I.list hs
    exact PySem.W.kia_one PySem.W.kitx_list I.kIn ⟨o, h1, h2⟩ e (fun z => nomatch z) fun tk => ⟨.bl b, H, I.tok _, rfl, q⟩
/-- xs[::-1] -/
def tRevS (K : PySem.W.Frag) (te t3 : TE) : TE := fun σ H Q => te σ H fun x H1 => t3 σ H1 fun y H2 => ∃ a xs, x = .ref a ∧ SqL K H2 a xs ∧ y = .int (-1) ∧ ∀ p H', Same H2 H' → H' p = some (.lst xs.reverse) → Q (.ref p) H'
theorem Vals.reverse : ∀ {xs : List V} {us : List Value}, Vals xs us → Vals xs.reverse us.reverse
  | _, _, .nil => .nil
  | _, _, .cons r t => by rw [List.reverse_cons, List.reverse_cons]; exact L2.Vals.append (Vals.reverse t) (.cons r .nil)
end
/-! ### sequences stay -/
theorem Rd.mono {H H' : Hp} {a : Addr} {u : HO} (h : Rd H a u) (g : Same H H') : Rd H' a u := h.elim (fun e => .inl (g _ _ e)) fun ⟨o, e⟩ => .inr ⟨o, g _ _ e⟩
/-- all but what stands at l is kept -/
def SameBut (l : Addr) (H H' : Hp) : Prop := ∀ b u, b ≠ l → H b = some u → H' b = some u
theorem sb_of {l : Addr} {H H' : Hp} (g : Same H H') : SameBut l H H' := fun b u _ e => g b u e
theorem sb_upd {l : Addr} {H : Hp} {o : HO} : SameBut l H (upd H l o) := fun b u n e => by rw [upd_ne n]; exact e
theorem SameBut.trans {l : Addr} {H H1 H2 : Hp} (a : SameBut l H H1) (b : SameBut l H1 H2) : SameBut l H H2 := fun c u n e => b c u n (a c u n e)
theorem sb_same {l : Addr} {H H' : Hp} (g : SameBut l H H') (n : H l = none) : Same H H' := fun b u e => g b u (fun z => by rw [z, n] at e; cases e) e
/-! ### a comprehension that only makes: what is gathered is described by R -/
/-- ahead of turn i: ys gathered, all that was known at the start is kept -/
def CW (n : Nat) (l : Addr) (H1 : Hp) (R : Nat → List V → Hp → Prop) : Nat → Nat → List V → Hp → Prop := fun i m ys H => m = n - i ∧ i ≤ n ∧ ys.length = i ∧ Same H1 H ∧ H l = some (.lst ys) ∧ R i ys H
/-- what a turn is to reach -/
def CN (n : Nat) (l : Addr) (H1 : Hp) (R : Nat → List V → Hp → Prop) (i : Nat) (ys : List V) : VK := fun y H5 => H5 l = some (.lst ys) ∧ ys.length < sizeLine ∧ ∃ m', m' < n - i ∧ CW n l H1 R (i + 1) m' (ys ++ [y]) (upd H5 l (.lst (ys ++ [y])))
section
variable {k : Nat} {cap : List Nat} {g : TG} {te : TE} {σ : St} {H1 : Hp} {Q : VK} {l : Addr}
end

/-! ### the rules that name the module's fragment, with its name given (so that they may stand within a comprehension) -/
section
variable {X : Cx} {tg : Expr}
def rLen (K : PySem.W.Frag) : List V → Hp → VK → Prop := fun xs H Q => ∃ p ys, xs = [.ref p] ∧ (SqL K H p ys ∨ SqT K H p ys) ∧ Q (.int ys.length) H
def rLstG (K : PySem.W.Frag) : List V → Hp → VK → Prop := fun xs H Q => ∃ p ys, xs = [.ref p] ∧ (SqL K H p ys ∨ SqT K H p ys) ∧ ∀ l H', Same H H' → H' l = some (.lst ys) → H l = none → Q (.ref l) H'
/-- tuple(..) of a list -/
def rTupG (K : PySem.W.Frag) : List V → Hp → VK → Prop := fun xs H Q => ∃ p ys, xs = [.ref p] ∧ SqL K H p ys ∧ ∀ l H', Same H H' → H' l = some (.tup ys) → H l = none → Q (.ref l) H'
theorem tupK (K : PySem.W.Frag) (h : X.K = K := by rfl) : CallR X (.type "tuple") (rTupG K) := by
  subst h
  intro pins s σ H xs us Q I r h
  obtain ⟨p, ys, e, hq, q⟩ := h
  exact call_tuple_of pins s σ H xs us Q I r ⟨p, ys, e, .inl ⟨hq, fun l hl => q l _ (same_new hl _) upd_same hl⟩⟩
end
end Hd

set_option Elab.async false
set_option linter.all false
set_option maxRecDepth 100000
set_option maxHeartbeats 4000000
namespace Hd
open PySem PySem.Spec PyProof.Rows L2

/-! ### texts -/
section
variable {X : Cx}
def rJoin (K : PySem.W.Frag) : V → List V → Hp → VK → Prop := fun x vs H Q => ∃ z l zs, x = .str z ∧ vs = [.ref l] ∧ SqL K H l (zs.map V.str) ∧ JoinOk z zs = true ∧ Q (.str (Txt.join z zs)) H
theorem vals_str : ∀ {zs : List Str} {us : List Value}, Vals (zs.map V.str) us → ∃ l : List (Str × Tok), us = strValues l ∧ l.map (·.1) = zs
  | [], _, .nil => ⟨[], rfl, rfl⟩
  | z :: zs, _, .cons r t => by
    obtain ⟨tk, rfl⟩ := r
    obtain ⟨l, rfl, e⟩ := vals_str t
    exact ⟨(z, tk) :: l, rfl, by rw [List.map_cons, e]⟩
theorem mt_join (K : PySem.W.Frag) (hK : X.K = K := by rfl) : MtM X "str.join" (rJoin K) := by
  subst hK
  intro pins s σ H x vs v us Q I rx rv h
  obtain ⟨z, l, zs, rfl, rfl, hL, ok, q⟩ := h
  obtain ⟨t, rfl⟩ := rx
  obtain ⟨u, rfl, ru⟩ := rv.one
  cases ru
  obtain ⟨its, r, hp, _⟩ := I.list hL
  obtain ⟨ls, rfl, e⟩ := vals_str r
  exact SC.join hp.isList e ok fun t' k => ⟨.str _, H, I.tok _, ⟨t', rfl⟩, q⟩
end
end Hd

set_option Elab.async false
set_option linter.all false
set_option maxRecDepth 100000
set_option maxHeartbeats 4000000
namespace F
open PySem PySem.Spec PyProof.Rows L2 Hd

/-! ### data: what a value is, with all within it, without the heap -/
inductive D where
  | non | bl (b : Bool) | int (i : Int) | str (x : Str) | exc (c : Str)
  | tup (xs : List D) | lst (xs : List D)
  | dct (ks : List Key) (vs : List D) | dcu (ks : List (List Kt)) (vs : List D)
  /-- one that stands still -/
  | dcf (ks : List (List Kt)) (vs : List D)
/-- what a reckoning comes to -/
inductive Res (α : Type) where
  | ok (a : α) | exc (c : Str) | stuck
def Res.bind {α β : Type} (r : Res α) (f : α → Res β) : Res β := match r with
  | .ok a => f a
  | .exc c => .exc c
  | .stuck => .stuck
@[simp] theorem Res.bind_ok {α β : Type} (a : α) (f : α → Res β) : (Res.ok a).bind f = f a := rfl
@[simp] theorem Res.bind_exc {α β : Type} (c : Str) (f : α → Res β) : (Res.exc c : Res α).bind f = .exc c := rfl
@[simp] theorem Res.bind_stuck {α β : Type} (f : α → Res β) : (Res.stuck : Res α).bind f = .stuck := rfl
def ofO {α : Type} : Option α → Res α
  | some a => .ok a
  | none => .stuck
@[simp] theorem ofO_some {α : Type} (a : α) : ofO (some a) = .ok a := rfl
@[simp] theorem ofO_none {α : Type} : ofO (none : Option α) = .stuck := rfl
/-- the module: its written part, its names -/
structure Gx where
  K : PySem.W.Frag
  mg : Str → Option Value
abbrev gx (X : Cx) : Gx := ⟨X.K, X.mg⟩

def KLst (K : PySem.W.Frag) (a : Addr) (xs : List V) : Prop :=
  ∃ (o : Obj) (its : Array Value) (n : Nat), K.lookup a = some o ∧ o.cls = .type "list" ∧ o.dict = none ∧ o.data = .seq its n ∧ its.size ≤ sizeLine ∧ Vals xs its.toList
/-- a list that stands apart from those in O -/
def LstAt (K : PySem.W.Frag) (O : Addr → Prop) (H : Hp) (a : Addr) (xs : List V) : Prop := (¬ O a ∧ Rd H a (.lst xs)) ∨ KLst K a xs
mutual
inductive DV (G : Gx) (O : Addr → Prop) (H : Hp) : V → D → Prop where
  | non : DV G O H .non .non
  | bl (b : Bool) : DV G O H (.bl b) (.bl b)
  | int (i : Int) : DV G O H (.int i) (.int i)
  | str (x : Str) : DV G O H (.str x) (.str x)
  | exc {a C : Addr} {c : Str} : G.mg c = some (.ref C) → H a = some (.ext (ExcIs a (.ref C))) → DV G O H (.ref a) (.exc c)
  | tup {a : Addr} {xs : List V} {ds : List D} : SqU G.K H a xs → DVs G O H xs ds → DV G O H (.ref a) (.tup ds)
  | lst {a : Addr} {xs : List V} {ds : List D} : LstAt G.K O H a xs → DVs G O H xs ds → DV G O H (.ref a) (.lst ds)
  | dct {a : Addr} {kvs : List (Key × V)} {ks : List Key} {vs : List V} {ds : List D} : ¬ O a → H a = some (.dK kvs) → kvs.map (·.1) = ks → kvs.map (·.2) = vs → DVs G O H vs ds → DV G O H (.ref a) (.dct ks ds)
  | dcu {a : Addr} {kvs : List (List Kt × V)} {ks : List (List Kt)} {vs : List V} {ds : List D} : ¬ O a → H a = some (.dT (KTp G.K) kvs) → kvs.map (·.1) = ks → kvs.map (·.2) = vs → DVs G O H vs ds → DV G O H (.ref a) (.dcu ks ds)
  | dcf {a : Addr} {o : Obj} {kvs : List (List Kt × V)} {ks : List (List Kt)} {vs : List V} {ds : List D} : H a = some (.frz o (.dT (KTp G.K) kvs)) → kvs.map (·.1) = ks → kvs.map (·.2) = vs → DVs G O H vs ds → DV G O H (.ref a) (.dcf ks ds)
inductive DVs (G : Gx) (O : Addr → Prop) (H : Hp) : List V → List D → Prop where
  | nil : DVs G O H [] []
  | cons {v : V} {vs : List V} {d : D} {ds : List D} : DV G O H v d → DVs G O H vs ds → DVs G O H (v :: vs) (d :: ds)
end
/-- what stands at an address that is one's own -/
def OV (G : Gx) (O : Addr → Prop) (H : Hp) (a : Addr) : D → Prop
  | .lst ds => ∃ xs, H a = some (.lst xs) ∧ DVs G O H xs ds
  | .dct ks ds => ∃ kvs vs, H a = some (.dK kvs) ∧ kvs.map (·.1) = ks ∧ kvs.map (·.2) = vs ∧ DVs G O H vs ds
  | .dcu ks ds => ∃ kvs vs, H a = some (.dT (KTp G.K) kvs) ∧ kvs.map (·.1) = ks ∧ kvs.map (·.2) = vs ∧ DVs G O H vs ds
  | _ => False
/-- data, or one's own thing that is only looked at -/
def DW (G : Gx) (O : Addr → Prop) (H : Hp) (v : V) (d : D) : Prop := DV G O H v d ∨ ∃ a, v = .ref a ∧ O a ∧ OV G O H a d
inductive DWs (G : Gx) (O : Addr → Prop) (H : Hp) : List V → List D → Prop where
  | nil : DWs G O H [] []
  | cons {v : V} {vs : List V} {d : D} {ds : List D} : DW G O H v d → DWs G O H vs ds → DWs G O H (v :: vs) (d :: ds)

/-! ### heaps that go on -/
/-- what may be written to -/
def MutK (o : Option HO) : Prop := (∃ xs, o = some (.lst xs)) ∨ (∃ k, o = some (.dK k)) ∨ ∃ k : (Addr → List V → Prop) × List (List Kt × V), o = some (.dT k.1 k.2)
/-- all but what stands in O is kept -/
def Kp (O : Addr → Prop) (H H' : Hp) : Prop := ∀ b o, H b = some o → ¬ O b → H' b = some o
theorem Kp.of {O : Addr → Prop} {H H' : Hp} (g : Same H H') : Kp O H H' := fun b o e _ => g b o e
theorem not_mut {O : Addr → Prop} {H : Hp} (m : ∀ b, O b → MutK (H b)) {a : Addr} {o : HO} (e : H a = some o) (n : ¬ MutK (some o)) : ¬ O a := fun z => n (e ▸ m a z)
theorem mut_tup {xs : List V} : ¬ MutK (some (.tup xs)) := by rintro (⟨_, e⟩ | ⟨_, e⟩ | ⟨_, e⟩) <;> cases e
theorem mut_frz {o : Obj} {u : HO} : ¬ MutK (some (.frz o u)) := by rintro (⟨_, e⟩ | ⟨_, e⟩ | ⟨_, e⟩) <;> cases e
theorem mut_ext {φ : Heap → Prop} : ¬ MutK (some (.ext φ)) := by rintro (⟨_, e⟩ | ⟨_, e⟩ | ⟨_, e⟩) <;> cases e
theorem sqT_kp {K : PySem.W.Frag} {O : Addr → Prop} {H H' : Hp} {a : Addr} {xs : List V} (m : ∀ b, O b → MutK (H b)) (g : Kp O H H') (h : SqT K H a xs) : SqT K H' a xs := by
  rcases h with (e | ⟨o, e⟩) | h
  · exact .inl (.inl (g a _ e (not_mut m e mut_tup)))
  · exact .inl (.inr ⟨o, g a _ e (not_mut m e mut_frz)⟩)
  · exact .inr h
theorem sqU_kp {K : PySem.W.Frag} {O : Addr → Prop} {H H' : Hp} {a : Addr} {xs : List V} (m : ∀ b, O b → MutK (H b)) (g : Kp O H H') (h : SqU K H a xs) : SqU K H' a xs := by
  rcases h with e | h
  · exact .inl (g a _ e (not_mut m e mut_tup))
  · exact .inr h
theorem sqU_mono {K : PySem.W.Frag} {H H' : Hp} {a : Addr} {xs : List V} (h : SqU K H a xs) (g : Same H H') : SqU K H' a xs := h.imp (g _ _) id
theorem lstAt_kp {K : PySem.W.Frag} {O : Addr → Prop} {H H' : Hp} {a : Addr} {xs : List V} (g : Kp O H H') (h : LstAt K O H a xs) : LstAt K O H' a xs := by
  rcases h with ⟨n, e | ⟨o, e⟩⟩ | h
  · exact .inl ⟨n, .inl (g a _ e n)⟩
  · exact .inl ⟨n, .inr ⟨o, g a _ e n⟩⟩
  · exact .inr h
theorem LstAt.sq {K : PySem.W.Frag} {O : Addr → Prop} {H : Hp} {a : Addr} {xs : List V} (h : LstAt K O H a xs) : SqL K H a xs := h.elim (fun z => .inl z.2) .inr
section
variable {G : Gx} {O O' : Addr → Prop} {H H' : Hp}
mutual
theorem DV.kp (m : ∀ b, O b → MutK (H b)) (g : Kp O H H') : ∀ {v : V} {d : D}, DV G O H v d → DV G O H' v d
  | _, _, .non => .non
  | _, _, .bl b => .bl b
  | _, _, .int i => .int i
  | _, _, .str x => .str x
  | _, _, .exc h e => .exc h (g _ _ e (not_mut m e mut_ext))
  | _, _, .tup h hs => .tup (sqU_kp m g h) (DVs.kp m g hs)
  | _, _, .lst h hs => .lst (lstAt_kp g h) (DVs.kp m g hs)
  | _, _, .dct n e a b hs => .dct n (g _ _ e n) a b (DVs.kp m g hs)
  | _, _, .dcu n e a b hs => .dcu n (g _ _ e n) a b (DVs.kp m g hs)
  | _, _, .dcf e a b hs => .dcf (g _ _ e (not_mut m e mut_frz)) a b (DVs.kp m g hs)
theorem DVs.kp (m : ∀ b, O b → MutK (H b)) (g : Kp O H H') : ∀ {vs : List V} {ds : List D}, DVs G O H vs ds → DVs G O H' vs ds
  | _, _, .nil => .nil
  | _, _, .cons h hs => .cons (DV.kp m g h) (DVs.kp m g hs)
end
mutual
theorem DV.mono (g : Same H H') : ∀ {v : V} {d : D}, DV G O H v d → DV G O H' v d
  | _, _, .non => .non
  | _, _, .bl b => .bl b
  | _, _, .int i => .int i
  | _, _, .str x => .str x
  | _, _, .exc h e => .exc h (g _ _ e)
  | _, _, .tup h hs => .tup (sqU_mono h g) (DVs.mono g hs)
  | _, _, .lst h hs => .lst (lstAt_kp (.of g) h) (DVs.mono g hs)
  | _, _, .dct n e a b hs => .dct n (g _ _ e) a b (DVs.mono g hs)
  | _, _, .dcu n e a b hs => .dcu n (g _ _ e) a b (DVs.mono g hs)
  | _, _, .dcf e a b hs => .dcf (g _ _ e) a b (DVs.mono g hs)
theorem DVs.mono (g : Same H H') : ∀ {vs : List V} {ds : List D}, DVs G O H vs ds → DVs G O H' vs ds
  | _, _, .nil => .nil
  | _, _, .cons h hs => .cons (DV.mono g h) (DVs.mono g hs)
end
/-! fewer things to stand apart from; a free address more -/
mutual
theorem DV.anti (s : ∀ b, O' b → O b ∨ H b = none) : ∀ {v : V} {d : D}, DV G O H v d → DV G O' H v d
  | _, _, .non => .non
  | _, _, .bl b => .bl b
  | _, _, .int i => .int i
  | _, _, .str x => .str x
  | _, _, .exc h e => .exc h e
  | _, _, .tup h hs => .tup h (DVs.anti s hs)
  | _, _, .lst h hs => .lst (h.elim (fun z => .inl ⟨fun o => (s _ o).elim z.1 fun n => by rcases z.2 with e | ⟨_, e⟩ <;> (rw [n] at e; cases e), z.2⟩) .inr) (DVs.anti s hs)
  | _, _, .dct n e a b hs => .dct (fun o => (s _ o).elim n fun z => by rw [z] at e; cases e) e a b (DVs.anti s hs)
  | _, _, .dcu n e a b hs => .dcu (fun o => (s _ o).elim n fun z => by rw [z] at e; cases e) e a b (DVs.anti s hs)
  | _, _, .dcf e a b hs => .dcf e a b (DVs.anti s hs)
theorem DVs.anti (s : ∀ b, O' b → O b ∨ H b = none) : ∀ {vs : List V} {ds : List D}, DVs G O H vs ds → DVs G O' H vs ds
  | _, _, .nil => .nil
  | _, _, .cons h hs => .cons (DV.anti s h) (DVs.anti s hs)
end
/-! what is apart from O in H is so from O' in H' -/
def Ev (O : Addr → Prop) (H : Hp) (O' : Addr → Prop) (H' : Hp) : Prop := (∀ b, O' b → O b ∨ H b = none) ∧ Kp O H H'
mutual
theorem DV.go (m : ∀ b, O b → MutK (H b)) (g : Ev O H O' H') : ∀ {v : V} {d : D}, DV G O H v d → DV G O' H' v d
  | _, _, .non => .non
  | _, _, .bl b => .bl b
  | _, _, .int i => .int i
  | _, _, .str x => .str x
  | _, _, .exc h e => .exc h (g.2 _ _ e (not_mut m e mut_ext))
  | _, _, .tup h hs => .tup (sqU_kp m g.2 h) (DVs.go m g hs)
  | _, _, .lst h hs => .lst (h.elim (fun z => .inl ⟨fun o => (g.1 _ o).elim z.1 fun n => by rcases z.2 with e | ⟨_, e⟩ <;> (rw [n] at e; cases e), (lstAt_kp g.2 (.inl z) : LstAt G.K O H' _ _).elim (fun y => y.2) fun y => z.2.elim (fun e => .inl (g.2 _ _ e z.1)) fun ⟨o, e⟩ => .inr ⟨o, g.2 _ _ e z.1⟩⟩) .inr) (DVs.go m g hs)
  | _, _, .dct n e a b hs => .dct (fun o => (g.1 _ o).elim n fun z => by rw [z] at e; cases e) (g.2 _ _ e n) a b (DVs.go m g hs)
  | _, _, .dcu n e a b hs => .dcu (fun o => (g.1 _ o).elim n fun z => by rw [z] at e; cases e) (g.2 _ _ e n) a b (DVs.go m g hs)
  | _, _, .dcf e a b hs => .dcf (g.2 _ _ e (not_mut m e mut_frz)) a b (DVs.go m g hs)
theorem DVs.go (m : ∀ b, O b → MutK (H b)) (g : Ev O H O' H') : ∀ {vs : List V} {ds : List D}, DVs G O H vs ds → DVs G O' H' vs ds
  | _, _, .nil => .nil
  | _, _, .cons h hs => .cons (DV.go m g h) (DVs.go m g hs)
end
theorem OV.anti {a : Addr} {d : D} (s : ∀ b, O' b → O b ∨ H b = none) (h : OV G O H a d) : OV G O' H a d := by
  cases d with
  | lst ds => obtain ⟨xs, e, hs⟩ := h; exact ⟨xs, e, hs.anti s⟩
  | dct ks ds => obtain ⟨k, v, e, a1, a2, hs⟩ := h; exact ⟨k, v, e, a1, a2, hs.anti s⟩
  | dcu ks ds => obtain ⟨k, v, e, a1, a2, hs⟩ := h; exact ⟨k, v, e, a1, a2, hs.anti s⟩
  | _ => exact h.elim
theorem OV.mono {a : Addr} {d : D} (g : Same H H') (h : OV G O H a d) : OV G O H' a d := by
  cases d with
  | lst ds => obtain ⟨xs, e, hs⟩ := h; exact ⟨xs, g _ _ e, hs.mono g⟩
  | dct ks ds => obtain ⟨k, v, e, a1, a2, hs⟩ := h; exact ⟨k, v, g _ _ e, a1, a2, hs.mono g⟩
  | dcu ks ds => obtain ⟨k, v, e, a1, a2, hs⟩ := h; exact ⟨k, v, g _ _ e, a1, a2, hs.mono g⟩
  | _ => exact h.elim
/-- kept by a change elsewhere -/
theorem OV.kp {a : Addr} {d : D} (m : ∀ b, O b → MutK (H b)) (g : Kp O H H') (e' : H' a = H a) (h : OV G O H a d) : OV G O H' a d := by
  cases d with
  | lst ds => obtain ⟨xs, e, hs⟩ := h; exact ⟨xs, e'.trans e, hs.kp m g⟩
  | dct ks ds => obtain ⟨k, v, e, a1, a2, hs⟩ := h; exact ⟨k, v, e'.trans e, a1, a2, hs.kp m g⟩
  | dcu ks ds => obtain ⟨k, v, e, a1, a2, hs⟩ := h; exact ⟨k, v, e'.trans e, a1, a2, hs.kp m g⟩
  | _ => exact h.elim
theorem OV.mut {a : Addr} {d : D} (h : OV G O H a d) : MutK (H a) := by
  cases d with
  | lst ds => obtain ⟨xs, e, hs⟩ := h; exact .inl ⟨xs, e⟩
  | dct ks ds => obtain ⟨k, v, e, _⟩ := h; exact .inr (.inl ⟨k, e⟩)
  | dcu ks ds => obtain ⟨k, v, e, _⟩ := h; exact .inr (.inr ⟨(_, k), e⟩)
  | _ => exact h.elim
/-- let go -/
theorem OV.dv {a : Addr} {d : D} (n : ¬ O a) (h : OV G O H a d) : DV G O H (.ref a) d := by
  cases d with
  | lst ds => obtain ⟨xs, e, hs⟩ := h; exact .lst (.inl ⟨n, .inl e⟩) hs
  | dct ks ds => obtain ⟨k, v, e, a1, a2, hs⟩ := h; exact .dct n e a1 a2 hs
  | dcu ks ds => obtain ⟨k, v, e, a1, a2, hs⟩ := h; exact .dcu n e a1 a2 hs
  | _ => exact h.elim
theorem DW.mono {v : V} {d : D} (g : Same H H') (h : DW G O H v d) : DW G O H' v d := h.elim (fun z => .inl (z.mono g)) fun ⟨a, e, o, z⟩ => .inr ⟨a, e, o, z.mono g⟩
theorem DWs.mono (g : Same H H') : ∀ {vs : List V} {ds : List D}, DWs G O H vs ds → DWs G O H' vs ds
  | _, _, .nil => .nil
  | _, _, .cons h hs => .cons (h.mono g) (DWs.mono g hs)
/-- as data that stands apart from nothing -/
theorem DW.any {v : V} {d : D} (h : DW G O H v d) : DV G (fun _ => False) H v d := by
  rcases h with h | ⟨a, e, _, h⟩
  · exact h.anti fun _ z => z.elim
  · subst e
    exact (h.anti (O' := fun _ => False) fun _ z => z.elim).dv id
theorem DWs.any : ∀ {vs : List V} {ds : List D}, DWs G O H vs ds → DVs G (fun _ => False) H vs ds
  | _, _, .nil => .nil
  | _, _, .cons h hs => .cons h.any (DWs.any hs)
end
/-! ### what data is -/
section
variable {G : Gx} {O : Addr → Prop} {H : Hp} {v : V}
theorem dw_non (h : DW G O H v .non) : v = .non := by
  rcases h with h | ⟨_, _, _, h⟩
  · cases h; rfl
  · exact h.elim
theorem dw_bl {b : Bool} (h : DW G O H v (.bl b)) : v = .bl b := by
  rcases h with h | ⟨_, _, _, h⟩
  · cases h; rfl
  · exact h.elim
theorem dw_int {i : Int} (h : DW G O H v (.int i)) : v = .int i := by
  rcases h with h | ⟨_, _, _, h⟩
  · cases h; rfl
  · exact h.elim
theorem dw_str {x : Str} (h : DW G O H v (.str x)) : v = .str x := by
  rcases h with h | ⟨_, _, _, h⟩
  · cases h; rfl
  · exact h.elim
theorem dw_tup {ds : List D} (h : DW G O H v (.tup ds)) : ∃ a xs, v = .ref a ∧ SqT G.K H a xs ∧ DVs G O H xs ds := by
  rcases h with h | ⟨_, _, _, h⟩
  · cases h with
    | tup h hs => exact ⟨_, _, rfl, h.sq, hs⟩
  · exact h.elim
theorem dw_tupU {ds : List D} (h : DW G O H v (.tup ds)) : ∃ a xs, v = .ref a ∧ SqU G.K H a xs ∧ DVs G O H xs ds := by
  rcases h with h | ⟨_, _, _, h⟩
  · cases h with
    | tup h hs => exact ⟨_, _, rfl, h, hs⟩
  · exact h.elim
theorem dw_lst {ds : List D} (h : DW G O H v (.lst ds)) : ∃ a xs, v = .ref a ∧ SqL G.K H a xs ∧ DVs G O H xs ds := by
  rcases h with h | ⟨a, e, _, h⟩
  · cases h with
    | lst h hs => exact ⟨_, _, rfl, h.sq, hs⟩
  · obtain ⟨xs, e', hs⟩ := h
    exact ⟨a, xs, e, .inl (.inl e'), hs⟩
theorem dw_dct {ks : List Key} {ds : List D} (h : DW G O H v (.dct ks ds)) : ∃ a kvs vs, v = .ref a ∧ H a = some (.dK kvs) ∧ kvs.map (·.1) = ks ∧ kvs.map (·.2) = vs ∧ DVs G O H vs ds := by
  rcases h with h | ⟨a, e, _, h⟩
  · cases h with
    | dct n e a b hs => exact ⟨_, _, _, rfl, e, a, b, hs⟩
  · obtain ⟨k, w, e', a1, a2, hs⟩ := h
    exact ⟨a, k, w, e, e', a1, a2, hs⟩
theorem dw_dcu {ks : List (List Kt)} {ds : List D} (h : DW G O H v (.dcu ks ds)) : ∃ a kvs vs, v = .ref a ∧ H a = some (.dT (KTp G.K) kvs) ∧ kvs.map (·.1) = ks ∧ kvs.map (·.2) = vs ∧ DVs G O H vs ds := by
  rcases h with h | ⟨a, e, _, h⟩
  · cases h with
    | dcu n e a b hs => exact ⟨_, _, _, rfl, e, a, b, hs⟩
  · obtain ⟨k, w, e', a1, a2, hs⟩ := h
    exact ⟨a, k, w, e, e', a1, a2, hs⟩
theorem dvs_len : ∀ {vs : List V} {ds : List D}, DVs G O H vs ds → vs.length = ds.length
  | _, _, .nil => rfl
  | _, _, .cons _ hs => by rw [List.length_cons, List.length_cons, dvs_len hs]
theorem dvs_app : ∀ {vs us : List V} {ds es : List D}, DVs G O H vs ds → DVs G O H us es → DVs G O H (vs ++ us) (ds ++ es)
  | _, _, _, _, .nil, h => h
  | _, _, _, _, .cons a t, h => .cons a (dvs_app t h)
theorem dvs_get : ∀ {vs : List V} {ds : List D} {i : Nat} {x : V}, DVs G O H vs ds → vs[i]? = some x → ∃ d, ds[i]? = some d ∧ DV G O H x d
  | _, _, _, _, .nil, e => by simp at e
  | _, _, 0, _, .cons a _, e => by simp at e; subst e; exact ⟨_, rfl, a⟩
  | _, _, i + 1, x, .cons _ t, e => by
    obtain ⟨d, h1, h2⟩ := dvs_get (i := i) (x := x) t (by simpa using e)
    exact ⟨d, by simpa using h1, h2⟩
theorem dvs_at : ∀ {vs : List V} {ds : List D} {i : Nat} {d : D}, DVs G O H vs ds → ds[i]? = some d → ∃ x, vs[i]? = some x ∧ DV G O H x d
  | _, _, _, _, .nil, e => by simp at e
  | _, _, 0, _, .cons a _, e => by simp at e; subst e; exact ⟨_, rfl, a⟩
  | _, _, i + 1, d, .cons _ t, e => by
    obtain ⟨x, h1, h2⟩ := dvs_at (i := i) (d := d) t (by simpa using e)
    exact ⟨x, by simpa using h1, h2⟩
theorem dvs_take : ∀ {vs : List V} {ds : List D} (n : Nat), DVs G O H vs ds → DVs G O H (vs.take n) (ds.take n)
  | _, _, 0, _ => by simp only [List.take_zero]; exact .nil
  | _, _, _ + 1, .nil => .nil
  | _, _, n + 1, .cons a t => .cons a (dvs_take n t)
theorem dvs_drop : ∀ {vs : List V} {ds : List D} (n : Nat), DVs G O H vs ds → DVs G O H (vs.drop n) (ds.drop n)
  | _, _, 0, h => h
  | _, _, _ + 1, .nil => .nil
  | _, _, n + 1, .cons _ t => dvs_drop n t
/-- data without addresses -/
def flat : D → Bool
  | .non | .bl _ | .int _ | .str _ => true
  | _ => false
theorem DV.flat {O' : Addr → Prop} {H' : Hp} {d : D} (f : flat d = true) (h : DV G O H v d) : DV G O' H' v d := by
  cases h with
  | non => exact .non
  | bl b => exact .bl b
  | int i => exact .int i
  | str x => exact .str x
  | _ => cases f
end

/-! ### the names' places -/
inductive Sl where
  /-- nothing known; data; a thing of one's own; one that the caller gets back; one that another owns -/
  | un | fz (d : D) | ow (d : D) | io (d : D) | bw (d : D)
abbrev Me := List Sl
abbrev Os := Nat → Option Addr
def Ow (O0 : Addr → Prop) (ow : Os) : Addr → Prop := fun b => O0 b ∨ ∃ i, ow i = some b
def Op (O : Addr → Prop) (p : Addr) : Addr → Prop := fun b => O b ∨ b = p
def owS (ow : Os) (i : Nat) (x : Option Addr) : Os := fun j => if j = i then x else ow j
theorem owS_at {ow : Os} {i : Nat} {x : Option Addr} : owS ow i x i = x := by unfold owS; rw [if_pos rfl]
theorem owS_ne {ow : Os} {i j : Nat} {x : Option Addr} (h : j ≠ i) : owS ow i x j = ow j := by unfold owS; rw [if_neg h]
def SlOk (G : Gx) (O M0 : Addr → Prop) (H0 : Hp) (oi : Option Addr) (v : Option (Option V)) (H : Hp) : Sl → Prop
  | .un => oi = none
  | .fz d => oi = none ∧ ∃ x, v = some (some x) ∧ DV G O H x d
  | .ow d => ∃ a, oi = some a ∧ H0 a = none ∧ v = some (some (.ref a)) ∧ OV G O H a d
  | .io d => ∃ a, oi = some a ∧ M0 a ∧ v = some (some (.ref a)) ∧ OV G O H a d
  | .bw d => oi = none ∧ ∃ x, v = some (some x) ∧ DW G O H x d
structure Rel (G : Gx) (O0 M0 : Addr → Prop) (H0 : Hp) (ow : Os) (σ : L2.St) (H : Hp) (m : Me) : Prop where
  len : σ.length = m.length
  keep : Kp M0 H0 H
  m0 : ∀ b, M0 b → H b ≠ none
  mutk : ∀ b, Ow O0 ow b → MutK (H b)
  no0 : ∀ i a, ow i = some a → ¬ O0 a
  inj : ∀ i j a, ow i = some a → ow j = some a → i = j
  out : ∀ i, m.length ≤ i → ow i = none
  slot : ∀ i s, m[i]? = some s → SlOk G (Ow O0 ow) M0 H0 (ow i) (σ[i]?) H s
/-- .. within a def's body -/
structure RelS (G : Gx) (O0 M0 : Addr → Prop) (H0 : Hp) (ow : Os) (σ : L2.St) (H : Hp) (m : Me) : Prop extends Rel G O0 M0 H0 ow σ H m where
  nb : ∀ (j : Nat) (d : D), m[j]? ≠ some (Sl.bw d)
/-- how a state goes on -/
structure Go (O0 : Addr → Prop) (ow : Os) (H : Hp) (ow' : Os) (H' : Hp) : Prop where
  keep : Kp (Ow O0 ow) H H'
  new : ∀ i a, ow' i = some a → Ow O0 ow a ∨ H a = none
  dom : ∀ b, H b ≠ none → H' b ≠ none
theorem Go.refl {O0 : Addr → Prop} {ow : Os} {H H' : Hp} (g : Same H H') : Go O0 ow H ow H' :=
  ⟨.of g, fun i a e => .inl (.inr ⟨i, e⟩), fun b n z => by
    cases q : H b with
    | none => exact n q
    | some o => rw [g b o q] at z; cases z⟩
theorem Go.trans {O0 : Addr → Prop} {ow ow1 ow2 : Os} {H H1 H2 : Hp} (a : Go O0 ow H ow1 H1) (b : Go O0 ow1 H1 ow2 H2) : Go O0 ow H ow2 H2 where
  keep := fun c o e n => b.keep c o (a.keep c o e n) fun z => by
    rcases z with z | ⟨i, z⟩
    · exact n (.inl z)
    · rcases a.new i c z with y | y
      · exact n y
      · rw [y] at e; cases e
  new := fun i c e => by
    rcases b.new i c e with (z | ⟨j, z⟩) | z
    · exact .inl (.inl z)
    · exact a.new j c z
    · refine .inr ?_
      cases q : H c with
      | none => rfl
      | some o => exact absurd z (a.dom c (by rw [q]; simp))
  dom := fun c n => b.dom c (a.dom c n)
theorem Go.ev {O0 : Addr → Prop} {ow ow' : Os} {H H' : Hp} (g : Go O0 ow H ow' H') : Ev (Ow O0 ow) H (Ow O0 ow') H' :=
  ⟨fun b z => z.elim (fun z => .inl (.inl z)) fun ⟨i, e⟩ => g.new i b e, g.keep⟩
theorem Ow_none (O : Addr → Prop) : Ow O (fun _ => none) = O := by
  funext b
  exact propext ⟨fun z => z.elim id fun ⟨_, e⟩ => (by cases e), Or.inl⟩
section
variable {G : Gx} {O0 M0 : Addr → Prop} {H0 H H' : Hp} {ow : Os} {σ : L2.St} {m : Me}
theorem SlOk.mono {O : Addr → Prop} {oi : Option Addr} {v : Option (Option V)} {s : Sl} (g : Same H H') (h : SlOk G O M0 H0 oi v H s) : SlOk G O M0 H0 oi v H' s := by
  cases s with
  | un => exact h
  | fz d => obtain ⟨a, x, e, q⟩ := h; exact ⟨a, x, e, q.mono g⟩
  | ow d => obtain ⟨a, x, e, f, q⟩ := h; exact ⟨a, x, e, f, q.mono g⟩
  | io d => obtain ⟨a, x, e, f, q⟩ := h; exact ⟨a, x, e, f, q.mono g⟩
  | bw d => obtain ⟨a, x, e, q⟩ := h; exact ⟨a, x, e, q.mono g⟩
theorem mutk_mono {b : Addr} (g : Same H H') (h : MutK (H b)) : MutK (H' b) := by
  rcases h with ⟨x, e⟩ | ⟨x, e⟩ | ⟨x, e⟩
  · exact .inl ⟨x, g _ _ e⟩
  · exact .inr (.inl ⟨x, g _ _ e⟩)
  · exact .inr (.inr ⟨x, g _ _ e⟩)
theorem Rel.mono (R : Rel G O0 M0 H0 ow σ H m) (g : Same H H') : Rel G O0 M0 H0 ow σ H' m :=
  ⟨R.len, fun b o e n => g b o (R.keep b o e n), fun b z q => R.m0 b z (Same.free g q), fun b z => mutk_mono g (R.mutk b z), R.no0, R.inj, R.out, fun i s e => (R.slot i s e).mono g⟩
/-- fewer owned things -/
theorem SlOk.anti {O O' : Addr → Prop} {oi : Option Addr} {v : Option (Option V)} {s : Sl} (sub : ∀ b, O' b → O b ∨ H b = none) (h : SlOk G O M0 H0 oi v H s) (hb : ∀ d, s = .bw d → ∀ b, O b → O' b ∨ ¬ O' b) : SlOk G O' M0 H0 oi v H s := by
  cases s with
  | un => exact h
  | fz d => obtain ⟨a, x, e, q⟩ := h; exact ⟨a, x, e, q.anti sub⟩
  | ow d => obtain ⟨a, x, e, f, q⟩ := h; exact ⟨a, x, e, f, q.anti sub⟩
  | io d => obtain ⟨a, x, e, f, q⟩ := h; exact ⟨a, x, e, f, q.anti sub⟩
  | bw d =>
    obtain ⟨a, x, e, q⟩ := h
    refine ⟨a, x, e, ?_⟩
    rcases q with q | ⟨b, e1, o, q⟩
    · exact .inl (q.anti sub)
    · rcases hb d rfl b o with w | w
      · exact .inr ⟨b, e1, w, q.anti sub⟩
      · subst e1
        exact .inl ((q.anti sub).dv w)
theorem Ow.sub {i : Nat} {b : Addr} (z : Ow O0 (owS ow i none) b) : Ow O0 ow b := by
  rcases z with z | ⟨j, e⟩
  · exact .inl z
  · by_cases q : j = i
    · subst q; rw [owS_at] at e; cases e
    · rw [owS_ne q] at e; exact .inr ⟨j, e⟩
theorem get_lt {α : Type} {l : List α} {i : Nat} {x : α} (e : l[i]? = some x) : i < l.length := (List.getElem?_eq_some_iff.mp e).1
/-- a name is bound to data -/
theorem Rel.set {i : Nat} {v : V} {d : D} (R : Rel G O0 M0 H0 ow σ H m) (h : DV G (Ow O0 ow) H v d) :
    Rel G O0 M0 H0 (owS ow i none) (σ.set i (some v)) H (m.set i (.fz d)) := by
  have sub : ∀ b, Ow O0 (owS ow i none) b → Ow O0 ow b ∨ H b = none := fun b z => .inl z.sub
  refine ⟨by simp [R.len], R.keep, R.m0, fun b z => R.mutk b z.sub, fun j a e => ?_, fun j k a e1 e2 => ?_, fun j hj => ?_, fun j s e => ?_⟩
  · by_cases q : j = i
    · subst q; rw [owS_at] at e; cases e
    · rw [owS_ne q] at e; exact R.no0 j a e
  · by_cases q : j = i
    · subst q; rw [owS_at] at e1; cases e1
    · by_cases q' : k = i
      · subst q'; rw [owS_at] at e2; cases e2
      · rw [owS_ne q] at e1; rw [owS_ne q'] at e2; exact R.inj j k a e1 e2
  · by_cases q : j = i
    · subst q; exact owS_at
    · rw [owS_ne q]; exact R.out j (by simpa using hj)
  · by_cases q : j = i
    · subst q
      have hj : j < m.length := by simpa using get_lt e
      rw [List.getElem?_set_self hj] at e
      cases e
      rw [owS_at, List.getElem?_set_self (by rw [R.len]; exact hj)]
      exact ⟨rfl, v, rfl, h.anti sub⟩
    · rw [List.getElem?_set_ne (Ne.symm q)] at e
      rw [owS_ne q, List.getElem?_set_ne (Ne.symm q)]
      exact (R.slot j s e).anti sub fun _ _ b _ => Classical.em _
theorem Go.set {i : Nat} : Go O0 ow H (owS ow i none) H :=
  ⟨fun _ _ e _ => e, fun j a e => .inl (by
    by_cases q : j = i
    · subst q; rw [owS_at] at e; cases e
    · rw [owS_ne q] at e; exact .inr ⟨j, e⟩), fun _ n => n⟩
theorem Rel.free0 (R : Rel G O0 M0 H0 ow σ H m) {p : Addr} (n : H p = none) : H0 p = none := by
  cases q : H0 p with
  | none => rfl
  | some o =>
    by_cases z : M0 p
    · exact absurd n (R.m0 p z)
    · rw [R.keep p o q z] at n; cases n
theorem Rel.noOw (R : Rel G O0 M0 H0 ow σ H m) {p : Addr} (n : H p = none) : ¬ Ow O0 ow p := fun z => by
  have := R.mutk p z
  rw [n] at this
  rcases this with ⟨_, e⟩ | ⟨_, e⟩ | ⟨_, e⟩ <;> cases e
theorem Ow.new {i : Nat} {b p : Addr} (z : Ow O0 (owS ow i (some p)) b) : Ow O0 ow b ∨ b = p := by
  rcases z with z | ⟨j, e⟩
  · exact .inl (.inl z)
  · by_cases q : j = i
    · subst q; rw [owS_at] at e; cases e; exact .inr rfl
    · rw [owS_ne q] at e; exact .inl (.inr ⟨j, e⟩)
/-- a name is bound to a new thing of one's own -/
theorem Rel.own {i : Nat} {p : Addr} {d : D} (R : Rel G O0 M0 H0 ow σ H m) (g : Same H H') (n : H p = none) (n0 : H0 p = none) (h : OV G (Op (Ow O0 ow) p) H' p d) (hi : i < m.length) :
    Rel G O0 M0 H0 (owS ow i (some p)) (σ.set i (some (.ref p))) H' (m.set i (.ow d)) := by
  have np := R.noOw n
  have sub : ∀ b, Ow O0 (owS ow i (some p)) b → Ow O0 ow b ∨ H b = none := fun b z => z.new.elim .inl fun e => .inr (by rw [e]; exact n)
  refine ⟨by simp [R.len], (R.mono g).keep, (R.mono g).m0, fun b z => ?_, fun j a e => ?_, fun j k a e1 e2 => ?_, fun j hj => ?_, fun j s e => ?_⟩
  · rcases z.new with z | z
    · exact (R.mono g).mutk b z
    · rw [z]; exact h.mut
  · by_cases q : j = i
    · subst q; rw [owS_at] at e; cases e; exact fun z => np (.inl z)
    · rw [owS_ne q] at e; exact R.no0 j a e
  · by_cases q : j = i
    · subst q
      rw [owS_at] at e1
      cases e1
      by_cases q' : k = j
      · exact q'.symm
      · rw [owS_ne q'] at e2; exact absurd (.inr ⟨k, e2⟩) np
    · rw [owS_ne q] at e1
      by_cases q' : k = i
      · subst q'; rw [owS_at] at e2; cases e2; exact absurd (.inr ⟨j, e1⟩) np
      · rw [owS_ne q'] at e2; exact R.inj j k a e1 e2
  · have hj' : m.length ≤ j := by simpa using hj
    rw [owS_ne (by omega)]
    exact R.out j hj'
  · by_cases q : j = i
    · subst q
      rw [List.getElem?_set_self hi] at e
      cases e
      rw [owS_at, List.getElem?_set_self (by rw [R.len]; exact hi)]
      exact ⟨p, rfl, n0, rfl, h.anti fun b z => .inl (z.new.elim .inl .inr)⟩
    · rw [List.getElem?_set_ne (Ne.symm q)] at e
      rw [owS_ne q, List.getElem?_set_ne (Ne.symm q)]
      exact ((R.slot j s e).anti sub fun _ _ b _ => Classical.em _).mono g
theorem Go.own {i : Nat} {p : Addr} (g : Same H H') (n : H p = none) : Go O0 ow H (owS ow i (some p)) H' :=
  ⟨.of g, fun j a e => by
    by_cases q : j = i
    · subst q; rw [owS_at] at e; cases e; exact .inr n
    · rw [owS_ne q] at e; exact .inl (.inr ⟨j, e⟩), (Go.refl (O0 := O0) (ow := ow) g).dom⟩
/-- the thing of the i-th name is written to -/
theorem Rel.upd {i : Nat} {a : Addr} {d d' : D} {s' : Sl} {o : HO} (R : Rel G O0 M0 H0 ow σ H m) (nb : ∀ (j : Nat) (d : D), m[j]? ≠ some (Sl.bw d)) (ho : ow i = some a) (hm : MutK (some o)) (h : ∀ O, (∀ b, O b → MutK (H b)) → O a → (∀ {v d}, DV G O H v d → DV G O (L2.upd H a o) v d) → O = Ow O0 ow → OV G O (L2.upd H a o) a d')
    (hs : (m[i]? = some (.ow d) ∧ s' = .ow d') ∨ (m[i]? = some (.io d) ∧ s' = .io d')) : Rel G O0 M0 H0 ow σ (L2.upd H a o) (m.set i s') := by
  have oa : Ow O0 ow a := .inr ⟨i, ho⟩
  have kp : Kp (Ow O0 ow) H (L2.upd H a o) := fun b u e n => by
    rw [L2.upd_ne (show b ≠ a from fun z => n (z ▸ oa))]
    exact e
  have hov := h (Ow O0 ow) R.mutk oa (fun z => z.kp R.mutk kp) rfl
  have hi : i < m.length := by rcases hs with ⟨e, _⟩ | ⟨e, _⟩ <;> exact get_lt e
  refine ⟨by simp [R.len], fun b u e n => ?_, fun b z => ?_, fun b z => ?_, R.no0, R.inj, fun j hj => R.out j (by simpa using hj), fun j s e => ?_⟩
  · rw [L2.upd_ne (show b ≠ a from fun z => ?_)]
    · exact R.keep b u e n
    · subst z
      rcases hs with ⟨q, _⟩ | ⟨q, _⟩
      · obtain ⟨a', e1, e2, _⟩ := R.slot i _ q
        rw [ho] at e1; cases e1
        rw [e2] at e; cases e
      · obtain ⟨a', e1, e2, _⟩ := R.slot i _ q
        rw [ho] at e1; cases e1
        exact n e2
  · by_cases q : b = a
    · rw [q, L2.upd_same]; simp
    · rw [L2.upd_ne q]; exact R.m0 b z
  · by_cases q : b = a
    · rw [q, L2.upd_same]; exact hm
    · rw [L2.upd_ne q]; exact R.mutk b z
  · by_cases q : j = i
    · subst q
      rw [List.getElem?_set_self hi] at e
      cases e
      rcases hs with ⟨q, rfl⟩ | ⟨q, rfl⟩
      · obtain ⟨a', e1, e2, e3, _⟩ := R.slot j _ q
        rw [ho] at e1; cases e1
        exact ⟨a, ho, e2, e3, hov⟩
      · obtain ⟨a', e1, e2, e3, _⟩ := R.slot j _ q
        rw [ho] at e1; cases e1
        exact ⟨a, ho, e2, e3, hov⟩
    · rw [List.getElem?_set_ne (Ne.symm q)] at e
      have z := R.slot j s e
      cases s with
      | un => exact z
      | fz d => obtain ⟨b, x, e, q⟩ := z; exact ⟨b, x, e, q.kp R.mutk kp⟩
      | ow d =>
        obtain ⟨b, x, e, f, q'⟩ := z
        exact ⟨b, x, e, f, q'.kp R.mutk kp (L2.upd_ne fun w => q (R.inj j i b x (w ▸ ho)))⟩
      | io d =>
        obtain ⟨b, x, e, f, q'⟩ := z
        exact ⟨b, x, e, f, q'.kp R.mutk kp (L2.upd_ne fun w => q (R.inj j i b x (w ▸ ho)))⟩
      | bw d => exact (nb j d e).elim
theorem nb_set {i : Nat} {s : Sl} (nb : ∀ (j : Nat) (d : D), m[j]? ≠ some (Sl.bw d)) (hs : ∀ d, s ≠ .bw d) : ∀ (j : Nat) (d : D), (m.set i s)[j]? ≠ some (Sl.bw d) := fun j d e => by
  by_cases q : j = i
  · subst q
    have hj : j < m.length := by simpa using get_lt e
    rw [List.getElem?_set_self hj] at e
    exact hs d (Option.some.inj e)
  · rw [List.getElem?_set_ne (Ne.symm q)] at e
    exact nb j d e
theorem RelS.mono (R : RelS G O0 M0 H0 ow σ H m) (g : Same H H') : RelS G O0 M0 H0 ow σ H' m := ⟨R.toRel.mono g, R.nb⟩
theorem RelS.set {i : Nat} {v : V} {d : D} (R : RelS G O0 M0 H0 ow σ H m) (h : DV G (Ow O0 ow) H v d) : RelS G O0 M0 H0 (owS ow i none) (σ.set i (some v)) H (m.set i (.fz d)) :=
  ⟨R.toRel.set h, nb_set R.nb fun _ z => by cases z⟩
theorem RelS.own {i : Nat} {p : Addr} {d : D} (R : RelS G O0 M0 H0 ow σ H m) (g : Same H H') (n : H p = none) (n0 : H0 p = none) (h : OV G (Op (Ow O0 ow) p) H' p d) (hi : i < m.length) :
    RelS G O0 M0 H0 (owS ow i (some p)) (σ.set i (some (.ref p))) H' (m.set i (.ow d)) := ⟨R.toRel.own g n n0 h hi, nb_set R.nb fun _ z => by cases z⟩
/-- all that is one's own is let go (but what the caller gets back) -/
def Sl.let : Sl → Sl
  | .ow d => .fz d
  | s => s
def Me.let (m : Me) : Me := m.map Sl.let
theorem RelS.let (R : RelS G O0 M0 H0 ow σ H m) : ∃ ow', RelS G O0 M0 H0 ow' σ H m.let ∧ Go O0 ow H ow' H := by
  let ow' : Os := fun i => match m[i]? with
    | some (.io _) => ow i
    | _ => none
  have le : ∀ i a, ow' i = some a → ow i = some a ∧ ∃ d, m[i]? = some (.io d) := fun i a e => by
    simp only [ow'] at e
    split at e
    · rename_i d q; exact ⟨e, d, q⟩
    · cases e
  have sub : ∀ b, Ow O0 ow' b → Ow O0 ow b ∨ H b = none := fun b z => .inl (z.elim .inl fun ⟨i, e⟩ => .inr ⟨i, (le i b e).1⟩)
  refine ⟨ow', ⟨⟨by simp [Me.let, R.len], R.keep, R.m0, fun b z => ?_, fun i a e => R.no0 i a (le i a e).1, fun i j a e1 e2 => R.inj i j a (le i a e1).1 (le j a e2).1, fun i hi => ?_, fun i s e => ?_⟩, fun j d e => ?_⟩, fun b o e n => e, fun i a e => .inl (.inr ⟨i, (le i a e).1⟩), fun _ n => n⟩
  · exact R.mutk b (z.elim .inl fun ⟨i, e⟩ => .inr ⟨i, (le i b e).1⟩)
  · have hi' : m.length ≤ i := by simpa [Me.let] using hi
    simp only [ow']
    rw [List.getElem?_eq_none hi']
  · unfold Me.let at e
    rw [List.getElem?_map] at e
    cases q : m[i]? with
    | none => rw [q] at e; cases e
    | some s0 =>
      rw [q] at e
      cases e
      have z := R.slot i s0 q
      cases s0 with
      | un => exact (show ow' i = none by simp only [ow', q])
      | fz d => obtain ⟨_, x, e, h⟩ := z; exact ⟨(show ow' i = none by simp only [ow', q]), x, e, h.anti sub⟩
      | ow d =>
        obtain ⟨a, e1, e2, e3, h⟩ := z
        refine ⟨(show ow' i = none by simp only [ow', q]), .ref a, e3, (h.anti sub).dv fun w => ?_⟩
        rcases w with w | ⟨j, w⟩
        · exact R.no0 i a e1 w
        · obtain ⟨w1, d', w2⟩ := le j a w
          have := R.inj i j a e1 w1
          subst this
          rw [q] at w2; cases w2
      | io d =>
        obtain ⟨a, e1, e2, e3, h⟩ := z
        exact ⟨a, (show ow' i = some a by simp only [ow', q]; exact e1), e2, e3, h.anti sub⟩
      | bw d => exact (R.nb i d q).elim
  · unfold Me.let at e
    rw [List.getElem?_map] at e
    cases q : m[j]? with
    | none => rw [q] at e; cases e
    | some s0 =>
      rw [q] at e
      cases s0 with
      | bw d' => exact R.nb j d' q
      | _ => cases e
theorem Go.upd {i : Nat} {a : Addr} {o : HO} (ho : ow i = some a) : Go O0 ow H ow (L2.upd H a o) :=
  ⟨fun b u e n => by rw [L2.upd_ne (show b ≠ a from fun z => n (z ▸ .inr ⟨i, ho⟩))]; exact e, fun j b e => .inl (.inr ⟨j, e⟩), fun b n => by
    by_cases q : b = a
    · rw [q, L2.upd_same]; simp
    · rw [L2.upd_ne q]; exact n⟩
end
end F

set_option Elab.async false
set_option linter.all false
set_option maxRecDepth 100000
set_option maxHeartbeats 4000000
namespace F
open PySem PySem.Spec PyProof.Rows L2 Hd

/-! ### judgements -/
def Pu (G : Gx) (E : XK) {α : Type} (r : Res α) (H : Hp) (k : α → Prop) : Prop := match r with
  | .ok a => k a
  | .exc c => ∀ C H', G.mg c = some (.ref C) → Same H H' → E (.ref C) none H'
  | .stuck => False
theorem Pu.bind {G : Gx} {E : XK} {α β : Type} {r : Res α} {f : α → Res β} {H : Hp} {k : β → Prop} (h : Pu G E (r.bind f) H k) : Pu G E r H fun a => Pu G E (f a) H k := by
  cases r with
  | ok a => exact h
  | exc c => exact h
  | stuck => exact h
theorem Pu.imp {G : Gx} {E : XK} {α : Type} {r : Res α} {H H' : Hp} {k k' : α → Prop} (h : Pu G E r H k) (g : Same H H') (hk : ∀ a, k a → k' a) : Pu G E r H' k' := by
  cases r with
  | ok a => exact hk a h
  | exc c => exact fun C H1 e g1 => h C H1 e (g.trans g1)
  | stuck => exact h
theorem Pu.ofO {G : Gx} {E : XK} {α : Type} {r : Option α} {H : Hp} {k : α → Prop} (h : Pu G E (ofO r) H k) : ∃ a, r = some a ∧ k a := by
  cases r with
  | some a => exact ⟨a, rfl, h⟩
  | none => exact h.elim
def tE (G : Gx) (E : XK) (f : Me → Res D) : TE := fun σ H Q => ∃ O0 M0 H0 ow m, Rel G O0 M0 H0 ow σ H m ∧ Pu G E (f m) H fun d => ∀ v H', Same H H' → DV G (Ow O0 ow) H' v d → Q v H'
def tB (G : Gx) (E : XK) (f : Me → Res D) : TE := fun σ H Q => ∃ O0 M0 H0 ow m, Rel G O0 M0 H0 ow σ H m ∧ Pu G E (f m) H fun d => ∀ v H', Same H H' → DW G (Ow O0 ow) H' v d → Q v H'
def tN (G : Gx) (E : XK) (f : Me → Res D) : TE := fun σ H Q => ∃ O0 M0 H0 ow m, Rel G O0 M0 H0 ow σ H m ∧ Pu G E (f m) H fun d => ∀ p H', Same H H' → H p = none → OV G (Op (Ow O0 ow) p) H' p d → Q (.ref p) H'
def tT (G : Gx) (E : XK) (f : Me → Res Bool) : TT := fun σ H Q => ∃ O0 M0 H0 ow m, Rel G O0 M0 H0 ow σ H m ∧ Pu G E (f m) H fun b => ∀ H', Same H H' → Q b H'
def tAE (G : Gx) (E : XK) (f : Me → Res (List D)) : TA := fun σ H Q => ∃ O0 M0 H0 ow m, Rel G O0 M0 H0 ow σ H m ∧ Pu G E (f m) H fun ds => ∀ vs H', Same H H' → DVs G (Ow O0 ow) H' vs ds → Q vs H'
def tAB (G : Gx) (E : XK) (f : Me → Res (List D)) : TA := fun σ H Q => ∃ O0 M0 H0 ow m, Rel G O0 M0 H0 ow σ H m ∧ Pu G E (f m) H fun ds => ∀ vs H', Same H H' → DWs G (Ow O0 ow) H' vs ds → Q vs H'
abbrev FE (X : Cx) (E : XK) (e : Expr) (f : Me → Res D) : Prop := PE X e (tE (gx X) E f)
abbrev FB (X : Cx) (E : XK) (e : Expr) (f : Me → Res D) : Prop := PE X e (tB (gx X) E f)
abbrev FN (X : Cx) (E : XK) (e : Expr) (f : Me → Res D) : Prop := PE X e (tN (gx X) E f)
abbrev FT (X : Cx) (E : XK) (e : Expr) (f : Me → Res Bool) : Prop := PT X e (tT (gx X) E f)
abbrev FW (X : Cx) (E : XK) (e : Expr) (f : Me → Res Bool) : Prop := PW X e (tT (gx X) E f)
abbrev FAE (X : Cx) (E : XK) (es : List Expr) (f : Me → Res (List D)) : Prop := PA X es (tAE (gx X) E f)
abbrev FAB (X : Cx) (E : XK) (es : List Expr) (f : Me → Res (List D)) : Prop := PA X es (tAB (gx X) E f)
theorem pt_weak {X : Cx} {e : Expr} {T T' : TT} (h : PT X e T) (k : ∀ σ H Q, T' σ H Q → T σ H Q) : PT X e T' := fun pins s σ H Q I q => h pins s σ H Q I (k σ H Q q)
theorem pw_weak {X : Cx} {e : Expr} {T T' : TT} (h : PW X e T) (k : ∀ σ H Q, T' σ H Q → T σ H Q) : PW X e T' := fun wh pins s σ H Q I q => h wh pins s σ H Q I (k σ H Q q)
theorem pa_weak {X : Cx} {es : List Expr} {T T' : TA} (h : PA X es T) (k : ∀ σ H Q, T' σ H Q → T σ H Q) : PA X es T' := fun pos pins s σ H Q I q => h pos pins s σ H Q I (k σ H Q q)

section
variable {X : Cx} {E : XK} {e a b c : Expr} {es : List Expr} {f fa fb fc : Me → Res D} {fs : Me → Res (List D)} {ft fu : Me → Res Bool} {pos : Pos}
theorem fb_of (h : FE X E e f) : FB X E e f := pe_weak h fun _ _ _ ⟨O0, M0, H0, ow, m, R, q⟩ => ⟨O0, M0, H0, ow, m, R, q.imp (Same.refl _) fun _ k v H' g d => k v H' g (.inl d)⟩
theorem fe_new (h : FN X E e f) : FE X E e f := pe_weak h fun _ _ _ ⟨O0, M0, H0, ow, m, R, q⟩ => ⟨O0, M0, H0, ow, m, R, q.imp (Same.refl _) fun _ k p H' g n o =>
  k _ H' g ((o.anti fun b z => .inl (.inl z)).dv (R.noOw n))⟩

/-! ### names, constants -/
def fVar (i : Nat) : Me → Res D := fun m => match m[i]? with
  | some (.fz d) => .ok d
  | _ => .stuck
def fVarB (i : Nat) : Me → Res D := fun m => match m[i]? with
  | some (.fz d) => .ok d
  | some (.ow d) => .ok d
  | some (.io d) => .ok d
  | some (.bw d) => .ok d
  | _ => .stuck
theorem fe_var (i : Nat) {x : Str} (hN : X.N[i]? = some x := by rfl) (hv : Vis X.env.scope x := by first | exact Or.inl rfl | exact Or.inr (Or.inl rfl) | exact Or.inr (Or.inr rfl)) (hd : (x == ("__debug__" : Str)) = false := by decide)
    (hcd : (x == ("__classdict__" : Str)) = false := by decide) : FE X E (.Name x pos) (fVar i) := pe_weak (pe_var hN hv hd hcd) fun σ H Q ⟨O0, M0, H0, ow, m, R, q⟩ => by
  unfold fVar at q
  cases e : m[i]? with
  | none => rw [e] at q; exact q.elim
  | some s =>
    rw [e] at q
    cases s with
    | fz d =>
      obtain ⟨_, x, h1, h2⟩ := R.slot i _ e
      exact ⟨x, h1, q x H (Same.refl _) h2⟩
    | _ => exact q.elim
theorem fb_var (i : Nat) {x : Str} (hN : X.N[i]? = some x := by rfl) (hv : Vis X.env.scope x := by first | exact Or.inl rfl | exact Or.inr (Or.inl rfl) | exact Or.inr (Or.inr rfl)) (hd : (x == ("__debug__" : Str)) = false := by decide)
    (hcd : (x == ("__classdict__" : Str)) = false := by decide) : FB X E (.Name x pos) (fVarB i) := pe_weak (pe_var hN hv hd hcd) fun σ H Q ⟨O0, M0, H0, ow, m, R, q⟩ => by
  unfold fVarB at q
  cases e : m[i]? with
  | none => rw [e] at q; exact q.elim
  | some s =>
    rw [e] at q
    cases s with
    | fz d =>
      obtain ⟨_, x, h1, h2⟩ := R.slot i _ e
      exact ⟨x, h1, q x H (Same.refl _) (.inl h2)⟩
    | bw d =>
      obtain ⟨_, x, h1, h2⟩ := R.slot i _ e
      exact ⟨x, h1, q x H (Same.refl _) h2⟩
    | ow d =>
      obtain ⟨a, h1, h2, h3, h4⟩ := R.slot i _ e
      exact ⟨_, h3, q _ H (Same.refl _) (.inr ⟨a, rfl, .inr ⟨i, h1⟩, h4⟩)⟩
    | io d =>
      obtain ⟨a, h1, h2, h3, h4⟩ := R.slot i _ e
      exact ⟨_, h3, q _ H (Same.refl _) (.inr ⟨a, rfl, .inr ⟨i, h1⟩, h4⟩)⟩
    | un => exact q.elim
def fC (d : D) : Me → Res D := fun _ => .ok d
theorem fe_c {d : D} {v : V} (h : PE X e (tC v)) (hd : ∀ O H, DV (gx X) O H v d) : FE X E e (fC d) := pe_weak h fun σ H Q ⟨O0, M0, H0, ow, m, R, q⟩ => q v H (Same.refl _) (hd _ _)
theorem fe_int {i j pos} : FE X E (.Constant (.int i) j pos) (fC (.int i)) := fe_c pe_int fun _ _ => .int i
theorem fe_bl {b j pos} : FE X E (.Constant (.bool b) j pos) (fC (.bl b)) := fe_c pe_bl fun _ _ => .bl b
theorem fe_str {x j pos} : FE X E (.Constant (.str x) j pos) (fC (.str x)) := fe_c pe_str fun _ _ => .str x
/-- a name of the module's top -/
theorem fe_glob {x : Str} {v : V} {u : Value} {d : D} (hg : Gl X x) (hm : X.mg x = some u) (r : RelV v u) (hd : ∀ O H, DV (gx X) O H v d) (hdb : (x == ("__debug__" : Str)) = false := by decide) : FE X E (.Name x pos) (fC d) := fe_c (pe_glob hg hm r hdb) hd

/-! ### operations -/
/-- what an operation on data is to bring about -/
def rG (G : Gx) (g : D → D → Option D) : R2 := fun x y H Q => ∃ O d e r, (∀ b, O b → MutK (H b)) ∧ DW G O H x d ∧ DW G O H y e ∧ g d e = some r ∧ ∀ v H', Same H H' → DV G O H' v r → Q v H'
def rGB (G : Gx) (g : D → D → Option Bool) : R2 := fun x y H Q => ∃ O d e r, (∀ b, O b → MutK (H b)) ∧ DW G O H x d ∧ DW G O H y e ∧ g d e = some r ∧ Q (.bl r) H
def rG1 (G : Gx) (g : D → Option D) : V → Hp → VK → Prop := fun x H Q => ∃ O d r, (∀ b, O b → MutK (H b)) ∧ DW G O H x d ∧ g d = some r ∧ ∀ v H', Same H H' → DV G O H' v r → Q v H'
def rGC (G : Gx) (g : List D → Option D) : List V → Hp → VK → Prop := fun xs H Q => ∃ O ds r, (∀ b, O b → MutK (H b)) ∧ DWs G O H xs ds ∧ g ds = some r ∧ ∀ v H', Same H H' → DV G O H' v r → Q v H'
def rGCN (G : Gx) (g : List D → Option D) : List V → Hp → VK → Prop := fun xs H Q => ∃ O ds r, (∀ b, O b → MutK (H b)) ∧ DWs G O H xs ds ∧ g ds = some r ∧ ∀ p H', Same H H' → H p = none → OV G (Op O p) H' p r → Q (.ref p) H'
def rGM (G : Gx) (g : D → List D → Option D) : V → List V → Hp → VK → Prop := fun x xs H Q => ∃ O d ds r, (∀ b, O b → MutK (H b)) ∧ DW G O H x d ∧ DWs G O H xs ds ∧ g d ds = some r ∧ ∀ v H', Same H H' → DV G O H' v r → Q v H'
def fBin (g : D → D → Option D) (fa fb : Me → Res D) : Me → Res D := fun m => (fa m).bind fun x => (fb m).bind fun y => ofO (g x y)
def fCmp (g : D → D → Option Bool) (fa fb : Me → Res D) : Me → Res D := fun m => (fa m).bind fun x => (fb m).bind fun y => ofO ((g x y).map D.bl)
def fCmpT (g : D → D → Option Bool) (fa fb : Me → Res D) : Me → Res Bool := fun m => (fa m).bind fun x => (fb m).bind fun y => ofO (g x y)
def fUn (g : D → Option D) (fa : Me → Res D) : Me → Res D := fun m => (fa m).bind fun x => ofO (g x)
theorem two {G : Gx} {σ : L2.St} {H : Hp} {Q : VK} {r : R2} {O0 M0 : Addr → Prop} {H0 : Hp} {ow : Os} {m : Me} {β : Type} {g : D → D → Res β} {K : β → Hp → Prop} (R : Rel G O0 M0 H0 ow σ H m) (h : Pu G E ((fa m).bind fun x => (fb m).bind fun y => g x y) H fun z => K z H)
    (hm : ∀ z H', K z H → Same H H' → K z H')
    (k : ∀ x y d e H', Same H H' → DW G (Ow O0 ow) H' x d → DW G (Ow O0 ow) H' y e → Pu G E (g d e) H' (fun z => K z H') → Rel G O0 M0 H0 ow σ H' m → r x y H' Q) : tOp r (tB G E fa) (tB G E fb) σ H Q := by
  refine ⟨O0, M0, H0, ow, m, R, h.bind.imp (Same.refl _) fun d q x H1 g1 hx => ⟨O0, M0, H0, ow, m, R.mono g1, q.bind.imp g1 fun e q2 y H2 g2 hy => ?_⟩⟩
  exact k x y d e H2 (g1.trans g2) (hx.mono g2) hy (q2.imp (g1.trans g2) fun z kz => hm z _ kz (g1.trans g2)) (R.mono (g1.trans g2))
theorem fe_bin {g : D → D → Option D} {op : Operator} (ho : OpR X (binaryOp op) (rG (gx X) g)) (ha : FB X E a fa) (hb : FB X E b fb) : FE X E (.BinOp a op b pos) (fBin g fa fb) :=
  pe_weak (pe_op ho ha hb) fun σ H Q ⟨O0, M0, H0, ow, m, R, q⟩ => two R (K := fun z H => ∀ v H', Same H H' → DV (gx X) (Ow O0 ow) H' v z → Q v H') q (fun _ _ k g v H' g' d => k v H' (g.trans g') d) fun x y d e H' g hx hy q' R' => by
    obtain ⟨r, hr, k⟩ := q'.ofO
    exact ⟨_, d, e, r, R'.mutk, hx, hy, hr, k⟩
theorem fe_ix {g : D → D → Option D} (ho : IxR X (rG (gx X) g)) (ha : FB X E a fa) (hb : FB X E b fb) (hs : PlainIx b) : FE X E (.Subscript a b pos) (fBin g fa fb) :=
  pe_weak (pe_ix ho ha hb hs) fun σ H Q ⟨O0, M0, H0, ow, m, R, q⟩ => two R (K := fun z H => ∀ v H', Same H H' → DV (gx X) (Ow O0 ow) H' v z → Q v H') q (fun _ _ k g v H' g' d => k v H' (g.trans g') d) fun x y d e H' g hx hy q' R' => by
    obtain ⟨r, hr, k⟩ := q'.ofO
    exact ⟨_, d, e, r, R'.mutk, hx, hy, hr, k⟩
theorem omap {α β : Type} {o : Option α} {f : α → β} {r : β} (h : o.map f = some r) : ∃ a, o = some a ∧ f a = r := by
  cases o with
  | none => cases h
  | some a => exact ⟨a, rfl, Option.some.inj h⟩
theorem fe_cmp {g : D → D → Option Bool} {op : CmpOp} (ho : OpR X (compareOp op) (rGB (gx X) g)) (ha : FB X E a fa) (hb : FB X E b fb) (hm : behindInMarks op b = false) : FE X E (.Compare a [op] [b] pos) (fCmp g fa fb) :=
  pe_weak (pe_cmpR ho ha hb hm) fun σ H Q ⟨O0, M0, H0, ow, m, R, q⟩ => two R (K := fun z H => ∀ v H', Same H H' → DV (gx X) (Ow O0 ow) H' v z → Q v H') q (fun _ _ k g v H' g' d => k v H' (g.trans g') d) fun x y d e H' g hx hy q' R' => by
    obtain ⟨r, hr, k⟩ := q'.ofO
    obtain ⟨c, hc, rfl⟩ := omap hr
    exact ⟨_, d, e, c, R'.mutk, hx, hy, hc, k _ _ (Same.refl _) (.bl c)⟩
theorem ft_cmp {g : D → D → Option Bool} {op : CmpOp} (ho : OpR X (compareOp op) (rGB (gx X) g)) (ha : FB X E a fa) (hb : FB X E b fb) (hm : behindInMarks op b = false) : FT X E (.Compare a [op] [b] pos) (fCmpT g fa fb) :=
  pt_weak (pt_cmpR ho ha hb hm) fun σ H Q ⟨O0, M0, H0, ow, m, R, q⟩ => two R (K := fun z H => ∀ H', Same H H' → Q z H') q (fun _ _ k g H' g' => k H' (g.trans g')) fun x y d e H' g hx hy q' R' => by
    obtain ⟨c, hc, k⟩ := q'.ofO
    exact ⟨_, d, e, c, R'.mutk, hx, hy, hc, c, rfl, k _ (Same.refl _)⟩
theorem fe_un {g : D → Option D} {op : UnaryOp} (ho : UnR X (unaryOp op) (rG1 (gx X) g)) (ha : FB X E a fa) : FE X E (.UnaryOp op a pos) (fUn g fa) :=
  pe_weak (pe_un ho ha) fun σ H Q ⟨O0, M0, H0, ow, m, R, q⟩ => ⟨O0, M0, H0, ow, m, R, q.bind.imp (Same.refl _) fun d q x H1 g1 hx => by
    obtain ⟨r, hr, k⟩ := q.ofO
    exact ⟨_, d, r, (R.mono g1).mutk, hx, hr, fun v H' g d => k v H' (g1.trans g) d⟩⟩
/-! a op1 b op2 c -/
def fChain (g g' : D → D → Option Bool) (fa fb fc : Me → Res D) : Me → Res D := fun m => (fa m).bind fun x => (fb m).bind fun y => (ofO (g x y)).bind fun c => if c then (fc m).bind fun z => ofO ((g' y z).map D.bl) else .ok (.bl false)
def fChainT (g g' : D → D → Option Bool) (fa fb fc : Me → Res D) : Me → Res Bool := fun m => (fa m).bind fun x => (fb m).bind fun y => (ofO (g x y)).bind fun c => if c then (fc m).bind fun z => ofO (g' y z) else .ok false
/-! ### tests -/
def fTv (fa : Me → Res D) : Me → Res Bool := fun m => (fa m).bind fun x => match x with
  | .bl b => .ok b
  | _ => .stuck
theorem ft_val (h : FE X E e f) (he : ∀ whole, isTrue e X.env whole = (do let v ← whole; standAt e.pos; holding [v] (truthy v)) := by intro _; rfl) : FT X E e (fTv f) :=
  pt_weak (pt_val h he) fun σ H Q ⟨O0, M0, H0, ow, m, R, q⟩ => ⟨O0, M0, H0, ow, m, R, q.bind.imp (Same.refl _) fun d q v H' g hv => by
    cases d with
    | bl b => cases hv; exact ⟨b, rfl, q H' g⟩
    | _ => exact q.elim⟩
def fNotT (ft : Me → Res Bool) : Me → Res Bool := fun m => (ft m).bind fun c => .ok (!c)
def fAndT (ft fu : Me → Res Bool) : Me → Res Bool := fun m => (ft m).bind fun c => if c then fu m else .ok false
def fOrT (ft fu : Me → Res Bool) : Me → Res Bool := fun m => (ft m).bind fun c => if c then .ok true else fu m
theorem ft_not (h : FT X E a ft) : FT X E (.UnaryOp .Not a pos) (fNotT ft) := pt_weak (pt_not h) fun σ H Q ⟨O0, M0, H0, ow, m, R, q⟩ => ⟨O0, M0, H0, ow, m, R, q.bind.imp (Same.refl _) fun b q H' g => q H' g⟩
theorem fw_and1 (h : FT X E a ft) : FW X E (.BoolOp .And [a] pos) ft := pw_and1 h
theorem fw_or1 (h : FT X E a ft) : FW X E (.BoolOp .Or [a] pos) ft := pw_or1 h
theorem fw_and (ha : FT X E a ft) (hb : FW X E (.BoolOp .And (b :: es) pos) fu) : FW X E (.BoolOp .And (a :: b :: es) pos) (fAndT ft fu) :=
  pw_weak (pw_and ha hb) fun σ H Q ⟨O0, M0, H0, ow, m, R, q⟩ => ⟨O0, M0, H0, ow, m, R, q.bind.imp (Same.refl _) fun b q H' g => by
    cases b with
    | true => rw [if_pos rfl] at q ⊢; exact ⟨O0, M0, H0, ow, m, R.mono g, q.imp g fun _ k H1 g1 => k H1 (g.trans g1)⟩
    | false => rw [if_neg Bool.false_ne_true] at q ⊢; exact q H' g⟩
theorem fw_or (ha : FT X E a ft) (hb : FW X E (.BoolOp .Or (b :: es) pos) fu) : FW X E (.BoolOp .Or (a :: b :: es) pos) (fOrT ft fu) :=
  pw_weak (pw_or ha hb) fun σ H Q ⟨O0, M0, H0, ow, m, R, q⟩ => ⟨O0, M0, H0, ow, m, R, q.bind.imp (Same.refl _) fun b q H' g => by
    cases b with
    | false => rw [if_neg Bool.false_ne_true] at q ⊢; exact ⟨O0, M0, H0, ow, m, R.mono g, q.imp g fun _ k H1 g1 => k H1 (g.trans g1)⟩
    | true => rw [if_pos rfl] at q ⊢; exact q H' g⟩
theorem ft_w (h : FW X E e ft) : FT X E e ft := L2.PW.pt h
/-! and, or, not as values -/
def fNot (fa : Me → Res D) : Me → Res D := fun m => (fTv fa m).bind fun c => .ok (.bl !c)
def fAnd (fa fb : Me → Res D) : Me → Res D := fun m => (fTv fa m).bind fun c => if c then fb m else .ok (.bl false)
def fOr (fa fb : Me → Res D) : Me → Res D := fun m => (fTv fa m).bind fun c => if c then .ok (.bl true) else fb m
theorem ftv_pu {G : Gx} {O : Addr → Prop} {m : Me} {H : Hp} {k : Bool → Prop} (h : Pu G E (fTv fa m) H k) : Pu G E (fa m) H fun d => ∃ b, d = .bl b ∧ k b := by
  refine h.bind.imp (Same.refl _) fun d q => ?_
  cases d with
  | bl b => exact ⟨b, rfl, q⟩
  | _ => exact q.elim
theorem fe_one {op} (h : FE X E a fa) : FE X E (.BoolOp op [a] pos) fa := pe_one h
theorem fe_and (ha : FE X E a fa) (hb : FE X E (.BoolOp .And (b :: es) pos) fb) : FE X E (.BoolOp .And (a :: b :: es) pos) (fAnd fa fb) :=
  pe_weak (pe_and ha hb) fun σ H Q ⟨O0, M0, H0, ow, m, R, q⟩ => ⟨O0, M0, H0, ow, m, R, (ftv_pu (O := O0) q.bind).imp (Same.refl _) fun d ⟨b, e, q⟩ v H' g hv => by
    subst e
    cases hv
    refine ⟨b, rfl, ?_⟩
    cases b with
    | true => rw [if_pos rfl] at q ⊢; exact ⟨O0, M0, H0, ow, m, R.mono g, q.imp g fun _ k v H1 g1 => k v H1 (g.trans g1)⟩
    | false => rw [if_neg Bool.false_ne_true] at q ⊢; exact q _ H' g (.bl false)⟩
theorem fe_not (ha : FE X E a fa) : FE X E (.UnaryOp .Not a pos) (fNot fa) :=
  pe_weak (pe_not ha) fun σ H Q ⟨O0, M0, H0, ow, m, R, q⟩ => ⟨O0, M0, H0, ow, m, R, (ftv_pu (O := O0) q.bind).imp (Same.refl _) fun d ⟨b, e, q⟩ v H' g hv => by
    subst e
    cases hv
    exact ⟨b, rfl, q _ H' g (.bl _)⟩⟩
def fIf (ft : Me → Res Bool) (fa fb : Me → Res D) : Me → Res D := fun m => (ft m).bind fun c => if c then fa m else fb m
theorem fe_if (hc : FT X E c ft) (ha : FE X E a fa) (hb : FE X E b fb) : FE X E (.IfExp c a b pos) (fIf ft fa fb) :=
  pe_weak (pe_ifExp hc ha hb) fun σ H Q ⟨O0, M0, H0, ow, m, R, q⟩ => ⟨O0, M0, H0, ow, m, R, q.bind.imp (Same.refl _) fun b q H' g => by
    cases b with
    | false => rw [if_neg Bool.false_ne_true] at q ⊢; exact ⟨O0, M0, H0, ow, m, R.mono g, q.imp g fun _ k v H1 g1 => k v H1 (g.trans g1)⟩
    | true => rw [if_pos rfl] at q ⊢; exact ⟨O0, M0, H0, ow, m, R.mono g, q.imp g fun _ k v H1 g1 => k v H1 (g.trans g1)⟩⟩
/-! ### argument lists, displays, calls of what is built in -/
def fNil : Me → Res (List D) := fun _ => .ok []
def fCons (fa : Me → Res D) (fs : Me → Res (List D)) : Me → Res (List D) := fun m => (fa m).bind fun x => (fs m).bind fun xs => .ok (x :: xs)
theorem fae_nil : FAE X E [] fNil := pa_weak pa_nil fun σ H Q ⟨O0, M0, H0, ow, m, R, q⟩ => q [] H (Same.refl _) .nil
theorem fab_nil : FAB X E [] fNil := pa_weak pa_nil fun σ H Q ⟨O0, M0, H0, ow, m, R, q⟩ => q [] H (Same.refl _) .nil
theorem fae_cons (ha : FE X E e fa) (hr : FAE X E es fs) (hs : starEach (e :: es) X.env = (false, eval e X.env) :: starEach es X.env := by rfl) : FAE X E (e :: es) (fCons fa fs) :=
  pa_weak (pa_cons ha hr hs) fun σ H Q ⟨O0, M0, H0, ow, m, R, q⟩ => ⟨O0, M0, H0, ow, m, R, q.bind.imp (Same.refl _) fun d q v H1 g1 hv => ⟨O0, M0, H0, ow, m, R.mono g1, q.bind.imp g1 fun ds q vs H2 g2 hvs => q _ H2 (g1.trans g2) (.cons (hv.mono g2) hvs)⟩⟩
theorem fab_cons (ha : FB X E e fa) (hr : FAB X E es fs) (hs : starEach (e :: es) X.env = (false, eval e X.env) :: starEach es X.env := by rfl) : FAB X E (e :: es) (fCons fa fs) :=
  pa_weak (pa_cons ha hr hs) fun σ H Q ⟨O0, M0, H0, ow, m, R, q⟩ => ⟨O0, M0, H0, ow, m, R, q.bind.imp (Same.refl _) fun d q v H1 g1 hv => ⟨O0, M0, H0, ow, m, R.mono g1, q.bind.imp g1 fun ds q vs H2 g2 hvs => q _ H2 (g1.trans g2) (.cons (hv.mono g2) hvs)⟩⟩
def fTup (fs : Me → Res (List D)) : Me → Res D := fun m => (fs m).bind fun ds => if ds.length ≤ sizeLine then .ok (.tup ds) else .stuck
def fLst (fs : Me → Res (List D)) : Me → Res D := fun m => (fs m).bind fun ds => if ds.length ≤ sizeLine then .ok (.lst ds) else .stuck
theorem pu_if {G : Gx} {α : Type} {c : Prop} [Decidable c] {r : α} {H : Hp} {k : α → Prop} (h : Pu G E (if c then .ok r else .stuck) H k) : c ∧ k r := by
  by_cases z : c
  · rw [if_pos z] at h; exact ⟨z, h⟩
  · rw [if_neg z] at h; exact h.elim
theorem fe_tup {x1} (h : FAE X E es fs) : FE X E (.Tuple es x1 pos) (fTup fs) := pe_weak (pe_tupG h) fun σ H Q ⟨O0, M0, H0, ow, m, R, q⟩ => ⟨O0, M0, H0, ow, m, R, q.bind.imp (Same.refl _) fun ds q vs H1 g1 hv => by
  obtain ⟨hz, k⟩ := pu_if q
  exact ⟨by rw [dvs_len hv]; exact hz, fun p H' g e => k _ H' (g1.trans g) (.tup (SqU.of e) (hv.mono g))⟩⟩
theorem fn_lst (h : FAE X E es fs) : FN X E (.List es pos) (fLst fs) := pe_weak (pe_lst (pa_cl h)) fun σ H Q ⟨O0, M0, H0, ow, m, R, q⟩ => ⟨fun vs H1 => Same H H1 ∧ ∃ ds, DVs (gx X) (Ow O0 ow) H1 vs ds ∧ ds.length ≤ sizeLine ∧ ∀ p H', Same H H' → H p = none → OV (gx X) (Op (Ow O0 ow) p) H' p (.lst ds) → Q (.ref p) H', ⟨O0, M0, H0, ow, m, R, q.bind.imp (Same.refl _) fun ds q vs H1 g1 hv => ⟨g1, ds, hv, pu_if q⟩⟩, fun vs H1 ⟨g1, ds, hv, hz, k⟩ =>
  ⟨by rw [dvs_len hv]; exact hz, fun p hp => k p _ (g1.trans (same_new hp _)) (g1.free hp) ⟨vs, upd_same, (hv.anti fun b z => z.elim .inl fun e => .inr (by rw [e]; exact hp)).mono (same_new hp _)⟩⟩⟩
/-- f(e, ..) of a built-in function; of a built-in type -/
def fCall (g : List D → Option D) (fs : Me → Res (List D)) : Me → Res D := fun m => (fs m).bind fun ds => ofO (g ds)
theorem call_go {g : List D → Option D} {σ : L2.St} {H : Hp} {Q : VK} (h : tE (gx X) E (fCall g fs) σ H Q) : tCB (rGC (gx X) g) (tAB (gx X) E fs) σ H Q := by
  obtain ⟨O0, M0, H0, ow, m, R, q⟩ := h
  refine ⟨O0, M0, H0, ow, m, R, q.bind.imp (Same.refl _) fun ds q vs H1 g1 hv => ?_⟩
  obtain ⟨r, hr, k⟩ := q.ofO
  exact ⟨_, ds, r, (R.mono g1).mutk, hv, hr, fun v H' g d => k v H' (g1.trans g) d⟩
section
variable {x : Str} {p : Pos} {id T : String} {g : List D → Option D}
theorem fe_callB (hc : CallR X (.builtin id) (rGC (gx X) g)) (hg : Gl X x) (hm : X.mg x = none) (hv : bootBuiltins x = some (.builtin id)) (ha : FAB X E (e :: es) fs) (hn : x ≠ "__name__" := by decide) (hdb : (x == ("__debug__" : Str)) = false := by decide)
    (he : starEach (e :: es) X.env = (false, eval e X.env) :: starEach es X.env := by rfl) (hpl : (backTo pos (starEach es X.env)).any (·.1) = false := by rfl) : FE X E (.Call (.Name x p) (e :: es) [] pos) (fCall g fs) :=
  pe_weak (pe_callB hc hg hm hv ha hn hdb he hpl) fun _ _ _ h => call_go h
theorem fe_callTy (hc : CallR X (.type T) (rGC (gx X) g)) (hg : Gl X x) (hm : X.mg x = none) (hv : bootBuiltins x = some (.type T)) (ha : FAB X E (e :: es) fs) (hn : x ≠ "__name__" := by decide) (hdb : (x == ("__debug__" : Str)) = false := by decide)
    (he : starEach (e :: es) X.env = (false, eval e X.env) :: starEach es X.env := by rfl) (hpl : (backTo pos (starEach es X.env)).any (·.1) = false := by rfl) : FE X E (.Call (.Name x p) (e :: es) [] pos) (fCall g fs) :=
  pe_weak (pe_callTy hc hg hm hv ha hn hdb he hpl) fun _ _ _ h => call_go h
end
/-! methods that only look -/
def tyD : String → D → Bool
  | "str", .str _ => true
  | "list", .lst _ => true
  | "dict", .dct _ _ => true
  | "dict", .dcu _ _ => true
  | _, _ => false
theorem tyD_V {G : Gx} {O : Addr → Prop} {H : Hp} {v : V} {d : D} {T : String} (h : DW G O H v d) (t : tyD T d = true) : tyV G.K T v H := by
  unfold tyD at t
  split at t
  · cases dw_str h; rfl
  · obtain ⟨a, xs, rfl, hx, _⟩ := dw_lst h; exact .inl ⟨rfl, xs, hx⟩
  · obtain ⟨a, kvs, vs, rfl, hx, _⟩ := dw_dct h; exact .inr (.inr (.inl ⟨rfl, .inl ⟨kvs, hx⟩⟩))
  · obtain ⟨a, kvs, vs, rfl, hx, _⟩ := dw_dcu h; exact .inr (.inr (.inl ⟨rfl, .inr ⟨_, kvs, .inl hx⟩⟩))
  · cases t
def fMeth0 (T : String) (g : D → List D → Option D) (fo : Me → Res D) : Me → Res D := fun m => (fo m).bind fun d => if tyD T d = true then ofO (g d []) else .stuck
def fMeth (T : String) (g : D → List D → Option D) (fo : Me → Res D) (fs : Me → Res (List D)) : Me → Res D := fun m => (fo m).bind fun d => if tyD T d = true then (fs m).bind fun ds => ofO (g d ds) else .stuck
theorem pu_if' {G : Gx} {α : Type} {c : Prop} [Decidable c] {r : Res α} {H : Hp} {k : α → Prop} (h : Pu G E (if c then r else .stuck) H k) : c ∧ Pu G E r H k := by
  by_cases z : c
  · rw [if_pos z] at h; exact ⟨z, h⟩
  · rw [if_neg z] at h; exact h.elim
section
variable {o : Expr} {name : Str} {apos cpos : Pos} {T id : String} {g : D → List D → Option D}
theorem fe_bm (pa : PlainAttrs T) (slot : Slot T name id) (hty : typeOf (.builtin id) = pure (.type "method_descriptor")) (hm : MtR X id (rGM (gx X) g)) (ho : FB X E o fa) (ha : FAB X E (e :: es) fs)
    (hbase : attributeBase o name X.env (eval o X.env) = eval o X.env := by rfl)
    (hfew : ((backTo cpos (starEach (e :: es) X.env)).all (fun x => !x.1) && (backToKw cpos (keywordEach [] X.env)).all (fun x => x.1.isSome)
      && decide ((e :: es).length + ([] : List Keyword).length + (if ([] : List Keyword).isEmpty then 0 else 1) < 30)) = true := by rfl)
    (hline : (apos.endLine == cpos.line) = true := by rfl) (hs : starEach (e :: es) X.env = (false, eval e X.env) :: starEach es X.env := by rfl) (hplain : (backTo cpos (starEach es X.env)).any (·.1) = false := by rfl) :
    FE X E (.Call (.Attribute o name apos) (e :: es) [] cpos) (fMeth T g fa fs) :=
  pe_weak (pe_bm pa slot hty hm ho ha hbase hfew hline hs hplain) fun σ H Q ⟨O0, M0, H0, ow, m, R, q⟩ => ⟨O0, M0, H0, ow, m, R, q.bind.imp (Same.refl _) fun d q v H1 g1 hv => by
    obtain ⟨t, q⟩ := pu_if' q
    refine ⟨tyD_V hv t, O0, M0, H0, ow, m, R.mono g1, q.bind.imp g1 fun ds q vs H2 g2 hvs => ?_⟩
    obtain ⟨r, hr, k⟩ := q.ofO
    exact ⟨_, d, ds, r, (R.mono (g1.trans g2)).mutk, hv.mono g2, hvs, hr, fun v H' g d => k v H' ((g1.trans g2).trans g) d⟩⟩
end
end
end F

set_option Elab.async false
set_option linter.all false
set_option maxRecDepth 100000
set_option maxHeartbeats 4000000
namespace F
open PySem PySem.Spec PyProof.Rows L2 Hd

/-! ### statements -/
inductive Fl where
  | nx | bk | ct | rt (fr : Bool) (d : D)
/-- a new thing, nobody else's -/
def Fr (G : Gx) (O : Addr → Prop) (H0 : Hp) (v : V) (H' : Hp) (d : D) : Prop := ∃ p, v = .ref p ∧ H0 p = none ∧ OV G (Op O p) H' p d
def Ss (G : Gx) (E : XK) (O0 M0 : Addr → Prop) (H0 : Hp) (ow : Os) (H : Hp) (W : Ends) (r : Res (Fl × Me)) : Prop := match r with
  | .ok (.nx, m') => ∀ ow' σ' H', RelS G O0 M0 H0 ow' σ' H' m' → Go O0 ow H ow' H' → W.nx σ' H'
  | .ok (.bk, m') => ∀ ow' σ' H', RelS G O0 M0 H0 ow' σ' H' m' → Go O0 ow H ow' H' → W.bk σ' H'
  | .ok (.ct, m') => ∀ ow' σ' H', RelS G O0 M0 H0 ow' σ' H' m' → Go O0 ow H ow' H' → W.ct σ' H'
  | .ok (.rt fr d, m') => ∀ v ow' σ' H', RelS G O0 M0 H0 ow' σ' H' m' → Go O0 ow H ow' H' → DV G (Ow O0 ow') H' v d → (fr = true → Fr G (Ow O0 ow') H0 v H' d) → W.rt v H'
  | .exc c => ∀ C H', G.mg c = some (.ref C) → Kp M0 H0 H' → E (.ref C) none H'
  | .stuck => False
def tS (G : Gx) (E : XK) (g : Me → Res (Fl × Me)) : TS := fun W σ H => ∃ O0 M0 H0 ow m, RelS G O0 M0 H0 ow σ H m ∧ Ss G E O0 M0 H0 ow H W (g m)
abbrev FS (X : Cx) (E : XK) (st : Stmt) (g : Me → Res (Fl × Me)) : Prop := PS X st (tS (gx X) E g)
abbrev FSs (X : Cx) (E : XK) (st : List Stmt) (g : Me → Res (Fl × Me)) : Prop := PSs X st (tS (gx X) E g)
theorem ps_weak {X : Cx} {st : Stmt} {T T' : TS} (h : PS X st T) (k : ∀ W σ H, T' W σ H → T W σ H) : PS X st T' := fun pins s σ H W I q => h pins s σ H W I (k W σ H q)
theorem pss_weak {X : Cx} {st : List Stmt} {T T' : TS} (h : PSs X st T) (k : ∀ W σ H, T' W σ H → T W σ H) : PSs X st T' := fun pins s σ H W I q => h pins s σ H W I (k W σ H q)
section
variable {G : Gx} {E : XK} {O0 M0 : Addr → Prop} {H0 H H' : Hp} {ow ow' : Os} {σ : L2.St} {m : Me} {W : Ends} {r : Res (Fl × Me)}
/-- what an expression ahead wants -/
theorem Ss.pu {α : Type} {x : Res α} {k : α → Res (Fl × Me)} (R : Rel G O0 M0 H0 ow σ H m) (h : Ss G E O0 M0 H0 ow H W (x.bind k)) : Pu G E x H fun a => Ss G E O0 M0 H0 ow H W (k a) := by
  cases x with
  | ok a => exact h
  | exc c => exact fun C H' e g => h C H' e fun b o e n => g b o (R.keep b o e n)
  | stuck => exact h
theorem Ss.go (h : Ss G E O0 M0 H0 ow H W r) (g : Go O0 ow H ow' H') : Ss G E O0 M0 H0 ow' H' W r := by
  cases r with
  | ok a =>
    obtain ⟨f, m'⟩ := a
    cases f with
    | nx => exact fun ow1 σ1 H1 R g1 => h ow1 σ1 H1 R (g.trans g1)
    | bk => exact fun ow1 σ1 H1 R g1 => h ow1 σ1 H1 R (g.trans g1)
    | ct => exact fun ow1 σ1 H1 R g1 => h ow1 σ1 H1 R (g.trans g1)
    | rt fr d => exact fun v ow1 σ1 H1 R g1 => h v ow1 σ1 H1 R (g.trans g1)
  | exc c => exact h
  | stuck => exact h
theorem Ss.ofO {α : Type} {x : Option α} {k : α → Res (Fl × Me)} (h : Ss G E O0 M0 H0 ow H W ((ofO x).bind k)) : ∃ a, x = some a ∧ Ss G E O0 M0 H0 ow H W (k a) := by
  cases x with
  | some a => exact ⟨a, rfl, h⟩
  | none => exact h.elim
end
def gNx : Me → Res (Fl × Me) := fun m => .ok (.nx, m)
def gBk : Me → Res (Fl × Me) := fun m => .ok (.bk, m)
def gCt : Me → Res (Fl × Me) := fun m => .ok (.ct, m)
def gSeq (g k : Me → Res (Fl × Me)) : Me → Res (Fl × Me) := fun m => match g m with
  | .ok (.nx, m') => k m'
  | r => r
def gSet (i : Nat) (f : Me → Res D) : Me → Res (Fl × Me) := fun m => (f m).bind fun d => .ok (.nx, m.set i (.fz d))
def gOwn (i : Nat) (f : Me → Res D) : Me → Res (Fl × Me) := fun m => (f m).bind fun d => if i < m.length then .ok (.nx, m.set i (.ow d)) else .stuck
def gEx (f : Me → Res D) : Me → Res (Fl × Me) := fun m => (f m).bind fun _ => .ok (.nx, m)
def gRet (f : Me → Res D) : Me → Res (Fl × Me) := fun m => (f m.let).bind fun d => .ok (.rt false d, m.let)
def gRetN (f : Me → Res D) : Me → Res (Fl × Me) := fun m => (f m.let).bind fun d => .ok (.rt true d, m.let)
def gRetV (i : Nat) : Me → Res (Fl × Me) := fun m => match m[i]? with
  | some (.ow d) => .ok (.rt true d, m.let)
  | some (.fz d) => .ok (.rt false d, m.let)
  | _ => .stuck
def gRet0 : Me → Res (Fl × Me) := fun m => .ok (.rt false .non, m.let)
def gIf (t : Me → Res Bool) (g k : Me → Res (Fl × Me)) : Me → Res (Fl × Me) := fun m => (t m).bind fun c => if c then g m else k m
/-- the i-th name's thing is let go (nothing happens) -/
def gLet (i : Nat) (k : Me → Res (Fl × Me)) : Me → Res (Fl × Me) := fun m => match m[i]? with
  | some (.ow d) => k (m.set i (.fz d))
  | _ => k m
section
variable {X : Cx} {E : XK} {e c : Expr} {es : List Expr} {st : Stmt} {rest sa sb : List Stmt} {f : Me → Res D} {ft : Me → Res Bool} {g k ga gb : Me → Res (Fl × Me)} {pos pos' : Pos} {i : Nat} {x : Str}
theorem fss_nil : FSs X E [] gNx := pss_weak pss_nil fun W σ H ⟨O0, M0, H0, ow, m, R, q⟩ => q ow σ H R (Go.refl (Same.refl _))
theorem seq_go {G : Gx} {W : Ends} {σ : L2.St} {H : Hp} (h : tS G E (gSeq g k) W σ H) : tSeq (tS G E g) (tS G E k) W σ H := by
  obtain ⟨O0, M0, H0, ow, m, R, q⟩ := h
  refine ⟨O0, M0, H0, ow, m, R, ?_⟩
  unfold gSeq at q
  cases z : g m with
  | ok a =>
    obtain ⟨f, m'⟩ := a
    rw [z] at q
    cases f with
    | nx => exact fun ow' σ' H' R' g' => ⟨O0, M0, H0, ow', m', R', Ss.go q g'⟩
    | bk => exact q
    | ct => exact q
    | rt fr d => exact q
  | exc c => rw [z] at q; exact q
  | stuck => rw [z] at q; exact q
theorem fss_cons (h1 : FS X E st g) (h2 : FSs X E rest k) : FSs X E (st :: rest) (gSeq g k) := pss_weak (pss_cons h1 h2) fun W σ H h => seq_go h
theorem fss_one (h1 : FS X E st g) : FSs X E [st] g := pss_one h1
/-- ahead of a block the i-th name's thing is let go -/
theorem fss_let (i : Nat) (h : FSs X E rest k) : FSs X E rest (gLet i k) := pss_weak h fun W σ H ⟨O0, M0, H0, ow, m, R, q⟩ => by
  unfold gLet at q
  cases z : m[i]? with
  | none => rw [z] at q; exact ⟨O0, M0, H0, ow, m, R, q⟩
  | some s =>
    rw [z] at q
    cases s with
    | ow d =>
      obtain ⟨a, h1, h2, h3, h4⟩ := R.slot i _ z
      have na : ¬ Ow O0 (owS ow i none) a := fun w => by
        rcases w with w | ⟨j, w⟩
        · exact R.no0 i a h1 w
        · by_cases e : j = i
          · subst e; rw [owS_at] at w; cases w
          · rw [owS_ne e] at w; exact e (R.inj j i a w h1)
      have sub : ∀ b, Ow O0 (owS ow i none) b → Ow O0 ow b ∨ H b = none := fun b z => .inl z.sub
      have hi := get_lt z
      have R2 : RelS (gx X) O0 M0 H0 (owS ow i none) σ H (m.set i (.fz d)) := by
        refine ⟨⟨by simp [R.len], R.keep, R.m0, fun b z => R.mutk b z.sub, fun j b e => ?_, fun j k b e1 e2 => ?_, fun j hj => ?_, fun j s e => ?_⟩, nb_set R.nb fun _ z => by cases z⟩
        · by_cases q : j = i
          · subst q; rw [owS_at] at e; cases e
          · rw [owS_ne q] at e; exact R.no0 j b e
        · by_cases q : j = i
          · subst q; rw [owS_at] at e1; cases e1
          · by_cases q' : k = i
            · subst q'; rw [owS_at] at e2; cases e2
            · rw [owS_ne q] at e1; rw [owS_ne q'] at e2; exact R.inj j k b e1 e2
        · by_cases q : j = i
          · subst q; exact owS_at
          · rw [owS_ne q]; exact R.out j (by simpa using hj)
        · by_cases q : j = i
          · subst q
            rw [List.getElem?_set_self hi] at e
            cases e
            rw [owS_at]
            exact ⟨rfl, .ref a, h3, (h4.anti sub).dv na⟩
          · rw [List.getElem?_set_ne (Ne.symm q)] at e
            rw [owS_ne q]
            exact (R.slot j s e).anti sub fun _ _ b _ => Classical.em _
      exact ⟨O0, M0, H0, _, _, R2, Ss.go q Go.set⟩
    | _ => exact ⟨O0, M0, H0, ow, m, R, q⟩
theorem set_go {G : Gx} {W : Ends} {σ : L2.St} {H : Hp} (h : tS G E (gSet i f) W σ H) : tAsg (tE G E f) (gName i) W σ H := by
  obtain ⟨O0, M0, H0, ow, m, R, q⟩ := h
  refine ⟨O0, M0, H0, ow, m, R.toRel, (Ss.pu R.toRel q).imp (Same.refl _) fun d q v H' g' hv => ?_⟩
  exact q _ _ _ ((R.mono g').set hv) ((Go.refl g').trans Go.set)
theorem own_go {G : Gx} {W : Ends} {σ : L2.St} {H : Hp} (h : tS G E (gOwn i f) W σ H) : tAsg (tN G E f) (gName i) W σ H := by
  obtain ⟨O0, M0, H0, ow, m, R, q⟩ := h
  refine ⟨O0, M0, H0, ow, m, R.toRel, (Ss.pu R.toRel q).imp (Same.refl _) fun d q p H' g' n hv => ?_⟩
  by_cases hi : i < m.length
  · rw [if_pos hi] at q
    exact q _ _ _ (R.own g' n (R.toRel.free0 n) hv hi) (Go.own g' n)
  · rw [if_neg hi] at q
    exact q.elim
theorem fs_set (hN : X.N.Nodup) (hi : X.N[i]? = some x) (hx : Loc X.env.scope x) (he : FE X E e f) (hs : swapsWith e (some (.Name x pos')) pos.line X.env = pure false := by rfl)
    (hf : X.fn x = true ∨ X.env.scope.names.lookup x = some .local := by first | exact .inl rfl | exact .inr rfl | assumption) : FS X E (.Assign [.Name x pos'] e pos) (gSet i f) := ps_weak (ps_set hN hi hx he hs hf) fun _ _ _ h => set_go h
theorem fs_own (hN : X.N.Nodup) (hi : X.N[i]? = some x) (hx : Loc X.env.scope x) (he : FN X E e f) (hs : swapsWith e (some (.Name x pos')) pos.line X.env = pure false := by rfl)
    (hf : X.fn x = true ∨ X.env.scope.names.lookup x = some .local := by first | exact .inl rfl | exact .inr rfl | assumption) : FS X E (.Assign [.Name x pos'] e pos) (gOwn i f) := ps_weak (ps_set hN hi hx he hs hf) fun _ _ _ h => own_go h
theorem fs_ret (he : FE X E e f) : FS X E (.Return (some e) pos) (gRet f) := ps_weak (ps_ret he) fun W σ H ⟨O0, M0, H0, ow, m, R, q⟩ => by
  obtain ⟨ow', R', g1⟩ := R.let
  exact ⟨O0, M0, H0, ow', m.let, R'.toRel, (Ss.pu R'.toRel (Ss.go q g1)).imp (Same.refl _) fun d q v H' g' hv => q v ow' σ H' (R'.mono g') (Go.refl g') hv (fun z => by cases z)⟩
theorem fs_retN (he : FN X E e f) : FS X E (.Return (some e) pos) (gRetN f) := ps_weak (ps_ret he) fun W σ H ⟨O0, M0, H0, ow, m, R, q⟩ => by
  obtain ⟨ow', R', g1⟩ := R.let
  exact ⟨O0, M0, H0, ow', m.let, R'.toRel, (Ss.pu R'.toRel (Ss.go q g1)).imp (Same.refl _) fun d q p H' g' n hv =>
    q _ ow' σ H' (R'.mono g') (Go.refl g') ((hv.anti fun b z => .inl (.inl z)).dv (R'.toRel.noOw n)) fun _ => ⟨p, rfl, R'.toRel.free0 n, hv⟩⟩
theorem fs_ret0 : FS X E (.Return none pos) gRet0 := ps_weak ps_retN fun W σ H ⟨O0, M0, H0, ow, m, R, q⟩ => by
  obtain ⟨ow', R', g1⟩ := R.let
  exact q _ ow' σ H R' g1 .non fun z => by cases z
theorem fs_if (hc : FT X E c ft) (ha : FSs X E sa ga) (hb : FSs X E sb gb) : FS X E (.If c sa sb pos) (gIf ft ga gb) := ps_weak (ps_if hc ha hb) fun W σ H ⟨O0, M0, H0, ow, m, R, q⟩ =>
  ⟨O0, M0, H0, ow, m, R.toRel, (Ss.pu R.toRel q).imp (Same.refl _) fun b q H' g' => by
    cases b with
    | true => rw [if_pos rfl] at q ⊢; exact ⟨O0, M0, H0, ow, m, R.mono g', Ss.go q (Go.refl g')⟩
    | false => rw [if_neg Bool.false_ne_true] at q ⊢; exact ⟨O0, M0, H0, ow, m, R.mono g', Ss.go q (Go.refl g')⟩⟩

/-! ### while -/
def wh (t : Me → Res Bool) (b : Me → Res (Fl × Me)) : Nat → Me → Option (Res (Fl × Me))
  | 0, _ => none
  | n + 1, m => match t m with
    | .ok true => match b m with
      | .ok (.nx, m') => wh t b n m'
      | .ok (.ct, m') => wh t b n m'
      | .ok (.bk, m') => some (.ok (.nx, m'))
      | .ok (.rt fr d, m') => some (.ok (.rt fr d, m'))
      | .exc c => some (.exc c)
      | .stuck => some .stuck
    | .ok false => some (.ok (.nx, m))
    | .exc c => some (.exc c)
    | .stuck => some .stuck
theorem wh_more {t : Me → Res Bool} {b : Me → Res (Fl × Me)} : ∀ {n : Nat} {m : Me} {r : Res (Fl × Me)}, wh t b n m = some r → wh t b (n + 1) m = some r
  | 0, _, _, h => by cases h
  | n + 1, m, r, h => by
    have ih := @wh_more t b n
    unfold wh at h ⊢
    split
    · rename_i e
      rw [e] at h
      split
      · rename_i m' e2; rw [e2] at h; exact ih h
      · rename_i m' e2; rw [e2] at h; exact ih h
      · rename_i m' e2; rw [e2] at h; exact h
      · rename_i fr d m' e2; rw [e2] at h; exact h
      · rename_i c e2; rw [e2] at h; exact h
      · rename_i e2; rw [e2] at h; exact h
    · rename_i e; rw [e] at h; exact h
    · rename_i e; rw [e] at h; exact h
    · rename_i e; rw [e] at h; exact h
theorem wh_add {t : Me → Res Bool} {b : Me → Res (Fl × Me)} {n : Nat} {m : Me} {r : Res (Fl × Me)} (h : wh t b n m = some r) : ∀ k, wh t b (n + k) m = some r
  | 0 => h
  | k + 1 => wh_more (wh_add h k)
open Classical in
noncomputable def gWhile (t : Me → Res Bool) (b : Me → Res (Fl × Me)) : Me → Res (Fl × Me) := fun m =>
  if h : ∃ n r, wh t b n m = some r then Classical.choose (Classical.choose_spec h) else .stuck
theorem gWhile_ex {t : Me → Res Bool} {b : Me → Res (Fl × Me)} {m : Me} (h : gWhile t b m ≠ .stuck) : ∃ n, wh t b n m = some (gWhile t b m) := by
  unfold gWhile at h ⊢
  split at h
  · rename_i q
    rw [dif_pos q]
    exact ⟨_, Classical.choose_spec (Classical.choose_spec q)⟩
  · exact absurd rfl h
/-- how a while is read: some number of turns is enough -/
theorem gWhile_eq {t : Me → Res Bool} {b : Me → Res (Fl × Me)} {m : Me} {r : Res (Fl × Me)} (n : Nat) (h : wh t b n m = some r) : gWhile t b m = r := by
  unfold gWhile
  have q : ∃ n r, wh t b n m = some r := ⟨n, r, h⟩
  rw [dif_pos q]
  have z := Classical.choose_spec (Classical.choose_spec q)
  have a := wh_add z n
  have b' := wh_add h (Classical.choose q)
  rw [Nat.add_comm] at b'
  rw [a] at b'
  exact Option.some.inj b'
theorem fs_while {body : List Stmt} (hp : PassesOwn (model X.prog X.w) X.A X.env X.xe) (hc : FT X E c ft) (hb : FSs X E body g) : FS X E (.While c body [] pos) (gWhile ft g) := ps_weak (ps_while hp hc hb) fun W σ H ⟨O0, M0, H0, ow, m, R, q⟩ => by
  obtain ⟨n, hn⟩ := gWhile_ex (t := ft) (b := g) (m := m) (fun z => by rw [z] at q; exact q)
  generalize gWhile ft g m = r at *
  refine ⟨fun n σ' H' => ∃ ow' m', RelS (gx X) O0 M0 H0 ow' σ' H' m' ∧ Go O0 ow H ow' H' ∧ wh ft g n m' = some r, ⟨n, ow, m, R, Go.refl (Same.refl _), hn⟩, ?_⟩
  rintro n σ1 H1 ⟨ow1, m1, R1, g1, h1⟩
  cases n with
  | zero => cases h1
  | succ n =>
    refine ⟨O0, M0, H0, ow1, m1, R1.toRel, ?_⟩
    unfold wh at h1
    cases e : ft m1 with
    | exc c =>
      rw [e] at h1
      cases h1
      exact fun C H' e g' => q C H' e fun b o e n => g' b o (R1.keep b o e n)
    | stuck => rw [e] at h1; cases h1; exact q.elim
    | ok t =>
      rw [e] at h1
      intro H2 g2
      have R2 := R1.mono g2
      have G2 := g1.trans (Go.refl g2)
      cases t with
      | false =>
        cases h1
        rw [if_neg Bool.false_ne_true]
        exact q _ _ _ R2 G2
      | true =>
        rw [if_pos rfl]
        have h1 : (match g m1 with
          | .ok (.nx, m') => wh ft g n m'
          | .ok (.ct, m') => wh ft g n m'
          | .ok (.bk, m') => some (.ok (.nx, m'))
          | .ok (.rt fr d, m') => some (.ok (.rt fr d, m'))
          | .exc c => some (.exc c)
          | .stuck => some .stuck) = some r := h1
        refine ⟨fun σ' H' => ∃ ow' m', RelS (gx X) O0 M0 H0 ow' σ' H' m' ∧ Go O0 ow H ow' H' ∧ wh ft g n m' = some r, fun σ' H' z => ⟨n, Nat.lt_succ_self _, z⟩, O0, M0, H0, ow1, m1, R2, ?_⟩
        cases e2 : g m1 with
        | exc c => rw [e2] at h1; cases h1; exact q
        | stuck => rw [e2] at h1; cases h1; exact q
        | ok a =>
          obtain ⟨f2, m2⟩ := a
          rw [e2] at h1
          cases f2 with
          | nx => exact fun ow' σ' H' R' g' => ⟨ow', m2, R', G2.trans g', h1⟩
          | ct => exact fun ow' σ' H' R' g' => ⟨ow', m2, R', G2.trans g', h1⟩
          | bk => cases h1; exact fun ow' σ' H' R' g' => q ow' σ' H' R' (G2.trans g')
          | rt fr d => cases h1; exact fun v ow' σ' H' R' g' => q v ow' σ' H' R' (G2.trans g')
end
end F

set_option Elab.async false
set_option linter.all false
set_option maxRecDepth 100000
set_option maxHeartbeats 4000000
namespace F
open PySem PySem.Spec PyProof.Rows L2 Hd

/-! ### targets -/
def NbP (m m' : Me) : Prop := (∀ (j : Nat) (d : D), m[j]? ≠ some (Sl.bw d)) → ∀ (j : Nat) (d : D), m'[j]? ≠ some (Sl.bw d)
/-- k: all places that are bound lie below it -/
def tG (G : Gx) (k : Nat) (h : D → Me → Option Me) : TG := fun v σ H Q => ∃ O0 M0 H0 ow m d m', Rel G O0 M0 H0 ow σ H m ∧ DV G (Ow O0 ow) H v d ∧ h d m = some m' ∧
  ∀ ow' σ', Rel G O0 M0 H0 ow' σ' H m' → Go O0 ow H ow' H → NbP m m' → σ'.drop k = σ.drop k → Q σ' H
def tGs (G : Gx) (k : Nat) (h : List D → Me → Option Me) : TGs := fun vs σ H Q => ∃ O0 M0 H0 ow m ds m', Rel G O0 M0 H0 ow σ H m ∧ DVs G (Ow O0 ow) H vs ds ∧ h ds m = some m' ∧
  ∀ ow' σ', Rel G O0 M0 H0 ow' σ' H m' → Go O0 ow H ow' H → NbP m m' → σ'.drop k = σ.drop k → Q σ' H
abbrev FG (X : Cx) (k : Nat) (tg : Expr) (h : D → Me → Option Me) : Prop := PG X tg (tG (gx X) k h)
abbrev FGs (X : Cx) (k : Nat) (tgs : List Expr) (h : List D → Me → Option Me) : Prop := PGs X tgs (tGs (gx X) k h)
theorem pg_weak {X : Cx} {e : Expr} {T T' : TG} (h : PG X e T) (k : ∀ v σ H Q, T' v σ H Q → T v σ H Q) : PG X e T' := fun pins s σ H v u Q I r q => h pins s σ H v u Q I r (k v σ H Q q)
theorem pgs_weak {X : Cx} {es : List Expr} {T T' : TGs} (h : PGs X es T) (k : ∀ v σ H Q, T' v σ H Q → T v σ H Q) : PGs X es T' := fun pins s σ H v u Q I r q => h pins s σ H v u Q I r (k v σ H Q q)
def hName (i : Nat) : D → Me → Option Me := fun d m => some (m.set i (.fz d))
def hNil : List D → Me → Option Me
  | [], m => some m
  | _, _ => none
def hCons (h : D → Me → Option Me) (hs : List D → Me → Option Me) : List D → Me → Option Me
  | d :: ds, m => (h d m).bind fun m' => hs ds m'
  | _, _ => none
def hTup (n : Nat) (hs : List D → Me → Option Me) : D → Me → Option Me
  | .tup ds, m => if ds.length = n then hs ds m else none
  | _, _ => none
section
variable {X : Cx} {pos : Pos} {k : Nat} {e : Expr} {es : List Expr} {h : D → Me → Option Me} {hs : List D → Me → Option Me}
theorem fg_name {i : Nat} {x : Str} (hN : X.N.Nodup) (hi : X.N[i]? = some x) (hx : Loc X.env.scope x) (hk : i < k := by decide) (hf : X.fn x = true ∨ X.env.scope.names.lookup x = some .local := by first | exact .inl rfl | exact .inr rfl | assumption) : FG X k (.Name x pos) (hName i) :=
  pg_weak (pg_name hN hi hx hf) fun v σ H Q ⟨O0, M0, H0, ow, m, d, m', R, hv, e, q⟩ => by
    cases e
    refine q _ _ (R.set hv) Go.set (fun nb => nb_set nb fun _ z => by cases z) ?_
    rw [List.drop_set, if_pos (by omega)]
theorem fgs_nil : FGs X k [] hNil := pgs_weak pgs_nil fun vs σ H Q ⟨O0, M0, H0, ow, m, ds, m', R, hv, e, q⟩ => by
  cases hv with
  | nil => cases e; exact ⟨rfl, q _ _ R (Go.refl (Same.refl _)) id rfl⟩
  | cons a t => cases e
theorem fgs_cons (h1 : FG X k e h) (h2 : FGs X k es hs) (hst : (assignEach (e :: es) X.env).map (·.2) = assign e X.env :: (assignEach es X.env).map (·.2) := by rfl) : FGs X k (e :: es) (hCons h hs) :=
  pgs_weak (pgs_cons h1 h2 hst) fun vs σ H Q ⟨O0, M0, H0, ow, m, ds, m', R, hv, e, q⟩ => by
    cases hv with
    | nil => cases e
    | @cons v vs' d ds' a t =>
      have e' : (h d m).bind (fun m' => hs ds' m') = some m' := e
      cases e1 : h d m with
      | none => rw [e1] at e'; cases e'
      | some m1 =>
        rw [e1] at e'
        exact ⟨v, vs', rfl, O0, M0, H0, ow, m, d, m1, R, a, e1, fun ow' σ' R' g' nb hd => ⟨O0, M0, H0, ow', m1, ds', m', R', t.go R.mutk g'.ev, e', fun ow2 σ2 R2 g2 nb2 hd2 => q ow2 σ2 R2 (g'.trans g2) (fun z => nb2 (nb z)) (hd2.trans hd)⟩⟩
theorem fg_tup {j n : Nat} (hc : X.calm = true) (h : FGs X k es hs) (hn : (assignEach es X.env).length = n := by rfl) (hst : (assignEach es X.env).findIdx? (·.1) = none := by rfl) : FG X k (.Tuple es j pos) (hTup n hs) :=
  pg_weak (pg_tup hc h hn hst) fun v σ H Q ⟨O0, M0, H0, ow, m, d, m', R, hv, e, q⟩ => by
    cases d with
    | tup ds =>
      obtain ⟨a, xs, rfl, hx, hd⟩ := dw_tup (.inl hv)
      have e' : (if ds.length = n then hs ds m else none) = some m' := e
      by_cases z : ds.length = n
      · rw [if_pos z] at e'
        exact ⟨a, xs, rfl, hx, by rw [dvs_len hd]; exact z, O0, M0, H0, ow, m, ds, m', R, hd, e', q⟩
      · rw [if_neg z] at e'; cases e'
    | _ => cases e
end
/-! several names at once -/
def gAsg (f : Me → Res D) (h : D → Me → Option Me) : Me → Res (Fl × Me) := fun m => (f m).bind fun d => (ofO (h d m)).bind fun m' => .ok (.nx, m')
/-! ### what is walked -/
/-- J goes through ds at all (O, H) that P allows -/
def ItOk (G : Gx) (J : It) (ds : List D) (P : (Addr → Prop) → Hp → Prop) : Prop := ∀ O H, P O H →
  (∀ i, i < ds.length → J.go i H) ∧ (∀ i x H', i < ds.length → J.yld i H x H' → Same H H' ∧ ∃ d, ds[i]? = some d ∧ DV G O H' x d) ∧ J.stop ds.length H
/-- for a loop: what is one's own may change; for a comprehension: nothing that is there does -/
def tI (G : Gx) (E : XK) (f : Me → Res (List D)) : TI := fun σ H R => ∃ O0 M0 H0 ow m, Rel G O0 M0 H0 ow σ H m ∧ Pu G E (f m) H fun ds => ∀ J H', Same H H' → ItOk G J ds (fun O H2 => Ev (Ow O0 ow) H' O H2) → R J H'
def tIw (G : Gx) (E : XK) (f : Me → Res (List D)) : TI := fun σ H R => ∃ O0 M0 H0 ow m, Rel G O0 M0 H0 ow σ H m ∧ Pu G E (f m) H fun ds => ∀ J H', Same H H' → ItOk G J ds (fun O H2 => (∀ b, O b → Ow O0 ow b ∨ H' b = none) ∧ Same H' H2) → R J H'
abbrev FI (X : Cx) (E : XK) (tg e : Expr) (f : Me → Res (List D)) : Prop := PI X tg e (tI (gx X) E f)
abbrev FIw (X : Cx) (E : XK) (tg e : Expr) (f : Me → Res (List D)) : Prop := PI X tg e (tIw (gx X) E f)
theorem pi_weak {X : Cx} {tg e : Expr} {T T' : TI} (h : PI X tg e T) (k : ∀ σ H R, T' σ H R → T σ H R) : PI X tg e T' := fun pins s σ H R I q => h pins s σ H R I (k σ H R q)
def fItL (f : Me → Res D) : Me → Res (List D) := fun m => (f m).bind fun d => match d with
  | .lst ds => .ok ds
  | _ => .stuck
def fItT (f : Me → Res D) : Me → Res (List D) := fun m => (f m).bind fun d => match d with
  | .tup ds => .ok ds
  | _ => .stuck
def fItR1 (f : Me → Res (List D)) : Me → Res (List D) := fun m => (f m).bind fun d => match d with
  | [.int j] => if -(2 ^ 62) ≤ j ∧ j < 2 ^ 62 then .ok ((List.range j.toNat).map fun (i : Nat) => D.int i) else .stuck
  | _ => .stuck
def fItR2 (f : Me → Res (List D)) : Me → Res (List D) := fun m => (f m).bind fun d => match d with
  | [.int i, .int j] => if -(2 ^ 62) ≤ i ∧ i < 2 ^ 62 ∧ -(2 ^ 62) ≤ j ∧ j < 2 ^ 62 then .ok ((List.range (j - i).toNat).map fun (k : Nat) => D.int (i + k)) else .stuck
  | _ => .stuck
theorem it_list {G : Gx} {O : Addr → Prop} {H : Hp} {a : Addr} {xs : List V} {ds : List D} (m : ∀ b, O b → MutK (H b)) (hl : LstAt G.K O H a xs) (hd : DVs G O H xs ds) : ItOk G (Itl G.K a) ds (fun O' H2 => Ev O H O' H2) := by
  intro O' H2 ev
  have hq : SqL G.K H2 a xs := (lstAt_kp ev.2 hl).sq
  have hd2 := hd.go m ev
  have hlen := dvs_len hd
  refine ⟨fun i hi => ⟨xs, xs[i]'(by omega), hq, by simp⟩, fun i x H' hi y => ?_, xs, hq, by omega⟩
  obtain ⟨e, y⟩ := y
  subst e
  obtain ⟨d, h1, h2⟩ := dvs_get hd2 (y xs hq)
  exact ⟨Same.refl _, d, h1, h2⟩
theorem it_tup {G : Gx} {O : Addr → Prop} {H : Hp} {a : Addr} {xs : List V} {ds : List D} (m : ∀ b, O b → MutK (H b)) (hl : SqT G.K H a xs) (hd : DVs G O H xs ds) : ItOk G (Itt G.K a) ds (fun O' H2 => Ev O H O' H2) := by
  intro O' H2 ev
  have hq : SqT G.K H2 a xs := sqT_kp m ev.2 hl
  have hd2 := hd.go m ev
  have hlen := dvs_len hd
  refine ⟨fun i hi => ⟨xs, xs[i]'(by omega), hq, by simp⟩, fun i x H' hi y => ?_, xs, hq, by omega⟩
  obtain ⟨e, y⟩ := y
  subst e
  obtain ⟨d, h1, h2⟩ := dvs_get hd2 (y xs hq)
  exact ⟨Same.refl _, d, h1, h2⟩
theorem ItOk.weak {G : Gx} {J : It} {ds : List D} {O : Addr → Prop} {H : Hp} (h : ItOk G J ds (fun O' H2 => Ev O H O' H2)) : ItOk G J ds (fun O' H2 => (∀ b, O' b → O b ∨ H b = none) ∧ Same H H2) :=
  fun O' H2 ⟨s, g⟩ => h O' H2 ⟨s, .of g⟩
theorem it_range {G : Gx} {lo : Int} {n : Nat} {P : (Addr → Prop) → Hp → Prop} : ItOk G (Itr lo n) ((List.range n).map fun (k : Nat) => D.int (lo + k)) P := by
  intro O H _
  refine ⟨fun i hi => (show i < n by simpa using hi), fun i x H' hi y => ?_, by show n ≤ _; simp⟩
  obtain ⟨e, y⟩ := y
  subst e y
  have hi' : i < n := by simpa using hi
  exact ⟨Same.refl _, _, by simp [List.getElem?_map, List.getElem?_range hi'], .int _⟩
section
variable {X : Cx} {E : XK} {tg e a b : Expr} {f : Me → Res D} {fs : Me → Res (List D)} {p pos : Pos}
theorem fi_list (h : FE X E e f) : FI X E tg e (fItL f) := pi_weak (pi_list h) fun σ H R ⟨O0, M0, H0, ow, m, Re, q⟩ => ⟨O0, M0, H0, ow, m, Re, q.bind.imp (Same.refl _) fun d q v H' g hv => by
  cases d with
  | lst ds =>
    cases hv with
    | lst hl hd => exact ⟨_, rfl, ⟨_, hl.sq⟩, q _ H' g (it_list (Re.mono g).mutk hl hd)⟩
  | _ => exact q.elim⟩
theorem fi_tup (h : FE X E e f) : FI X E tg e (fItT f) := pi_weak (pi_tup h) fun σ H R ⟨O0, M0, H0, ow, m, Re, q⟩ => ⟨O0, M0, H0, ow, m, Re, q.bind.imp (Same.refl _) fun d q v H' g hv => by
  cases d with
  | tup ds =>
    cases hv with
    | tup hl hd => exact ⟨_, rfl, ⟨_, hl.sq⟩, q _ H' g (it_tup (Re.mono g).mutk hl.sq hd)⟩
  | _ => exact q.elim⟩
theorem fiw_of {fl : Me → Res (List D)} (h : FI X E tg e fl) : FIw X E tg e fl := pi_weak h fun σ H R ⟨O0, M0, H0, ow, m, Re, q⟩ => ⟨O0, M0, H0, ow, m, Re, q.imp (Same.refl _) fun ds q J H' g hi => q J H' g hi.weak⟩
theorem fi_range1 (hg : Gl X "range") (hm : X.mg "range" = none) (ha : FAB X E [a] fs) (hs : starEach [a] X.env = [(false, eval a X.env)] := by rfl) : FI X E tg (.Call (.Name "range" p) [a] [] pos) (fItR1 fs) :=
  pi_weak (pi_range1 hg hm ha hs) fun σ H R ⟨O0, M0, H0, ow, m, Re, q⟩ => ⟨O0, M0, H0, ow, m, Re, q.bind.imp (Same.refl _) fun ds q vs H' g hv => by
    cases hv with
    | nil => exact q.elim
    | @cons v vs d ds h1 h2 =>
      cases h2 with
      | cons _ _ => cases d <;> exact q.elim
      | nil =>
        cases d with
        | int j =>
          cases dw_int h1
          obtain ⟨⟨z1, z2⟩, k⟩ := pu_if q
          refine ⟨j, rfl, z1, z2, k _ H' g ?_⟩
          have := it_range (G := gx X) (lo := 0) (n := j.toNat) (P := fun O H2 => Ev (Ow O0 ow) H' O H2)
          simpa using this
        | _ => exact q.elim⟩
end

/-! ### for -/
def loopL (h : D → Me → Option Me) (g : Me → Res (Fl × Me)) : List D → Me → Res (Fl × Me)
  | [], m => .ok (.nx, m)
  | d :: ds, m => match h d m with
    | none => .stuck
    | some m1 => match g m1 with
      | .ok (.nx, m2) => loopL h g ds m2
      | .ok (.ct, m2) => loopL h g ds m2
      | .ok (.bk, m2) => .ok (.nx, m2)
      | .ok (.rt fr v, m2) => .ok (.rt fr v, m2)
      | .exc c => .exc c
      | .stuck => .stuck
def gFor (fi : Me → Res (List D)) (h : D → Me → Option Me) (g : Me → Res (Fl × Me)) : Me → Res (Fl × Me) := fun m => (fi m).bind fun ds => loopL h g ds m
theorem fs_for {X : Cx} {E : XK} {tg iter : Expr} {body : List Stmt} {fi : Me → Res (List D)} {k : Nat} {h : D → Me → Option Me} {g : Me → Res (Fl × Me)} {pos : Pos} (hp : PassesOwn (model X.prog X.w) X.A X.env X.xe) (hc : X.calm = true) (hi : FI X E tg iter fi) (hg : FG X k tg h) (hb : FSs X E body g)
    (hs : ∀ x, foldedSetIterable iter X.env x = pure x := by intro _; rfl) : FS X E (.For tg iter body [] pos) (gFor fi h g) := ps_weak (ps_for hp hc hi hg hb hs) fun W σ H ⟨O0, M0, H0, ow, m, R, q⟩ =>
  ⟨O0, M0, H0, ow, m, R.toRel, (Ss.pu R.toRel q).imp (Same.refl _) fun ds q J H1 g1 it => by
    have R1 := R.mono g1
    have q1 := Ss.go q (Go.refl g1)
    generalize hr : loopL h g ds m = r at *
    refine ⟨fun i n σ' H' => ∃ ow' m', RelS (gx X) O0 M0 H0 ow' σ' H' m' ∧ Go O0 ow H1 ow' H' ∧ n = ds.length - i ∧ i ≤ ds.length ∧ loopL h g (ds.drop i) m' = r, ⟨_, ow, m, R1, Go.refl (Same.refl _), rfl, Nat.zero_le _, hr⟩, ?_⟩
    rintro i n σ2 H2 ⟨ow2, m2, R2, g2, rfl, hi, e2⟩
    obtain ⟨i1, i2, i3⟩ := it _ H2 g2.ev
    by_cases hlt : i < ds.length
    · refine .inr ⟨i1 i hlt, fun σ' H' => ∃ ow' m', RelS (gx X) O0 M0 H0 ow' σ' H' m' ∧ Go O0 ow H1 ow' H' ∧ loopL h g (ds.drop (i + 1)) m' = r, fun σ' H' ⟨ow', m', R', g', e'⟩ => ⟨ds.length - (i + 1), by omega, ow', m', R', g', rfl, hlt, e'⟩, fun x H3 y => ?_⟩
      obtain ⟨s3, d, hd, dv⟩ := i2 i x H3 hlt y
      have ed : ds.drop i = d :: ds.drop (i + 1) := by
        rw [List.drop_eq_getElem_cons hlt]
        rw [List.getElem?_eq_getElem hlt] at hd
        cases hd
        rfl
      rw [ed] at e2
      unfold loopL at e2
      cases eh : h d m2 with
      | none => rw [eh] at e2; subst e2; exact q1.elim
      | some m3 =>
        rw [eh] at e2
        refine ⟨O0, M0, H0, ow2, m2, d, m3, (R2.mono s3).toRel, dv, eh, fun ow' σ' R' g' nb _ => ?_⟩
        have G3 := (g2.trans (Go.refl s3)).trans g'
        refine ⟨O0, M0, H0, ow', m3, ⟨R', nb R2.nb⟩, ?_⟩
        cases eg : g m3 with
        | exc c => simp only [eg] at e2; subst e2; exact q1
        | stuck => simp only [eg] at e2; subst e2; exact q1
        | ok a =>
          obtain ⟨f4, m4⟩ := a
          simp only [eg] at e2
          cases f4 with
          | nx => exact fun ow4 σ4 H4 R4 g4 => ⟨ow4, m4, R4, G3.trans g4, e2⟩
          | ct => exact fun ow4 σ4 H4 R4 g4 => ⟨ow4, m4, R4, G3.trans g4, e2⟩
          | bk => subst e2; exact fun ow4 σ4 H4 R4 g4 => q1 ow4 σ4 H4 R4 (G3.trans g4)
          | rt fr v => subst e2; exact fun v ow4 σ4 H4 R4 g4 => q1 v ow4 σ4 H4 R4 (G3.trans g4)
    · have e : i = ds.length := by omega
      subst e
      rw [List.drop_length] at e2
      unfold loopL at e2
      subst e2
      exact .inl ⟨i3, q1 ow2 σ2 H2 R2 g2⟩⟩
end F

set_option Elab.async false
set_option linter.all false
set_option maxRecDepth 100000
set_option maxHeartbeats 4000000
namespace F
open PySem PySem.Spec PyProof.Rows L2 Hd

/-! ### comprehensions -/
def Sl.bor : Sl → Sl
  | .ow d => .bw d
  | .io d => .bw d
  | s => s
def cMe (k : Nat) (cap : List Nat) (m : Me) : Me := List.replicate k .un ++ cap.map fun j => (m.getD j .un).bor
def compL (h : D → Me → Option Me) (ft : Me → Res Bool) (fe : Me → Res D) (m0 : Me) : List D → Res (List D)
  | [] => .ok []
  | d :: ds => match h d m0 with
    | none => .stuck
    | some m1 => match ft m1 with
      | .ok true => match fe m1 with
        | .ok y => match compL h ft fe m0 ds with
          | .ok ys => .ok (y :: ys)
          | _ => .stuck
        | _ => .stuck
      | .ok false => compL h ft fe m0 ds
      | _ => .stuck
def fComp (k : Nat) (cap : List Nat) (fi : Me → Res (List D)) (h : D → Me → Option Me) (ft : Me → Res Bool) (fe : Me → Res D) : Me → Res D := fun m => (fi m).bind fun ds =>
  if ds.length ≤ sizeLine then match compL h ft fe (cMe k cap m) ds with
    | .ok ys => .ok (.lst ys)
    | _ => .stuck
  else .stuck
abbrev FIfs (X : Cx) (E : XK) (ifs : List Expr) (f : Me → Res Bool) : Prop := PIfs X ifs (tT (gx X) E f)
def fAll : Me → Res Bool := fun _ => .ok true
theorem fifs_nil {X : Cx} {E : XK} : FIfs X E [] fAll := fun pins s σ H Q I ⟨O0, M0, H0, ow, m, R, q⟩ => ifs_nil pins s σ H Q I (q H (Same.refl _))
section
variable {X : Cx} {E : XK} {k : Nat} {cap : List Nat} {fi : Me → Res (List D)} {h : D → Me → Option Me} {ft : Me → Res Bool} {fe : Me → Res D}
theorem comp_rel {G : Gx} {O0 M0 : Addr → Prop} {H0 H H2 : Hp} {ow : Os} {σ : L2.St} {m : Me} {l : Addr} {zs : List V} (R : Rel G O0 M0 H0 ow σ H m) (g : Same H H2) (hl : H l = none) (hz : H2 l = some (.lst zs)) :
    Rel G (Op (Ow O0 ow) l) (fun _ => False) (fun _ => none) (fun _ => none) (cSt k cap σ) H2 (cMe k cap m) := by
  have sub : ∀ b, Ow (Op (Ow O0 ow) l) (fun _ => none) b → Ow O0 ow b ∨ H b = none := fun b z => by
    rw [Ow_none] at z
    exact z.elim .inl fun e => .inr (by rw [e]; exact hl)
  have sup : ∀ b, Ow O0 ow b → Ow (Op (Ow O0 ow) l) (fun _ => none) b := fun b z => .inl (.inl z)
  refine ⟨by simp [cSt, cMe], fun b o e _ => (by cases e), fun b z => z.elim, fun b z => ?_, fun i a e => (by cases e), fun i j a e => (by cases e), fun _ _ => rfl, fun i s e => ?_⟩
  · rw [Ow_none] at z
    rcases z with z | z
    · exact mutk_mono g (R.mutk b z)
    · rw [z, hz]; exact .inl ⟨zs, rfl⟩
  · unfold cMe at e
    by_cases hi : i < k
    · rw [List.getElem?_append_left (by simpa using hi), List.getElem?_replicate, if_pos hi] at e
      cases e
      rfl
    · rw [List.getElem?_append_right (by simp; omega), List.length_replicate, List.getElem?_map] at e
      have eσ : (cSt k cap σ)[i]? = (cap[i - k]?).map fun j => (σ[j]?).join := by
        unfold cSt
        rw [List.getElem?_append_right (by simp; omega), List.length_replicate, List.getElem?_map]
      cases ec : cap[i - k]? with
      | none => rw [ec] at e; cases e
      | some j =>
        rw [ec] at e eσ
        rw [eσ]
        cases ej : m[j]? with
        | none =>
          have : m.getD j .un = .un := by simp [List.getD, ej]
          rw [Option.map_some, this] at e
          cases e
          rfl
        | some s0 =>
          have : m.getD j .un = s0 := by simp [List.getD, ej]
          rw [Option.map_some, this] at e
          cases e
          have z := R.slot j s0 ej
          cases s0 with
          | un => rfl
          | fz d =>
            obtain ⟨_, x, e1, hv⟩ := z
            exact ⟨rfl, x, by rw [Option.map_some, e1]; rfl, (hv.anti sub).mono g⟩
          | ow d =>
            obtain ⟨a, h1, h2, h3, h4⟩ := z
            exact ⟨rfl, .ref a, by rw [Option.map_some, h3]; rfl, .inr ⟨a, rfl, sup a (.inr ⟨j, h1⟩), (h4.anti sub).mono g⟩⟩
          | io d =>
            obtain ⟨a, h1, h2, h3, h4⟩ := z
            exact ⟨rfl, .ref a, by rw [Option.map_some, h3]; rfl, .inr ⟨a, rfl, sup a (.inr ⟨j, h1⟩), (h4.anti sub).mono g⟩⟩
          | bw d =>
            obtain ⟨_, x, e1, hv⟩ := z
            refine ⟨rfl, x, by rw [Option.map_some, e1]; rfl, ?_⟩
            rcases hv with hv | ⟨a, e2, o, hv⟩
            · exact .inl ((hv.anti sub).mono g)
            · exact .inr ⟨a, e2, sup a o, (hv.anti sub).mono g⟩
theorem comp_go {σ : L2.St} {H : Hp} {Q : VK} (hq : tN (gx X) E (fComp k cap fi h ft fe) σ H Q) : tComp k cap (tIw (gx X) E fi) (tG (gx X) k h) (tT (gx X) E0 ft) (tE (gx X) E0 fe) σ H Q := by
  obtain ⟨O0, M0, H0, ow, m, R, q⟩ := hq
  refine ⟨O0, M0, H0, ow, m, R, q.bind.imp (Same.refl _) fun ds q J H1 g1 it l hl => ?_⟩
  obtain ⟨hz, q⟩ := pu_if' q
  cases hc : compL h ft fe (cMe k cap m) ds with
  | exc c => rw [hc] at q; exact q.elim
  | stuck => rw [hc] at q; exact q.elim
  | ok ys =>
    rw [hc] at q
    have hlH : H l = none := g1.free hl
    have mk1 : ∀ b, Op (Ow O0 ow) l b → Ow O0 ow b ∨ H1 b = none := fun b z => z.elim .inl fun e => .inr (by rw [e]; exact hl)
    refine ⟨fun i n zs H' => n = ds.length - i ∧ i ≤ ds.length ∧ zs.length ≤ i ∧ Same H1 H' ∧ H' l = some (.lst zs) ∧ ∃ es rest, DVs (gx X) (Op (Ow O0 ow) l) H' zs es ∧ compL h ft fe (cMe k cap m) (ds.drop i) = .ok rest ∧ es ++ rest = ys,
      ⟨ds.length, by simp, Nat.zero_le _, Nat.le_refl _, same_new hl _, upd_same, [], ys, .nil, hc, rfl⟩, ?_⟩
    rintro i n zs H' ⟨rfl, hi, hzi, g2, hH, es, rest, hes, hcr, hys⟩
    obtain ⟨i1, i2, i3⟩ := it (Op (Ow O0 ow) l) H' ⟨mk1, g2⟩
    by_cases hlt : i < ds.length
    · refine .inr ⟨i1 i hlt, fun x H2 y => ?_⟩
      obtain ⟨g3, d, hd, dv⟩ := i2 i x H2 hlt y
      have ed : ds.drop i = d :: ds.drop (i + 1) := by
        rw [List.drop_eq_getElem_cons hlt]
        rw [List.getElem?_eq_getElem hlt] at hd
        cases hd
        rfl
      rw [ed] at hcr
      unfold compL at hcr
      cases eh : h d (cMe k cap m) with
      | none => rw [eh] at hcr; cases hcr
      | some m1 =>
        rw [eh] at hcr
        have G2 : Same H H2 := (g1.trans g2).trans g3
        have R2 := comp_rel (k := k) (cap := cap) (l := l) (zs := zs) R G2 hlH (g3 _ _ hH)
        refine ⟨_, _, _, _, _, d, m1, R2, by rw [Ow_none]; exact dv, eh, fun ow' σ' R' g' nb hdr => ⟨hdr, _, _, _, ow', m1, R', ?_⟩⟩
        simp only [] at hcr
        cases et : ft m1 with
        | exc c => rw [et] at hcr; cases hcr
        | stuck => rw [et] at hcr; cases hcr
        | ok t =>
          rw [et] at hcr
          intro H3 g4
          cases t with
          | false =>
            rw [if_neg Bool.false_ne_true]
            exact ⟨ds.length - (i + 1), by omega, rfl, hlt, by omega, (g2.trans g3).trans g4, g4 _ _ (g3 _ _ hH), es, rest, hes.mono (g3.trans g4), hcr, hys⟩
          | true =>
            rw [if_pos rfl]
            refine ⟨_, _, _, ow', m1, R'.mono g4, ?_⟩
            simp only [] at hcr
            cases ee : fe m1 with
            | exc c => rw [ee] at hcr; cases hcr
            | stuck => rw [ee] at hcr; cases hcr
            | ok y' =>
              rw [ee] at hcr
              intro v H5 g5 hv
              simp only [] at hcr
              cases er : compL h ft fe (cMe k cap m) (ds.drop (i + 1)) with
              | exc c => rw [er] at hcr; cases hcr
              | stuck => rw [er] at hcr; cases hcr
              | ok rest' =>
                rw [er] at hcr
                cases hcr
                have G5 : Same H' H5 := (g3.trans g4).trans g5
                have mk5 : ∀ b, Op (Ow O0 ow) l b → MutK (H5 b) := fun b z => by
                  rcases z with z | z
                  · exact mutk_mono (((g1.trans g2).trans G5)) (R.mutk b z)
                  · rw [z, G5 _ _ hH]; exact .inl ⟨zs, rfl⟩
                have kp5 : Kp (Op (Ow O0 ow) l) H5 (upd H5 l (.lst (zs ++ [v]))) := fun b o e n => by
                  rw [upd_ne (show b ≠ l from fun z => n (.inr z))]
                  exact e
                refine ⟨G5 _ _ hH, by omega, ds.length - (i + 1), by omega, rfl, hlt, by rw [List.length_append, List.length_singleton]; omega, ?_, upd_same, es ++ [y'], rest', ?_, er, by rw [List.append_assoc]; exact hys⟩
                · exact sb_same ((sb_of (g2.trans G5)).trans sb_upd) hl
                · exact dvs_app ((hes.mono G5).kp mk5 kp5) (.cons ((hv.anti fun b z => .inl (.inl z)).kp mk5 kp5) .nil)
    · have e : i = ds.length := by omega
      subst e
      rw [List.drop_length] at hcr
      cases hcr
      rw [List.append_nil] at hys
      subst hys
      exact .inl ⟨i3, q l H' (g1.trans g2) hlH ⟨zs, hH, hes⟩⟩
section
variable {tg iter elt : Expr} {ifs : List Expr} {scope : Scope} {pos : Pos}
theorem fn_comp (sc : Scope) (N' caps : List Str) (k : Nat) (cap : List Nat) (hcalm : X.calm = true) (S : CSc sc scope caps) (hcap : Paired (fun j x => X.N[j]? = some x) cap caps)
    (hi : FIw X E tg iter fi) (hg : ∀ cl C sE HE fp pins, FG (compCx X N' scope cl C sE HE fp pins) k tg h) (ht : ∀ cl C sE HE fp pins, FIfs (compCx X N' scope cl C sE HE fp pins) E0 ifs ft) (he : ∀ cl C sE HE fp pins, FE (compCx X N' scope cl C sE HE fp pins) E0 elt fe)
    (hsc : X.env.scope = sc := by rfl) (hN : N'.drop k = caps := by rfl) (hk : k ≤ N'.length := by decide) (hs : ∀ x, foldedSetIterable iter X.env x = pure x := by intro _; rfl) :
    FN X E (.ListComp elt [⟨tg, iter, ifs, 0⟩] scope pos) (fComp k cap fi h ft fe) := pe_weak (pe_comp sc N' caps k cap hcalm S hcap hi hg ht he hsc hN hk hs) fun _ _ _ q => comp_go q
variable {i : Nat} {y : Str} {py spos : Pos}
theorem fs_setComp (sc : Scope) (N' caps : List Str) (k : Nat) (cap : List Nat) (hnd : X.N.Nodup) (hi' : X.N[i]? = some y) (hy : Loc X.env.scope y) (hcalm : X.calm = true) (S : CSc sc scope caps) (hcap : Paired (fun j x => X.N[j]? = some x) cap caps)
    (hi : FIw X E tg iter fi) (hg : ∀ cl C sE HE fp pins, FG (compCx X N' scope cl C sE HE fp pins) k tg h) (ht : ∀ cl C sE HE fp pins, FIfs (compCx X N' scope cl C sE HE fp pins) E0 ifs ft) (he : ∀ cl C sE HE fp pins, FE (compCx X N' scope cl C sE HE fp pins) E0 elt fe)
    (hsw : swapsWith (.ListComp elt [⟨tg, iter, ifs, 0⟩] scope pos) (some (.Name y py)) spos.line X.env = pure true := by rfl)
    (hsc : X.env.scope = sc := by rfl) (hN : N'.drop k = caps := by rfl) (hk : k ≤ N'.length := by decide) (hs : ∀ x, foldedSetIterable iter X.env x = pure x := by intro _; rfl)
    (hf : X.fn y = true ∨ X.env.scope.names.lookup y = some .local := by first | exact .inl rfl | exact .inr rfl | assumption) :
    FS X E (.Assign [.Name y py] (.ListComp elt [⟨tg, iter, ifs, 0⟩] scope pos) spos) (gSet i (fComp k cap fi h ft fe)) :=
  ps_weak (ps_setComp sc N' caps k cap hnd hi' hy hcalm S hcap hi hg ht he hsw hsc hN hk hs hf) fun W σ H q => by
    refine comp_go (h := h) (ft := ft) (fe := fe) (Q := fun x H1 => gName i x σ H1 W.nx) ?_
    obtain ⟨O0, M0, H0, ow, m, R, q⟩ := set_go q
    exact ⟨O0, M0, H0, ow, m, R, q.imp (Same.refl _) fun _ k p H' g n o => k _ H' g ((o.anti fun b z => .inl (.inl z)).dv (R.noOw n))⟩
end
end

/-! ### defs of the text -/
def spF (G : Gx) (Φ : List D → Res (Bool × D)) : Sp := fun vs H Q E => ∃ O ds, (∀ b, O b → MutK (H b)) ∧ DVs G O H vs ds ∧ Pu G E (Φ ds) H fun r => ∀ v H', Same H H' → DV G O H' v r.2 → (r.1 = true → Fr G O H v H' r.2) → Q v H'
def runF (N n : Nat) (g : Me → Res (Fl × Me)) : List D → Res (Bool × D) := fun ds => if ds.length = n then match g (ds.map Sl.fz ++ List.replicate (N - n) Sl.un) with
    | .ok (.rt fr d, _) => .ok (fr, d)
    | .ok (.nx, _) => .ok (false, .non)
    | .exc c => .exc c
    | _ => .stuck
  else .stuck
abbrev FF (P : Program) (w : World) (K : PySem.W.Frag) (mg : Str → Option Value) (base : Heap) (k : Nat) (x : Str) (ps : List Str) (Φ : List D → Res (Bool × D)) : Prop := Hd.Fn P w K mg base k x ps (spF ⟨K, mg⟩ Φ)
theorem start_rel {G : Gx} {O : Addr → Prop} {H : Hp} {N : List Str} {vs : List V} {ds : List D} {n : Nat} (hm : ∀ b, O b → MutK (H b)) (hd : DVs G O H vs ds) (hn : ds.length = n) :
    RelS G O (fun _ => False) H (fun _ => none) (L2.start N vs) H (ds.map Sl.fz ++ List.replicate (N.length - n) Sl.un) := by
  have hl := dvs_len hd
  refine ⟨⟨by simp [L2.start, hl, hn], fun b o e _ => e, fun b z => z.elim, fun b z => by rw [Ow_none] at z; exact hm b z, fun i a e => (by cases e), fun i j a e => (by cases e), fun _ _ => rfl, fun i s e => ?_⟩, fun j d e => ?_⟩
  · by_cases hi : i < ds.length
    · rw [List.getElem?_append_left (by simpa using hi), List.getElem?_map] at e
      cases ed : ds[i]? with
      | none => rw [ed] at e; cases e
      | some d =>
        rw [ed] at e
        cases e
        obtain ⟨x, hx, dx⟩ := dvs_at hd ed
        refine ⟨rfl, x, ?_, by rw [Ow_none]; exact dx⟩
        unfold L2.start
        rw [List.getElem?_append_left (by simpa [hl] using hi), List.getElem?_map, hx]
        rfl
    · rw [List.getElem?_append_right (by simp; omega), List.getElem?_replicate] at e
      split at e
      · cases e; rfl
      · cases e
  · by_cases hi : j < ds.length
    · rw [List.getElem?_append_left (by simpa using hi), List.getElem?_map] at e
      cases ed : ds[j]? with
      | none => rw [ed] at e; cases e
      | some d => rw [ed] at e; cases e
    · rw [List.getElem?_append_right (by simp; omega), List.getElem?_replicate] at e
      split at e <;> cases e
section
variable {P : Program} {w : World} {K : PySem.W.Frag} {mg : Str → Option Value} {base : Heap}
theorem fun_okF {x qual : Str} {st : Stmt} {f : Addr} {fd : FuncData} {N ps : List Str} {k : Nat} {g : Me → Res (Fl × Me)} (Fu : Fun K x qual st f fd) (S : FnScope N ps (defScope st))
    (hbody : ∀ (cdv : Value) (A : Around) (outer : List Env) (s : Shared) (H : Hp) (E : XK), Room k (A.deeper (envOfC qual (defScope st) s.heap.objs.size f cdv)) →
      FSs (cxOf (CX1 P w) P w K mg base N qual (defScope st) f cdv A outer s H E) E (defBody st) g) : FnOk P w K mg base (CX1 P w) (k + 1) f fd ps (spF ⟨K, mg⟩ (runF N.length ps.length g)) := by
  refine fun_okx Fu S (fun vs H Q E h => ?_) (fun cdv A outer s H vs Q E hr h => ?_)
  · obtain ⟨O, ds, _, hd, q⟩ := h
    rw [dvs_len hd]
    unfold runF at q
    exact (pu_if' q).1
  · obtain ⟨O, ds, hm, hd, q⟩ := h
    unfold runF at q
    obtain ⟨hn, q⟩ := pu_if' q
    refine ⟨_, hbody cdv A outer s H E hr, O, fun _ => False, H, fun _ => none, _, start_rel hm hd hn, ?_⟩
    have sm : ∀ {ow' σ' H' m'}, RelS (⟨K, mg⟩ : Gx) O (fun _ => False) H ow' σ' H' m' → Same H H' := fun R b o e => R.keep b o e id
    cases z : g (ds.map Sl.fz ++ List.replicate (N.length - ps.length) Sl.un) with
    | exc c => rw [z] at q; exact fun C H' e kp => q C H' e fun b o e => kp b o e id
    | stuck => rw [z] at q; exact q.elim
    | ok a =>
      obtain ⟨fl, m'⟩ := a
      rw [z] at q
      cases fl with
      | bk => exact q.elim
      | ct => exact q.elim
      | nx => exact fun ow' σ' H' R' _ => q _ H' (sm R') .non fun z => by cases z
      | rt fr d =>
        intro v ow' σ' H' R' _ hv hf
        refine q v H' (sm R') (hv.anti fun b z => .inl (.inl z)) fun z => ?_
        obtain ⟨p, e1, e2, e3⟩ := hf z
        exact ⟨p, e1, e2, e3.anti fun b z => .inl (z.elim (fun y => .inl (.inl y)) .inr)⟩
/-- what is never asked for -/
theorem no_fn {k : Nat} {f : Addr} {fd : FuncData} {ps : List Str} : FnOk P w K mg base (CX1 P w) k f fd ps (spF ⟨K, mg⟩ fun _ => .stuck) :=
  ⟨fun _ _ _ _ ⟨_, _, _, _, q⟩ => q.elim, fun _ _ _ _ _ _ _ _ _ _ _ _ _ ⟨_, _, _, _, q⟩ => q.elim⟩
end
def fFn (Φ : List D → Res (Bool × D)) (fs : Me → Res (List D)) : Me → Res D := fun m => (fs m).bind fun ds => (Φ ds).bind fun r => .ok r.2
def fFnB (Φ : List D → Res (Bool × D)) (fs : Me → Res (List D)) : Me → Res D := fun m => (fs m).bind fun ds => (Φ ds).bind fun r => if flat r.2 = true then .ok r.2 else .stuck
def fFnN (Φ : List D → Res (Bool × D)) (fs : Me → Res (List D)) : Me → Res D := fun m => (fs m).bind fun ds => (Φ ds).bind fun r => if r.1 = true then .ok r.2 else .stuck
section
variable {X : Cx} {E : XK} {j k : Nat} {x : Str} {ps : List Str} {Φ : List D → Res (Bool × D)} {p pos : Pos} {e : Expr} {es : List Expr} {fs : Me → Res (List D)}
theorem fe_fn (Fh : FF X.prog X.w X.K X.mg X.base k x ps Φ) (hr : Room j X.A) (hx : Passes (CX1 X.prog X.w) X E) (ha : FAE X E (e :: es) fs) (hk : k ≤ j := by decide) (hg : Gl X x := by rfl)
    (hdb : (x == ("__debug__" : Str)) = false := by decide) (he : starEach (e :: es) X.env = (false, eval e X.env) :: starEach es X.env := by rfl) (hpl : (backTo pos (starEach es X.env)).any (·.1) = false := by rfl) :
    FE X E (.Call (.Name x p) (e :: es) [] pos) (fFn Φ fs) := by
  obtain ⟨f, fd, G, b, kp, m⟩ := Fh.ex
  refine pe_weak (pe_call G (hr.mono hk) hg m kp b .nil hx ha hdb he hpl) fun σ H Q ⟨O0, M0, H0, ow, m, R, q⟩ => ⟨O0, M0, H0, ow, m, R, q.bind.imp (Same.refl _) fun ds q vs H1 g1 hv => ?_⟩
  show spF _ _ (vs ++ []) _ _ _
  rw [List.append_nil]
  exact ⟨_, ds, (R.mono g1).mutk, hv, q.bind.imp g1 fun r q v H' g2 hv' _ => q v H' (g1.trans g2) hv'⟩
theorem fn_fn (Fh : FF X.prog X.w X.K X.mg X.base k x ps Φ) (hr : Room j X.A) (hx : Passes (CX1 X.prog X.w) X E) (ha : FAE X E (e :: es) fs) (hk : k ≤ j := by decide) (hg : Gl X x := by rfl)
    (hdb : (x == ("__debug__" : Str)) = false := by decide) (he : starEach (e :: es) X.env = (false, eval e X.env) :: starEach es X.env := by rfl) (hpl : (backTo pos (starEach es X.env)).any (·.1) = false := by rfl) :
    FN X E (.Call (.Name x p) (e :: es) [] pos) (fFnN Φ fs) := by
  obtain ⟨f, fd, G, b, kp, m⟩ := Fh.ex
  refine pe_weak (pe_call G (hr.mono hk) hg m kp b .nil hx ha hdb he hpl) fun σ H Q ⟨O0, M0, H0, ow, m, R, q⟩ => ⟨O0, M0, H0, ow, m, R, q.bind.imp (Same.refl _) fun ds q vs H1 g1 hv => ?_⟩
  show spF _ _ (vs ++ []) _ _ _
  rw [List.append_nil]
  refine ⟨_, ds, (R.mono g1).mutk, hv, q.bind.imp g1 fun r q v H' g2 hv' fr => ?_⟩
  obtain ⟨hf, q⟩ := pu_if q
  obtain ⟨p, rfl, n, o⟩ := fr hf
  exact q p H' (g1.trans g2) (g1.free n) o
end
end F

set_option Elab.async false
set_option linter.all false
set_option maxRecDepth 100000
set_option maxHeartbeats 4000000
namespace F
open PySem PySem.Spec PyProof.Rows L2 Hd

/-! ### numbers -/
/-- not too great to be multiplied -/
def Bg (i : Int) : Prop := i.natAbs < 2 ^ 4000
instance (i : Int) : Decidable (Bg i) := inferInstanceAs (Decidable (_ < _))
def dvI (i j : Int) : Int := if 0 < j then i / j else i.fdiv j
def mdI (i j : Int) : Int := if 0 < j then i % j else i.fmod j
def gAdd : D → D → Option D
  | .int i, .int j => some (.int (i + j))
  | .str a, .str b => if a.length + b.length ≤ sizeLine then some (.str (a ++ b)) else none
  | .lst a, .lst b => if a.length + b.length ≤ sizeLine then some (.lst (a ++ b)) else none
  | .tup a, .tup b => if a.length + b.length ≤ sizeLine then some (.tup (a ++ b)) else none
  | _, _ => none
def gSub : D → D → Option D
  | .int i, .int j => some (.int (i - j))
  | _, _ => none
def gMul : D → D → Option D
  | .int i, .int j => if Bg i ∧ Bg j then some (.int (i * j)) else none
  | _, _ => none
def gDiv : D → D → Option D
  | .int i, .int j => if j ≠ 0 ∧ Bg j then some (.int (dvI i j)) else none
  | _, _ => none
def gMod : D → D → Option D
  | .int i, .int j => if j ≠ 0 then some (.int (mdI i j)) else none
  | _, _ => none
def gPow : D → D → Option D
  | .int i, .int j => if 0 ≤ j ∧ j ≤ 1000000 ∧ i.natAbs < 2 ^ 64 then some (.int (i ^ j.toNat)) else none
  | _, _ => none
def gNeg : D → Option D
  | .int i => some (.int (-i))
  | _ => none
section
variable {X : Cx}
theorem oif {c : Prop} [Decidable c] {α : Type} {a r : α} (h : (if c then some a else none) = some r) : c ∧ a = r := by
  by_cases z : c
  · rw [if_pos z] at h; exact ⟨z, Option.some.inj h⟩
  · rw [if_neg z] at h; cases h
theorem fin_str {pins : List (Addr × Obj)} {σ : L2.St} {H : Hp} {s : Shared} {Q : VK} {O : Addr → Prop} {i : Str} {t : Tok} {tk : Nat} (I : Inv X pins σ H s) (q : ∀ v H', Same H H' → DV (gx X) O H' v (.str i) → Q v H') : EP X pins σ Q (.str i t) { s with toks := tk } :=
  ⟨.str i, H, I.tok _, ⟨t, rfl⟩, q _ _ (Same.refl _) (.str i)⟩
theorem fin_lst {pins : List (Addr × Obj)} {σ : L2.St} {H : Hp} {s : Shared} {Q : VK} {O : Addr → Prop} {xs : List V} {ds : List D} {its : List Value} {h' : Heap} {tk : Nat} (I : Inv X pins σ H s) (m : ∀ b, O b → MutK (H b)) (hd : DVs (gx X) O H xs ds) (r : Vals xs its) (hz : xs.length ≤ sizeLine)
    (kp : ∀ b o, s.heap.get? b = some o → h'.get? b = some o) (e : ∃ n, h'.get? s.heap.objs.size = some { cls := .type "list", data := .seq its.toArray n }) (q : ∀ p H', Same H H' → H p = none → OV (gx X) (Op O p) H' p (.lst ds) → Q (.ref p) H') : EP X pins σ Q (.ref s.heap.objs.size) { s with heap := h', toks := tk } := by
  have hf : H s.heap.objs.size = none := I.hok.fresh (Nat.le_refl _)
  obtain ⟨n, e⟩ := e
  refine ⟨.ref s.heap.objs.size, upd H s.heap.objs.size (.lst xs), I.laid kp (Nat.le_refl _) ⟨hz, its, n, r, e⟩, rfl, q _ _ (same_new hf _) hf ⟨xs, upd_same, ?_⟩⟩
  exact (hd.anti fun b z => z.elim .inl fun e => .inr (by rw [e]; exact hf)).mono (same_new hf _)
/-- from what is new to data -/
theorem new_dv {G : Gx} {O : Addr → Prop} {H : Hp} {r : D} {Q : VK} (m : ∀ b, O b → MutK (H b)) (q : ∀ v H', Same H H' → DV G O H' v r → Q v H') : ∀ p H', Same H H' → H p = none → OV G (Op O p) H' p r → Q (.ref p) H' := fun p H' g n o =>
  q _ H' g ((o.anti fun b z => .inl (.inl z)).dv fun z => by
    have := m p z
    rw [n] at this
    rcases this with ⟨_, e⟩ | ⟨_, e⟩ | ⟨_, e⟩ <;> cases e)
/-- list + list, whatever they are -/
def rCatN (G : Gx) : R2 := fun x y H Q => ∃ O ds es, (∀ b, O b → MutK (H b)) ∧ DW G O H x (.lst ds) ∧ DW G O H y (.lst es) ∧ ds.length + es.length ≤ sizeLine ∧ ∀ p H', Same H H' → H p = none → OV G (Op O p) H' p (.lst (ds ++ es)) → Q (.ref p) H'
theorem op_catN : OpR X (binaryOp .Add) (rCatN (gx X)) := by
  intro pins s σ H x y v u Q I rx ry h
  obtain ⟨O, ds, es, m, hx, hy, hz, q⟩ := h
  obtain ⟨a, xs, rfl, ha, hd⟩ := dw_lst hx
  obtain ⟨b, ys, rfl, hb, he⟩ := dw_lst hy
  cases rx
  cases ry
  obtain ⟨its, r1, p1, _⟩ := I.list ha
  obtain ⟨its2, r2, p2, _⟩ := I.list hb
  have l1 := dvs_len hd
  have l2 := dvs_len he
  have k1 := r1.length
  have k2 := r2.length
  obtain ⟨⟨cls, dd, data, sl⟩, ho, hc, n, hdt⟩ := id p1.isList
  obtain ⟨⟨cls2, dd2, data2, sl2⟩, ho2, hc2, n2, hd2⟩ := id p2.isList
  simp only at hc hdt hc2 hd2
  subst hc hdt hc2 hd2
  refine concat_meets ⟨_, ho, rfl⟩ ⟨_, ho2, rfl⟩ noFill_list_add seq_list_add PySem.F.slot_list_add PySem.F.entry_list_add (PySem.F.args_list_add_2 _ _) (list_addW a b its.toArray its2.toArray n n2 dd dd2 sl sl2 (by simp; omega)) ⟨ho, ho2, ?_⟩
  rw [show its.toArray ++ its2.toArray = (its ++ its2).toArray by simp]
  exact fin_lst (tk := s.toks) I m (dvs_app hd he) (r1.append r2) (by rw [List.length_append]; omega) (fun b o e => Heap.get?_push_of_some _ e) ⟨0, Heap.get?_push_size _ rfl⟩ q
theorem op_catTu : OpR X (binaryOp .Add) (fun x y H Q => ∃ O ds es, DW (gx X) O H x (.tup ds) ∧ DW (gx X) O H y (.tup es) ∧ ds.length + es.length ≤ sizeLine ∧ ∀ v H', Same H H' → DV (gx X) O H' v (.tup (ds ++ es)) → Q v H') := by
  intro pins s σ H x y v u Q I rx ry h
  obtain ⟨O, ds, es, hx, hy, hz, q⟩ := h
  obtain ⟨a, xs, rfl, ha, hd⟩ := dw_tupU hx
  obtain ⟨b, ys, rfl, hb, he⟩ := dw_tupU hy
  have l1 := dvs_len hd
  have l2 := dvs_len he
  by_cases hx0 : xs = []
  · subst hx0
    cases hd
    cases rx
    cases ry
    obtain ⟨its, r1, p1, _⟩ := I.tuple ha.sq
    obtain ⟨its2, r2, p2, _⟩ := I.tuple hb.sq
    cases r1
    obtain ⟨⟨cls, dd, data, sl⟩, ho, hc, n, hdt⟩ := id p1
    obtain ⟨⟨cls2, dd2, data2, sl2⟩, ho2, hc2, n2, hd2⟩ := id p2
    simp only at hc hdt hc2 hd2
    subst hc hdt hc2 hd2
    exact concat_meets ⟨_, ho, rfl⟩ ⟨_, ho2, rfl⟩ noFill_tuple_add seq_tuple_add PySem.F.slot_tuple_add PySem.F.entry_tuple_add (PySem.F.args_tuple_add_2 _ _)
      (tuple_addW0 a b ([] : List Value).toArray its2.toArray n n2 dd dd2 sl sl2 (by rfl)) ⟨ho, ho2, ⟨.ref b, H, I, rfl, q _ _ (Same.refl _) (.tup hb he)⟩⟩
  · refine op_catT pins s σ H _ _ v u Q I rx ry ⟨a, b, xs, ys, rfl, rfl, ha.sq, hb.sq, hx0, by omega, fun z => ?_, fun z p hp => ?_⟩
    · subst z
      cases he
      exact q _ _ (Same.refl _) (by rw [List.append_nil]; exact .tup ha hd)
    · exact q _ _ (same_new hp _) (.tup (SqU.of upd_same) ((dvs_app hd he).mono (same_new hp _)))
theorem op_gAdd : OpR X (binaryOp .Add) (rG (gx X) gAdd) := by
  intro pins s σ H x y v u Q I rx ry h
  obtain ⟨O, d, e, r, m, hx, hy, hr, q⟩ := h
  match d, e, hr with
  | .int i, .int j, hr =>
    cases hr
    exact op_add pins s σ H x y v u Q I rx ry ⟨i, j, dw_int hx, dw_int hy, q _ _ (Same.refl _) (.int _)⟩
  | .str i, .str j, hr =>
    obtain ⟨z, rfl⟩ := oif hr
    exact op_add_str pins s σ H x y v u Q I rx ry ⟨i, j, dw_str hx, dw_str hy, z, q _ _ (Same.refl _) (.str _)⟩
  | .lst ds, .lst es, hr =>
    obtain ⟨z, rfl⟩ := oif hr
    exact op_catN pins s σ H x y v u Q I rx ry ⟨O, ds, es, m, hx, hy, z, new_dv m q⟩
  | .tup ds, .tup es, hr =>
    obtain ⟨z, rfl⟩ := oif hr
    exact op_catTu pins s σ H x y v u Q I rx ry ⟨O, ds, es, hx, hy, z, q⟩
theorem op_gSub : OpR X (binaryOp .Sub) (rG (gx X) gSub) := by
  intro pins s σ H x y v u Q I rx ry h
  obtain ⟨O, d, e, r, m, hx, hy, hr, q⟩ := h
  match d, e, hr with
  | .int i, .int j, hr =>
    cases hr
    exact op_sub pins s σ H x y v u Q I rx ry ⟨i, j, dw_int hx, dw_int hy, q _ _ (Same.refl _) (.int _)⟩
theorem op_gMul : OpR X (binaryOp .Mult) (rG (gx X) gMul) := by
  intro pins s σ H x y v u Q I rx ry h
  obtain ⟨O, d, e, r, m, hx, hy, hr, q⟩ := h
  match d, e, hr with
  | .int i, .int j, hr =>
    obtain ⟨z, rfl⟩ := oif hr
    exact op_mulB pins s σ H x y v u Q I rx ry ⟨i, j, dw_int hx, dw_int hy, z, q _ _ (Same.refl _) (.int _)⟩
theorem op_gDiv : OpR X (binaryOp .FloorDiv) (rG (gx X) gDiv) := by
  intro pins s σ H x y v u Q I rx ry h
  obtain ⟨O, d, e, r, m, hx, hy, hr, q⟩ := h
  match d, e, hr with
  | .int i, .int j, hr =>
    obtain ⟨z, rfl⟩ := oif hr
    refine op_fdivB pins s σ H x y v u Q I rx ry ⟨i, j, dw_int hx, dw_int hy, z, ?_⟩
    have e : i.fdiv j = dvI i j := by
      unfold dvI
      split
      · rw [Int.fdiv_eq_ediv_of_nonneg i (by omega)]
      · rfl
    show Q (.int (i.fdiv j)) H
    rw [e]
    exact q _ _ (Same.refl _) (.int _)
theorem op_gMod : OpR X (binaryOp .Mod) (rG (gx X) gMod) := by
  intro pins s σ H x y v u Q I rx ry h
  obtain ⟨O, d, e, r, m, hx, hy, hr, q⟩ := h
  match d, e, hr with
  | .int i, .int j, hr =>
    obtain ⟨z, rfl⟩ := oif hr
    refine op_modN pins s σ H x y v u Q I rx ry ⟨i, j, dw_int hx, dw_int hy, z, ?_⟩
    have e : i.fmod j = mdI i j := by
      unfold mdI
      split
      · rw [Int.fmod_eq_emod_of_nonneg i (by omega)]
      · rfl
    show Q (.int (i.fmod j)) H
    rw [e]
    exact q _ _ (Same.refl _) (.int _)
theorem un_gNeg : UnR X (unaryOp .USub) (rG1 (gx X) gNeg) := by
  intro pins s σ H x v Q I rx h
  obtain ⟨O, d, r, m, hx, hr, q⟩ := h
  match d, hr with
  | .int i, hr =>
    cases hr
    exact un_neg pins s σ H x v Q I rx ⟨i, dw_int hx, q _ _ (Same.refl _) (.int _)⟩

/-! ### comparisons -/
mutual
def toPy : D → Option PyData
  | .non => some .none
  | .bl b => some (.bool b)
  | .int i => some (.int i)
  | .str x => some (.str x)
  | .tup xs => (toPys xs).map .tuple
  | .lst xs => (toPys xs).map .list
  | .exc _ => none
  | .dct _ _ => none
  | .dcu _ _ => none
  | .dcf _ _ => none
def toPys : List D → Option (List PyData)
  | [] => some []
  | d :: ds => (toPy d).bind fun p => (toPys ds).map fun ps => p :: ps
end
mutual
theorem toPy_dv {G : Gx} {O : Addr → Prop} {H : Hp} : ∀ {v : V} {d : D} {p : PyData}, DV G O H v d → toPy d = some p → Hd.DV G.K H v p
  | _, _, _, .non, e => by cases e; exact .non
  | _, _, _, .bl b, e => by cases e; exact .bl b
  | _, _, _, .int i, e => by cases e; exact .int i
  | _, _, _, .str x, e => by cases e; exact .str x
  | _, _, _, .exc _ _, e => by cases e
  | _, _, _, .tup h hs, e => by
    obtain ⟨ps, e1, rfl⟩ := omap (by simpa [toPy] using e)
    exact .tup h.sq (toPys_dv hs e1)
  | _, _, _, .lst h hs, e => by
    obtain ⟨ps, e1, rfl⟩ := omap (by simpa [toPy] using e)
    exact .lst h.sq (toPys_dv hs e1)
  | _, _, _, .dct _ _ _ _ _, e => by cases e
  | _, _, _, .dcu _ _ _ _ _, e => by cases e
  | _, _, _, .dcf _ _ _ _, e => by cases e
theorem toPys_dv {G : Gx} {O : Addr → Prop} {H : Hp} : ∀ {vs : List V} {ds : List D} {ps : List PyData}, DVs G O H vs ds → toPys ds = some ps → Hd.DVs G.K H vs ps
  | _, _, _, .nil, e => by cases e; exact .nil
  | _, _, _, .cons (d := d) (ds := ds) h hs, e => by
    unfold toPys at e
    cases e1 : toPy d with
    | none => rw [e1] at e; cases e
    | some p =>
      rw [e1] at e
      obtain ⟨ps, e2, rfl⟩ := omap e
      exact .cons (toPy_dv h e1) (toPys_dv hs e2)
end
theorem toPy_dw {G : Gx} {O : Addr → Prop} {H : Hp} {v : V} {d : D} {p : PyData} (h : DW G O H v d) (e : toPy d = some p) : Hd.DV G.K H v p := toPy_dv h.any e
/-- == of what is not told apart at once -/
def eqDeep (d e : D) : Option Bool := match toPy d, toPy e with
  | some p, some q => if SeqAt.shaped p = true ∧ SeqAt.shaped q = true then some (PyData.eqv p q) else none
  | _, _ => none
def gEq : D → D → Option Bool
  | .int i, .int j => some (decide (i = j))
  | .str i, .str j => some (decide (i = j))
  | .bl i, .bl j => some (decide (i = j))
  | .non, .non => some true
  | d, e => eqDeep d e
def gNe (d e : D) : Option Bool := (gEq d e).map (!·)
theorem eqDeep_is {d e : D} {b : Bool} (h : eqDeep d e = some b) : ∃ p q, toPy d = some p ∧ toPy e = some q ∧ SeqAt.shaped p = true ∧ SeqAt.shaped q = true ∧ PyData.eqv p q = b := by
  unfold eqDeep at h
  cases e1 : toPy d with
  | none => rw [e1] at h; cases h
  | some p =>
    cases e2 : toPy e with
    | none => rw [e1, e2] at h; cases h
    | some q =>
      rw [e1, e2] at h
      obtain ⟨⟨z1, z2⟩, rfl⟩ := oif h
      exact ⟨p, q, rfl, rfl, z1, z2, rfl⟩
theorem gEq_cases {d e : D} {b : Bool} (h : gEq d e = some b) : (∃ i j, d = .int i ∧ e = .int j ∧ b = decide (i = j)) ∨ (∃ i j, d = .str i ∧ e = .str j ∧ b = decide (i = j)) ∨ (∃ i j, d = .bl i ∧ e = .bl j ∧ b = decide (i = j)) ∨ (d = .non ∧ e = .non ∧ b = true) ∨ eqDeep d e = some b := by
  unfold gEq at h
  split at h
  · cases h; exact .inl ⟨_, _, rfl, rfl, rfl⟩
  · cases h; exact .inr (.inl ⟨_, _, rfl, rfl, rfl⟩)
  · cases h; exact .inr (.inr (.inl ⟨_, _, rfl, rfl, rfl⟩))
  · cases h; exact .inr (.inr (.inr (.inl ⟨rfl, rfl, rfl⟩)))
  · exact .inr (.inr (.inr (.inr h)))
theorem op_gEq (hu : X.A.units + 64 < cLine) : OpR X (compareOp .Eq) (rGB (gx X) gEq) := by
  intro pins s σ H x y v u Q I rx ry h
  obtain ⟨O, d, e, r, m, hx, hy, hr, q⟩ := h
  rcases gEq_cases hr with ⟨i, j, rfl, rfl, rfl⟩ | ⟨i, j, rfl, rfl, rfl⟩ | ⟨i, j, rfl, rfl, rfl⟩ | ⟨rfl, rfl, rfl⟩ | h
  · cases dw_int hx; cases dw_int hy
    exact op_eq pins s σ H _ _ v u Q I rx ry ⟨rfl, by simpa using q⟩
  · cases dw_str hx; cases dw_str hy
    exact op_eq pins s σ H _ _ v u Q I rx ry ⟨rfl, by simpa using q⟩
  · cases dw_bl hx; cases dw_bl hy
    exact op_eq pins s σ H _ _ v u Q I rx ry ⟨rfl, by simpa using q⟩
  · cases dw_non hx; cases dw_non hy
    exact op_eq pins s σ H _ _ v u Q I rx ry ⟨rfl, by simpa using q⟩
  · obtain ⟨p, p', e1, e2, z1, z2, rfl⟩ := eqDeep_is h
    exact op_eqD hu pins s σ H x y v u Q I rx ry ⟨p, p', toPy_dw hx e1, toPy_dw hy e2, z1, z2, q⟩
theorem op_gNe (hu : X.A.units + 64 < cLine) : OpR X (compareOp .NotEq) (rGB (gx X) gNe) := by
  intro pins s σ H x y v u Q I rx ry h
  obtain ⟨O, d, e, r, m, hx, hy, hr, q⟩ := h
  obtain ⟨c, hc, rfl⟩ := omap hr
  rcases gEq_cases hc with ⟨i, j, rfl, rfl, rfl⟩ | ⟨i, j, rfl, rfl, rfl⟩ | ⟨i, j, rfl, rfl, rfl⟩ | ⟨rfl, rfl, rfl⟩ | h
  · cases dw_int hx; cases dw_int hy
    exact op_ne pins s σ H _ _ v u Q I rx ry ⟨rfl, by simpa using q⟩
  · cases dw_str hx; cases dw_str hy
    exact op_ne pins s σ H _ _ v u Q I rx ry ⟨rfl, by simpa using q⟩
  · cases dw_bl hx; cases dw_bl hy
    exact op_ne pins s σ H _ _ v u Q I rx ry ⟨rfl, by simpa using q⟩
  · cases dw_non hx; cases dw_non hy
    exact op_ne pins s σ H _ _ v u Q I rx ry ⟨rfl, by simpa using q⟩
  · obtain ⟨p, p', e1, e2, z1, z2, rfl⟩ := eqDeep_is h
    exact op_neD hu pins s σ H x y v u Q I rx ry ⟨p, p', toPy_dw hx e1, toPy_dw hy e2, z1, z2, q⟩
def intL : List D → Option (List Int)
  | [] => some []
  | .int i :: ds => (intL ds).map (i :: ·)
  | _ :: _ => none
theorem intL_dv {G : Gx} {O : Addr → Prop} {H : Hp} : ∀ {vs : List V} {ds : List D} {ns : List Int}, DVs G O H vs ds → intL ds = some ns → vs = ns.map V.int
  | _, _, _, .nil, e => by cases e; rfl
  | _, _, _, .cons (d := d) h hs, e => by
    cases d with
    | int i =>
      obtain ⟨ns, e1, rfl⟩ := omap (by simpa [intL] using e)
      cases h
      rw [intL_dv hs e1]
      rfl
    | _ => cases e
def gLt : D → D → Option Bool
  | .int i, .int j => some (decide (i < j))
  | .tup a, .tup b => match intL a, intL b with
    | some ns, some ms => some (HT.lexLt ns ms)
    | _, _ => none
  | _, _ => none
def gLe : D → D → Option Bool
  | .int i, .int j => some (decide (i ≤ j))
  | _, _ => none
def gGt : D → D → Option Bool
  | .int i, .int j => some (decide (j < i))
  | _, _ => none
def gGe : D → D → Option Bool
  | .int i, .int j => some (decide (j ≤ i))
  | _, _ => none
theorem op_gLt (hu : X.A.units + 64 < cLine) : OpR X (compareOp .Lt) (rGB (gx X) gLt) := by
  intro pins s σ H x y v u Q I rx ry h
  obtain ⟨O, d, e, r, m, hx, hy, hr, q⟩ := h
  match d, e, hr with
  | .int i, .int j, hr => cases hr; exact op_lt pins s σ H x y v u Q I rx ry ⟨i, j, dw_int hx, dw_int hy, q⟩
  | .tup a, .tup b, hr =>
    unfold gLt at hr
    cases e1 : intL a with
    | none => simp only [e1] at hr; cases hr
    | some ns =>
      cases e2 : intL b with
      | none => simp only [e1, e2] at hr; cases hr
      | some ms =>
        simp only [e1, e2] at hr
        cases hr
        obtain ⟨p, xs, rfl, hp, hd⟩ := dw_tup hx
        obtain ⟨p', ys, rfl, hp', hd'⟩ := dw_tup hy
        exact op_ltT (by omega) pins s σ H _ _ v u Q I rx ry ⟨p, p', ns, ms, rfl, rfl, by rw [← intL_dv hd e1]; exact hp, by rw [← intL_dv hd' e2]; exact hp', q⟩
theorem op_gGt : OpR X (compareOp .Gt) (rGB (gx X) gGt) := by
  intro pins s σ H x y v u Q I rx ry h
  obtain ⟨O, d, e, r, m, hx, hy, hr, q⟩ := h
  match d, e, hr with
  | .int i, .int j, hr => cases hr; exact op_gt pins s σ H x y v u Q I rx ry ⟨i, j, dw_int hx, dw_int hy, q⟩
/-! is None, is True, is not .. -/
def isNon : D → Bool
  | .non => true
  | _ => false
def gIs : D → D → Option Bool
  | d, .non => some (isNon d)
  | .bl i, .bl j => some (decide (i = j))
  | _, _ => none
def gIsnt (d e : D) : Option Bool := (gIs d e).map (!·)
end
end F

set_option Elab.async false
set_option linter.all false
set_option maxRecDepth 100000
set_option maxHeartbeats 4000000
namespace F
open PySem PySem.Spec PyProof.Rows L2 Hd

section
variable {X : Cx} {E : XK} {e a b : Expr} {es : List Expr} {f fa : Me → Res D} {fs : Me → Res (List D)} {pos p : Pos}
/-! ### items, slices -/
def gIx : D → D → Option D
  | .lst ds, .int i => atI ds i
  | .tup ds, .int i => atI ds i
  | .str z, .int i => if z.length ≤ sizeLine then (atI z.cps.toList i).map fun c => .str ⟨#[c]⟩ else none
  | _, _ => none
theorem atI_dvs {G : Gx} {O : Addr → Prop} {H : Hp} {xs : List V} {ds : List D} {i : Int} {d : D} (h : DVs G O H xs ds) (e : atI ds i = some d) : ∃ x, atI xs i = some x ∧ DV G O H x d := by
  unfold atI at e ⊢
  rw [dvs_len h]
  cases q : ixN ds.length i with
  | none => rw [q] at e; cases e
  | some j => rw [q] at e; exact dvs_at h e
theorem ix_g : IxR X (rG (gx X) gIx) := by
  intro value slice pins s σ H x y v u Q I rx ry h hs
  obtain ⟨O, d, e, r, m, hx, hy, hr, q⟩ := h
  match d, e, hr with
  | .lst ds, .int i, hr =>
    cases dw_int hy
    obtain ⟨p, xs, rfl, hp, hd⟩ := dw_lst hx
    obtain ⟨z, hz, dz⟩ := atI_dvs hd hr
    exact ix_list value slice pins s σ H _ _ v u Q I rx ry ⟨p, xs, i, z, rfl, rfl, hp, hz, q _ _ (Same.refl _) dz⟩ hs
  | .tup ds, .int i, hr =>
    cases dw_int hy
    obtain ⟨p, xs, rfl, hp, hd⟩ := dw_tup hx
    obtain ⟨z, hz, dz⟩ := atI_dvs hd hr
    exact ix_tup value slice pins s σ H _ _ v u Q I rx ry ⟨p, xs, i, z, rfl, rfl, hp, hz, q _ _ (Same.refl _) dz⟩ hs
  | .str z, .int i, hr =>
    cases dw_int hy
    cases dw_str hx
    have hr' : (if z.length ≤ sizeLine then (atI z.cps.toList i).map fun c => D.str ⟨#[c]⟩ else none) = some r := hr
    by_cases hz : z.length ≤ sizeLine
    · rw [if_pos hz] at hr'
      obtain ⟨c, hc, rfl⟩ := omap hr'
      exact ix_str value slice pins s σ H _ _ v u Q I rx ry ⟨z, i, c, rfl, rfl, hz, hc, q _ _ (Same.refl _) (.str _)⟩ hs
    · rw [if_neg hz] at hr'; cases hr'
def tO (G : Gx) (E : XK) (f : Me → Res (Option Int)) : TO := fun σ H Q => ∃ O0 M0 H0 ow m, Rel G O0 M0 H0 ow σ H m ∧ Pu G E (f m) H fun o => ∀ H', Same H H' → Q o H'
abbrev FO (X : Cx) (E : XK) (e : Option Expr) (f : Me → Res (Option Int)) : Prop := PO X e (tO (gx X) E f)
theorem po_weak {e : Option Expr} {T T' : TO} (h : PO X e T) (k : ∀ σ H Q, T' σ H Q → T σ H Q) : PO X e T' := fun pins s σ H Q I q => h pins s σ H Q I (k σ H Q q)
def fO0 : Me → Res (Option Int) := fun _ => .ok none
def fO1 (f : Me → Res D) : Me → Res (Option Int) := fun m => (f m).bind fun d => match d with
  | .int i => .ok (some i)
  | _ => .stuck
theorem fo_none : FO X E none fO0 := po_weak po_none fun σ H Q ⟨O0, M0, H0, ow, m, R, q⟩ => q H (Same.refl _)
theorem fo_some (h : FB X E e f) : FO X E (some e) (fO1 f) := po_weak (po_some h) fun σ H Q ⟨O0, M0, H0, ow, m, R, q⟩ => ⟨O0, M0, H0, ow, m, R, q.bind.imp (Same.refl _) fun d q v H' g hv => by
  cases d with
  | int i => cases dw_int hv; exact ⟨i, rfl, q H' g⟩
  | _ => exact q.elim⟩
def cut {α : Type} (xs : List α) (lo hi : Option Int) : List α := (xs.drop (HT.sIx xs.length 0 lo)).take (HT.sIx xs.length xs.length hi - HT.sIx xs.length 0 lo)
def gSl : D → Option Int → Option Int → Option D
  | .lst ds, lo, hi => some (.lst (cut ds lo hi))
  | .tup ds, lo, hi => if HT.sIx ds.length 0 lo = 0 ∧ HT.sIx ds.length ds.length hi = ds.length then none else some (.tup (cut ds lo hi))
  | .str z, lo, hi => if z.length ≤ sizeLine then some (.str (Txt.slice z lo hi)) else none
  | _, _, _ => none
def rSl (G : Gx) : V → Option Int → Option Int → Hp → VK → Prop := fun x lo hi H Q => ∃ O d r, (∀ b, O b → MutK (H b)) ∧ DW G O H x d ∧ gSl d lo hi = some r ∧ ∀ v H', Same H H' → DV G O H' v r → Q v H'
def gSlL : D → Option Int → Option Int → Option D
  | .lst ds, lo, hi => some (.lst (cut ds lo hi))
  | _, _, _ => none
def rSlN (G : Gx) : V → Option Int → Option Int → Hp → VK → Prop := fun x lo hi H Q => ∃ O d r, (∀ b, O b → MutK (H b)) ∧ DW G O H x d ∧ gSlL d lo hi = some r ∧ ∀ p H', Same H H' → H p = none → OV G (Op O p) H' p r → Q (.ref p) H'
theorem cut_dvs {G : Gx} {O : Addr → Prop} {H : Hp} {xs : List V} {ds : List D} {lo hi : Option Int} (h : DVs G O H xs ds) : DVs G O H (cutV xs lo hi) (cut ds lo hi) := by
  unfold cutV cut
  rw [dvs_len h]
  exact dvs_take _ (dvs_drop _ h)
theorem sl_gN : SlR X (rSlN (gx X)) := by
  intro pins s σ H x v vl vu lo hi sl Q I rx hs pl pu h
  obtain ⟨O, d, r, m, hx, hr, q⟩ := h
  match d, hr with
  | .lst ds, hr =>
    cases hr
    obtain ⟨p, xs, rfl, hp, hd⟩ := dw_lst hx
    exact sl_list pins s σ H _ v vl vu lo hi sl Q I rx hs pl pu ⟨p, xs, rfl, hp, fun p hp' => q p _ (same_new hp' _) hp' ⟨_, upd_same, ((cut_dvs hd).anti fun b z => z.elim .inl fun e => .inr (by rw [e]; exact hp')).mono (same_new hp' _)⟩⟩
theorem partOf {u : Value} {o : Option Int} (h : IsPart u o) : ∃ l : Option (Int × Tok), u = partValue l ∧ l.map (·.1) = o := by
  cases h with
  | none => exact ⟨none, rfl, rfl⟩
  | int i t => exact ⟨some (i, t), rfl, rfl⟩
theorem sl_g : SlR X (rSl (gx X)) := by
  intro pins s σ H x v vl vu lo hi sl Q I rx hs pl pu h
  obtain ⟨O, d, r, m, hx, hr, q⟩ := h
  match d, hr with
  | .lst ds, hr => exact sl_gN pins s σ H x v vl vu lo hi sl Q I rx hs pl pu ⟨O, .lst ds, r, m, hx, hr, new_dv m q⟩
  | .tup ds, hr =>
    obtain ⟨p, xs, rfl, hp, hd⟩ := dw_tup hx
    have hr' : (if HT.sIx ds.length 0 lo = 0 ∧ HT.sIx ds.length ds.length hi = ds.length then none else some (D.tup (cut ds lo hi))) = some r := hr
    by_cases z : HT.sIx ds.length 0 lo = 0 ∧ HT.sIx ds.length ds.length hi = ds.length
    · rw [if_pos z] at hr'; cases hr'
    · rw [if_neg z] at hr'
      cases hr'
      exact sl_tup pins s σ H _ v vl vu lo hi sl Q I rx hs pl pu ⟨p, xs, rfl, hp, by rw [dvs_len hd]; exact z, fun p hp' => q _ _ (same_new hp' _) (.tup (SqU.of upd_same) ((cut_dvs hd).mono (same_new hp' _)))⟩
  | .str z, hr =>
    cases dw_str hx
    obtain ⟨t, rfl⟩ := rx
    obtain ⟨hz, rfl⟩ := oif hr
    obtain ⟨l, rfl, rfl⟩ := partOf pl
    obtain ⟨u, rfl, rfl⟩ := partOf pu
    refine ⟨"str", _, PySem.F.slot_str_getitem.lookup, typeIs_str _ _ _, wpAny_getItem_str_slice (l := l) (u := u) (st := none) hs rfl (post_val_or_str ⟨Nat.le_trans (Txt.slice_le z _ _) hz, fun t' k => fin_str (tk := k) I q⟩)⟩
def fSl (f : Me → Res D) (lo hi : Me → Res (Option Int)) : Me → Res D := fun m => (f m).bind fun d => (lo m).bind fun l => (hi m).bind fun u => ofO (gSl d l u)
def fSlN (f : Me → Res D) (lo hi : Me → Res (Option Int)) : Me → Res D := fun m => (f m).bind fun d => (lo m).bind fun l => (hi m).bind fun u => ofO (gSlL d l u)
variable {lo hi : Option Expr} {fl fh : Me → Res (Option Int)} {p2 : Pos}
theorem fe_slice (he : FB X E e f) (hl : FO X E lo fl) (hu : FO X E hi fh) : FE X E (.Subscript e (.Slice lo hi none p2) pos) (fSl f fl fh) :=
  pe_weak (pe_slice sl_g he hl hu) fun σ H Q ⟨O0, M0, H0, ow, m, R, q⟩ => ⟨O0, M0, H0, ow, m, R, q.bind.imp (Same.refl _) fun d q v H1 g1 hv => ⟨O0, M0, H0, ow, m, R.mono g1, q.bind.imp g1 fun l q H2 g2 => ⟨O0, M0, H0, ow, m, R.mono (g1.trans g2), q.bind.imp (g1.trans g2) fun u q H3 g3 => by
    obtain ⟨r, hr, k⟩ := q.ofO
    exact ⟨_, d, r, (R.mono ((g1.trans g2).trans g3)).mutk, hv.mono (g2.trans g3), hr, fun v H' g d => k v H' (((g1.trans g2).trans g3).trans g) d⟩⟩⟩⟩
/-! list + list as a new thing -/
def gCatL : D → D → Option D
  | .lst a, .lst b => if a.length + b.length ≤ sizeLine then some (.lst (a ++ b)) else none
  | _, _ => none
/-! ### what is built in -/
def gLen : List D → Option D
  | [.lst ds] => some (.int ds.length)
  | [.tup ds] => some (.int ds.length)
  | [.str z] => if z.length ≤ sizeLine then some (.int z.length) else none
  | [.dct ks _] => some (.int ks.length)
  | _ => none
theorem dws1 {G : Gx} {O : Addr → Prop} {H : Hp} {vs : List V} {d : D} (h : DWs G O H vs [d]) : ∃ v, vs = [v] ∧ DW G O H v d := by
  match h with
  | .cons a .nil => exact ⟨_, rfl, a⟩
theorem call_gLen : CallR X (.builtin "len") (rGC (gx X) gLen) := by
  intro pins s σ H xs us Q I r h
  obtain ⟨O, ds, d, m, hx, hr, q⟩ := h
  match ds, hr with
  | [.lst ds], hr =>
    cases hr
    obtain ⟨v, rfl, hv⟩ := dws1 hx
    obtain ⟨p, xs, rfl, hp, hd⟩ := dw_lst hv
    exact call_len_seq pins s σ H _ us Q I r ⟨p, xs, rfl, .inl hp, by rw [dvs_len hd]; exact q _ _ (Same.refl _) (.int _)⟩
  | [.tup ds], hr =>
    cases hr
    obtain ⟨v, rfl, hv⟩ := dws1 hx
    obtain ⟨p, xs, rfl, hp, hd⟩ := dw_tup hv
    exact call_len_seq pins s σ H _ us Q I r ⟨p, xs, rfl, .inr hp, by rw [dvs_len hd]; exact q _ _ (Same.refl _) (.int _)⟩
  | [.str z], hr =>
    obtain ⟨hz, rfl⟩ := oif hr
    obtain ⟨v, rfl, hv⟩ := dws1 hx
    cases dw_str hv
    exact call_len_str pins s σ H _ us Q I r ⟨z, rfl, hz, q _ _ (Same.refl _) (.int _)⟩
  | [.dct ks vs], hr =>
    cases hr
    obtain ⟨v, rfl, hv⟩ := dws1 hx
    obtain ⟨p, kvs, ws, rfl, hp, e1, e2, hd⟩ := dw_dct hv
    exact call_lenD pins s σ H _ us Q I r ⟨p, kvs, rfl, hp, by rw [show kvs.length = ks.length by rw [← e1, List.length_map]]; exact q _ _ (Same.refl _) (.int _)⟩
def gAbs : List D → Option D
  | [.int i] => some (.int (if i < 0 then -i else i))
  | _ => none
theorem call_gAbs : CallR X (.builtin "abs") (rGC (gx X) gAbs) := by
  intro pins s σ H xs us Q I r h
  obtain ⟨O, ds, d, m, hx, hr, q⟩ := h
  match ds, hr with
  | [.int i], hr =>
    cases hr
    obtain ⟨v, rfl, hv⟩ := dws1 hx
    cases dw_int hv
    exact call_abs pins s σ H _ us Q I r ⟨i, rfl, q _ _ (Same.refl _) (.int _)⟩
def gStr : List D → Option D
  | [.int i] => if i.natAbs.log2 < 1920 then some (.str (toString i : String)) else none
  | _ => none
def gTuple : List D → Option D
  | [.lst ds] => some (.tup ds)
  | [.tup ds] => some (.tup ds)
  | _ => none
theorem call_gTuple : CallR X (.type "tuple") (rGC (gx X) gTuple) := by
  intro pins s σ H xs us Q I r h
  obtain ⟨O, ds, d, m, hx, hr, q⟩ := h
  match ds, hr with
  | [.lst ds], hr =>
    cases hr
    obtain ⟨v, rfl, hv⟩ := dws1 hx
    obtain ⟨p, xs, rfl, hp, hd⟩ := dw_lst hv
    exact call_tuple_of pins s σ H _ us Q I r ⟨p, xs, rfl, .inl ⟨hp, fun l hl => q _ _ (same_new hl _) (.tup (SqU.of upd_same) (hd.mono (same_new hl _)))⟩⟩
  | [.tup ds], hr =>
    cases hr
    obtain ⟨v, rfl, hv⟩ := dws1 hx
    obtain ⟨p, xs, rfl, hp, hd⟩ := dw_tupU hv
    exact call_tuple_of pins s σ H _ us Q I r ⟨p, xs, rfl, .inr ⟨hp.sq, q _ _ (Same.refl _) (.tup hp hd)⟩⟩
def gList : List D → Option D
  | [.lst ds] => some (.lst ds)
  | [.tup ds] => some (.lst ds)
  | _ => none
/-! ### isinstance -/
def kindD : D → String
  | .non => "NoneType"
  | .bl _ => "bool"
  | .int _ => "int"
  | .str _ => "str"
  | .tup _ => "tuple"
  | .lst _ => "list"
  | .dct _ _ => "dict"
  | .dcu _ _ => "dict"
  | .exc _ => ""
  | .dcf _ _ => ""
def subT (t T : String) : Bool := t == T || (t == "bool" && T == "int")
def kinds : List String := ["NoneType", "bool", "int", "str", "tuple", "list", "dict"]
theorem kit_eqT {K : PySem.W.Frag} {t : String} : PySem.W.kitOne K (.type t) (.type t) = some true := by unfold PySem.W.kitOne; rw [if_pos (by simp)]
theorem kit_all {K : PySem.W.Frag} : ∀ t ∈ kinds, ∀ T ∈ kinds, PySem.W.kitOne K (.type t) (.type T) = some (subT t T) := by
  intro t ht T hT
  simp only [kinds, List.mem_cons, List.not_mem_nil, or_false] at ht hT
  rcases ht with rfl | rfl | rfl | rfl | rfl | rfl | rfl <;> rcases hT with rfl | rfl | rfl | rfl | rfl | rfl | rfl <;> first | exact kit_eqT | kernel_rfl
theorem kindD_ty {G : Gx} {O : Addr → Prop} {H : Hp} {v : V} {d : D} (h : DW G O H v d) (n : kindD d ≠ "") : kindD d ∈ kinds ∧ TyK G.K H v (.type (kindD d)) := by
  have z := h.any
  cases z with
  | non => exact ⟨by simp [kindD, kinds], .of .non⟩
  | bl b => exact ⟨by simp [kindD, kinds], .of (.bl b)⟩
  | int b => exact ⟨by simp [kindD, kinds], .of (.int b)⟩
  | str b => exact ⟨by simp [kindD, kinds], .of (.str b)⟩
  | exc _ _ => exact absurd rfl n
  | dcf _ _ _ _ => exact absurd rfl n
  | tup hq _ => exact ⟨by simp [kindD, kinds], .tup hq.sq⟩
  | lst hq _ => exact ⟨by simp [kindD, kinds], .lst hq.sq⟩
  | dct _ e _ _ _ => exact ⟨by simp [kindD, kinds], .of (.dK e)⟩
  | dcu _ e _ _ _ => exact ⟨by simp [kindD, kinds], .of (.dT e)⟩
def fIsi (T : String) (f : Me → Res D) : Me → Res D := fun m => (f m).bind fun d => if kindD d = "" then .stuck else .ok (.bl (subT (kindD d) T))
theorem fe_isi {x y : Str} {py : Pos} {T : String} (ha : FB X E a fa) (hg : Gl X "isinstance") (hm : X.mg "isinstance" = none) (hv : bootBuiltins "isinstance" = some (.builtin "isinstance")) (hgy : Gl X y) (hmy : X.mg y = none) (hvy : bootBuiltins y = some (.type T)) (hT : T ∈ kinds := by decide)
    (hny : y ≠ "__name__" := by decide) (hdy : (y == ("__debug__" : Str)) = false := by decide)
    (he : starEach [a, .Name y py] X.env = (false, eval a X.env) :: starEach [.Name y py] X.env := by rfl) (he2 : starEach [.Name y py] X.env = (false, eval (.Name y py) X.env) :: starEach [] X.env := by rfl) (hpl : (backTo pos (starEach [.Name y py] X.env)).any (·.1) = false := by rfl) :
    FE X E (.Call (.Name "isinstance" p) [a, .Name y py] [] pos) (fIsi T fa) :=
  pe_weak (pe_callB call_isiK hg hm hv (pa_cons ha (pa_cons (pe_bltn (v := .ty T) hgy hmy hvy rfl hny hdy) pa_nil he2) he) (by decide) (by decide) he hpl) fun σ H Q ⟨O0, M0, H0, ow, m, R, q⟩ => ⟨O0, M0, H0, ow, m, R, q.bind.imp (Same.refl _) fun d q v H' g hv => by
    by_cases n : kindD d = ""
    · rw [if_pos n] at q; exact q.elim
    · rw [if_neg n] at q
      obtain ⟨k1, k2⟩ := kindD_ty hv n
      exact ⟨v, .ty T, _, _, _, rfl, rfl, k2, kit_all _ k1 T hT, q _ _ g (.bl _)⟩⟩
end
end F

set_option Elab.async false
set_option linter.all false
set_option maxRecDepth 100000
set_option maxHeartbeats 4000000
namespace F
open PySem PySem.Spec PyProof.Rows L2 Hd

section
variable {G : Gx} {O0 M0 : Addr → Prop} {H0 H H' : Hp} {ow : Os} {σ : L2.St} {m : Me}
/-- the thing of the i-th name is another one now, all else is kept -/
theorem RelS.chg {i : Nat} {a : Addr} {d d' : D} {s' : Sl} (R : RelS G O0 M0 H0 ow σ H m) (ho : ow i = some a) (g : Kp (· = a) H H') (h : OV G (Ow O0 ow) H' a d')
    (hs : (m[i]? = some (.ow d) ∧ s' = .ow d') ∨ (m[i]? = some (.io d) ∧ s' = .io d')) : RelS G O0 M0 H0 ow σ H' (m.set i s') := by
  have oa : Ow O0 ow a := .inr ⟨i, ho⟩
  have kp : Kp (Ow O0 ow) H H' := fun b u e n => g b u e fun z => n (z ▸ oa)
  have hi : i < m.length := by rcases hs with ⟨e, _⟩ | ⟨e, _⟩ <;> exact get_lt e
  have ne : ∀ b o, H b = some o → b ≠ a → H' b = H b := fun b o e n => by rw [e]; exact g b o e n
  refine ⟨⟨by simp [R.len], fun b u e n => ?_, fun b z => ?_, fun b z => ?_, R.no0, R.inj, fun j hj => R.out j (by simpa using hj), fun j s e => ?_⟩, nb_set R.nb fun _ z => by rcases hs with ⟨_, w⟩ | ⟨_, w⟩ <;> (rw [w] at z; cases z)⟩
  · refine g b u (R.keep b u e n) fun z => ?_
    subst z
    rcases hs with ⟨q, _⟩ | ⟨q, _⟩
    · obtain ⟨a', e1, e2, _⟩ := R.slot i _ q
      rw [ho] at e1; cases e1
      rw [e2] at e; cases e
    · obtain ⟨a', e1, e2, _⟩ := R.slot i _ q
      rw [ho] at e1; cases e1
      exact n e2
  · by_cases q : b = a
    · rw [q]
      have := h.mut
      intro w
      rw [w] at this
      rcases this with ⟨_, e⟩ | ⟨_, e⟩ | ⟨_, e⟩ <;> cases e
    · cases w : H b with
      | none => exact absurd w (R.m0 b z)
      | some o => rw [g b o w q]; simp
  · by_cases q : b = a
    · rw [q]; exact h.mut
    · have := R.mutk b z
      rcases this with ⟨_, e⟩ | ⟨_, e⟩ | ⟨_, e⟩
      · rw [ne b _ e q]; exact .inl ⟨_, e⟩
      · rw [ne b _ e q]; exact .inr (.inl ⟨_, e⟩)
      · rw [ne b _ e q]; exact .inr (.inr ⟨_, e⟩)
  · by_cases q : j = i
    · subst q
      rw [List.getElem?_set_self hi] at e
      cases e
      rcases hs with ⟨q, rfl⟩ | ⟨q, rfl⟩
      · obtain ⟨a', e1, e2, e3, _⟩ := R.slot j _ q
        rw [ho] at e1; cases e1
        exact ⟨a, ho, e2, e3, h⟩
      · obtain ⟨a', e1, e2, e3, _⟩ := R.slot j _ q
        rw [ho] at e1; cases e1
        exact ⟨a, ho, e2, e3, h⟩
    · rw [List.getElem?_set_ne (Ne.symm q)] at e
      have z := R.slot j s e
      have other : ∀ {b : Addr} {d : D}, ow j = some b → OV G (Ow O0 ow) H b d → OV G (Ow O0 ow) H' b d := fun {b d} e1 h1 => by
        have nb : b ≠ a := fun w => q (R.inj j i b e1 (w ▸ ho))
        rcases h1.mut with ⟨_, e⟩ | ⟨_, e⟩ | ⟨_, e⟩ <;> exact h1.kp R.mutk kp (ne b _ e nb)
      cases s with
      | un => exact z
      | fz d => obtain ⟨b, x, e, q⟩ := z; exact ⟨b, x, e, q.kp R.mutk kp⟩
      | ow d => obtain ⟨b, x, e, f, q'⟩ := z; exact ⟨b, x, e, f, other x q'⟩
      | io d => obtain ⟨b, x, e, f, q'⟩ := z; exact ⟨b, x, e, f, other x q'⟩
      | bw d => exact (R.nb j d e).elim
theorem Go.chg {i : Nat} {a : Addr} {d : D} (ho : ow i = some a) (g : Kp (· = a) H H') (h : OV G (Ow O0 ow) H' a d) : Go O0 ow H ow H' :=
  ⟨fun b u e n => g b u e fun z => n (z ▸ .inr ⟨i, ho⟩), fun j b e => .inl (.inr ⟨j, e⟩), fun b n => by
    by_cases q : b = a
    · rw [q]
      have := h.mut
      intro w
      rw [w] at this
      rcases this with ⟨_, e⟩ | ⟨_, e⟩ | ⟨_, e⟩ <;> cases e
    · cases w : H b with
      | none => exact absurd w n
      | some o => rw [g b o w q]; simp⟩
theorem kp_upd {a : Addr} {o : HO} : Kp (· = a) H (L2.upd H a o) := fun b u e n => by rw [L2.upd_ne n]; exact e
/-- the i-th name's list -/
def ownL (m : Me) (i : Nat) : Option (Bool × List D) := match m[i]? with
  | some (.ow (.lst ds)) => some (true, ds)
  | some (.io (.lst ds)) => some (false, ds)
  | _ => none
def putL (m : Me) (i : Nat) (k : Bool) (ds : List D) : Me := m.set i (if k then .ow (.lst ds) else .io (.lst ds))
theorem ownL_is (R : Rel G O0 M0 H0 ow σ H m) {i : Nat} {k : Bool} {ds : List D} (e : ownL m i = some (k, ds)) : ∃ a xs, ow i = some a ∧ σ[i]? = some (some (.ref a)) ∧ H a = some (.lst xs) ∧ DVs G (Ow O0 ow) H xs ds ∧ ((m[i]? = some (.ow (.lst ds)) ∧ k = true) ∨ (m[i]? = some (.io (.lst ds)) ∧ k = false)) := by
  unfold ownL at e
  split at e
  · rename_i q
    cases e
    obtain ⟨a, e1, e2, e3, xs, e4, e5⟩ := R.slot i _ q
    exact ⟨a, xs, e1, e3, e4, e5, .inl ⟨q, rfl⟩⟩
  · rename_i q
    cases e
    obtain ⟨a, e1, e2, e3, xs, e4, e5⟩ := R.slot i _ q
    exact ⟨a, xs, e1, e3, e4, e5, .inr ⟨q, rfl⟩⟩
  · cases e
/-- the i-th name's list is written -/
theorem RelS.put {i : Nat} {k : Bool} {a : Addr} {ds es : List D} {ys : List V} (R : RelS G O0 M0 H0 ow σ H m) (ho : ow i = some a) (hm : (m[i]? = some (.ow (.lst ds)) ∧ k = true) ∨ (m[i]? = some (.io (.lst ds)) ∧ k = false)) (hd : DVs G (Ow O0 ow) H ys es) :
    RelS G O0 M0 H0 ow σ (L2.upd H a (.lst ys)) (putL m i k es) ∧ Go O0 ow H ow (L2.upd H a (.lst ys)) := by
  have oa : Ow O0 ow a := .inr ⟨i, ho⟩
  have kp : Kp (Ow O0 ow) H (L2.upd H a (.lst ys)) := fun b u e n => kp_upd b u e fun z => n (z ▸ oa)
  have ov : OV G (Ow O0 ow) (L2.upd H a (.lst ys)) a (.lst es) := ⟨ys, L2.upd_same, hd.kp R.mutk kp⟩
  refine ⟨R.chg (d := .lst ds) (d' := .lst es) ho kp_upd ov ?_, Go.chg ho kp_upd ov⟩
  rcases hm with ⟨e, rfl⟩ | ⟨e, rfl⟩
  · exact .inl ⟨e, rfl⟩
  · exact .inr ⟨e, rfl⟩
end

/-! ### lists that change -/
section
variable {X : Cx} {E : XK} {e : Expr} {es : List Expr} {f : Me → Res D} {fs : Me → Res (List D)} {pos apos cpos np : Pos} {i j : Nat} {x y : Str}
def gAppend (i : Nat) (f : Me → Res D) : Me → Res (Fl × Me) := fun m => (ofO (ownL m i)).bind fun o => (f m).bind fun d => if o.2.length < sizeLine then .ok (.nx, putL m i o.1 (o.2 ++ [d])) else .stuck
theorem fs_append (i : Nat) (he : FE X E e f) (hN : X.N[i]? = some x := by rfl) (hv : Vis X.env.scope x := by first | exact Or.inl rfl | exact Or.inr (Or.inl rfl) | exact Or.inr (Or.inr rfl)) (hd : (x == ("__debug__" : Str)) = false := by decide) (hcd : (x == ("__classdict__" : Str)) = false := by decide)
    (hbase : attributeBase (.Name x np) "append" X.env (eval (.Name x np) X.env) = eval (.Name x np) X.env := by rfl)
    (hfew : ((backTo cpos (starEach [e] X.env)).all (fun x => !x.1) && (backToKw cpos (keywordEach [] X.env)).all (fun x => x.1.isSome) && decide ([e].length + ([] : List Keyword).length + (if ([] : List Keyword).isEmpty then 0 else 1) < 30)) = true := by rfl)
    (hline : (apos.endLine == cpos.line) = true := by rfl) (hs : starEach [e] X.env = (false, eval e X.env) :: starEach [] X.env := by rfl) (hplain : (backTo cpos (starEach [] X.env)).any (·.1) = false := by rfl)
    (hsw : swapsWith (.Call (.Attribute (.Name x np) "append" apos) [e] [] cpos) none pos.line X.env = pure false := by rfl) :
    FS X E (.Expr (.Call (.Attribute (.Name x np) "append" apos) [e] [] cpos) pos) (gAppend i f) :=
  ps_weak (ps_expr (pe_bm PySem.F.plainAttrs_list PySem.F.slot_list_append PySem.F.type_list_append mt_append (pe_var hN hv hd hcd) (pa_cons he pa_nil hs) hbase hfew hline hs hplain) hsw) fun W σ H ⟨O0, M0, H0, ow, m, R, q⟩ => by
    obtain ⟨o, ho, q⟩ := Ss.ofO q
    obtain ⟨k, ds⟩ := o
    obtain ⟨a, xs, e1, e2, e3, e4, e5⟩ := ownL_is R.toRel ho
    refine ⟨_, e2, .inl ⟨rfl, xs, SqL.of e3⟩, O0, M0, H0, ow, m, R.toRel, (Ss.pu R.toRel q).imp (Same.refl _) fun d q v H1 g1 hv => ?_⟩
    have R1 := R.mono g1
    by_cases hz : ds.length < sizeLine
    · rw [if_pos hz] at q
      obtain ⟨R2, g2⟩ := R1.put (es := ds ++ [d]) (ys := xs ++ [v]) e1 e5 (dvs_app (e4.mono g1) (.cons hv .nil))
      exact ⟨a, xs, v, rfl, rfl, g1 _ _ e3, by rw [dvs_len e4]; exact hz, q _ _ _ R2 ((Go.refl g1).trans g2)⟩
    · rw [if_neg hz] at q; exact q.elim
def gClear (i : Nat) : Me → Res (Fl × Me) := fun m => (ofO (ownL m i)).bind fun o => .ok (.nx, putL m i o.1 [])
/-- xs.extend(e), e a list -/
def gExtend (i : Nat) (f : Me → Res D) : Me → Res (Fl × Me) := fun m => (ofO (ownL m i)).bind fun o => (f m).bind fun d => match d with
  | .lst es => if o.2.length + es.length ≤ sizeLine then .ok (.nx, putL m i o.1 (o.2 ++ es)) else .stuck
  | _ => .stuck
theorem fs_extend (i : Nat) (he : FN X E e f) (hN : X.N[i]? = some x := by rfl) (hv : Vis X.env.scope x := by first | exact Or.inl rfl | exact Or.inr (Or.inl rfl) | exact Or.inr (Or.inr rfl)) (hd : (x == ("__debug__" : Str)) = false := by decide) (hcd : (x == ("__classdict__" : Str)) = false := by decide)
    (hbase : attributeBase (.Name x np) "extend" X.env (eval (.Name x np) X.env) = eval (.Name x np) X.env := by rfl)
    (hfew : ((backTo cpos (starEach [e] X.env)).all (fun x => !x.1) && (backToKw cpos (keywordEach [] X.env)).all (fun x => x.1.isSome) && decide ([e].length + ([] : List Keyword).length + (if ([] : List Keyword).isEmpty then 0 else 1) < 30)) = true := by rfl)
    (hline : (apos.endLine == cpos.line) = true := by rfl) (hs : starEach [e] X.env = (false, eval e X.env) :: starEach [] X.env := by rfl) (hplain : (backTo cpos (starEach [] X.env)).any (·.1) = false := by rfl)
    (hsw : swapsWith (.Call (.Attribute (.Name x np) "extend" apos) [e] [] cpos) none pos.line X.env = pure false := by rfl) :
    FS X E (.Expr (.Call (.Attribute (.Name x np) "extend" apos) [e] [] cpos) pos) (gExtend i f) :=
  ps_weak (ps_expr (pe_bm PySem.F.plainAttrs_list PySem.F.slot_list_extend PySem.F.type_list_extend mt_extend (pe_var hN hv hd hcd) (pa_cons he pa_nil hs) hbase hfew hline hs hplain) hsw) fun W σ H ⟨O0, M0, H0, ow, m, R, q⟩ => by
    obtain ⟨o, ho, q⟩ := Ss.ofO q
    obtain ⟨k, ds⟩ := o
    obtain ⟨a, xs, e1, e2, e3, e4, e5⟩ := ownL_is R.toRel ho
    refine ⟨_, e2, .inl ⟨rfl, xs, SqL.of e3⟩, O0, M0, H0, ow, m, R.toRel, (Ss.pu R.toRel q).imp (Same.refl _) fun d q p H1 g1 n hv => ?_⟩
    have R1 := R.mono g1
    cases d with
    | lst es =>
      have q : Ss (gx X) E O0 M0 H0 ow H W (if ds.length + es.length ≤ sizeLine then .ok (.nx, putL m i k (ds ++ es)) else .stuck) := q
      obtain ⟨zs, h1, h2⟩ := hv
      by_cases hz : ds.length + es.length ≤ sizeLine
      · rw [if_pos hz] at q
        have h2' : DVs (gx X) (Ow O0 ow) H1 zs es := h2.anti fun b z => .inl (.inl z)
        obtain ⟨R2, g2⟩ := R1.put (es := ds ++ es) (ys := xs ++ zs) e1 e5 (dvs_app (e4.mono g1) h2')
        exact ⟨a, p, xs, zs, rfl, rfl, g1 _ _ e3, h1, by rw [dvs_len e4, dvs_len h2]; exact hz, q _ _ _ R2 ((Go.refl g1).trans g2)⟩
      · rw [if_neg hz] at q; exact q.elim
    | _ => exact q.elim
/-- y = xs.pop() -/
def gSetPop (j i : Nat) : Me → Res (Fl × Me) := fun m => (ofO (ownL m i)).bind fun o => (ofO (o.2[o.2.length - 1]?)).bind fun d => .ok (.nx, (putL m i o.1 o.2.dropLast).set j (.fz d))
/-- xs.pop() alone -/
def gPop (i : Nat) : Me → Res (Fl × Me) := fun m => (ofO (ownL m i)).bind fun o => (ofO (o.2[o.2.length - 1]?)).bind fun d => .ok (.nx, putL m i o.1 o.2.dropLast)
/-- xs[e] = v -/
def gSetIx (i : Nat) (fk fv : Me → Res D) : Me → Res (Fl × Me) := fun m => (fv m).bind fun d => (ofO (ownL m i)).bind fun o => (fk m).bind fun k => match k with
  | .int n => (ofO (ixN o.2.length n)).bind fun j => .ok (.nx, putL m i o.1 (o.2.set j d))
  | _ => .stuck
end
end F

set_option Elab.async false
set_option linter.all false
set_option maxRecDepth 100000
set_option maxHeartbeats 4000000
namespace F
open PySem PySem.Spec PyProof.Rows L2 Hd

/-! ### expressions that change what is one's own -/
def Xs (G : Gx) (E : XK) {α : Type} (O0 M0 : Addr → Prop) (H0 : Hp) (ow : Os) (σ : L2.St) (H : Hp) (r : Res (α × Me)) (k : α → Hp → Prop) : Prop := match r with
  | .ok (a, m') => ∀ H', RelS G O0 M0 H0 ow σ H' m' → Go O0 ow H ow H' → k a H'
  | .exc c => ∀ C H', G.mg c = some (.ref C) → Kp M0 H0 H' → E (.ref C) none H'
  | .stuck => False
def tX (G : Gx) (E : XK) (f : Me → Res (D × Me)) : TE := fun σ H Q => ∃ O0 M0 H0 ow m, RelS G O0 M0 H0 ow σ H m ∧ Xs G E O0 M0 H0 ow σ H (f m) fun d H' => ∀ v, DV G (Ow O0 ow) H' v d → Q v H'
def tXA (G : Gx) (E : XK) (f : Me → Res (List D × Me)) : TA := fun σ H Q => ∃ O0 M0 H0 ow m, RelS G O0 M0 H0 ow σ H m ∧ Xs G E O0 M0 H0 ow σ H (f m) fun ds H' => ∀ vs, DVs G (Ow O0 ow) H' vs ds → Q vs H'
abbrev FX (X : Cx) (E : XK) (e : Expr) (f : Me → Res (D × Me)) : Prop := PE X e (tX (gx X) E f)
abbrev FXA (X : Cx) (E : XK) (es : List Expr) (f : Me → Res (List D × Me)) : Prop := PA X es (tXA (gx X) E f)
section
variable {G : Gx} {E : XK} {O0 M0 : Addr → Prop} {H0 H H1 : Hp} {ow : Os} {σ : L2.St} {m : Me}
theorem Xs.imp {α : Type} {r : Res (α × Me)} {k k' : α → Hp → Prop} (h : Xs G E O0 M0 H0 ow σ H r k) (g : Go O0 ow H ow H1) (hk : ∀ a H' m', RelS G O0 M0 H0 ow σ H' m' → Go O0 ow H1 ow H' → r = .ok (a, m') → k a H' → k' a H') : Xs G E O0 M0 H0 ow σ H1 r k' := by
  cases r with
  | ok a => obtain ⟨a, m'⟩ := a; exact fun H' R g' => hk a H' m' R g' rfl (h H' R (g.trans g'))
  | exc c => exact h
  | stuck => exact h
/-- one reckoning behind another -/
theorem Xs.bind {α β : Type} {r : Res (α × Me)} {f : α → Me → Res (β × Me)} {k : β → Hp → Prop} (h : Xs G E O0 M0 H0 ow σ H (r.bind fun p => f p.1 p.2) k) :
    Xs G E O0 M0 H0 ow σ H r fun a H' => ∀ m', r = .ok (a, m') → RelS G O0 M0 H0 ow σ H' m' → Xs G E O0 M0 H0 ow σ H' (f a m') k := by
  cases r with
  | ok a =>
    obtain ⟨a, m1⟩ := a
    intro H' R g m' e R'
    cases e
    have h : Xs G E O0 M0 H0 ow σ H (f a m1) k := h
    cases z : f a m1 with
    | ok b => obtain ⟨b, m2⟩ := b; rw [z] at h; exact fun H2 R2 g2 => h H2 R2 (g.trans g2)
    | exc c => rw [z] at h; exact h
    | stuck => rw [z] at h; exact h
  | exc c => exact h
  | stuck => exact h
/-- what only looks, ahead -/
theorem Xs.pu {α β : Type} {r : Res α} {f : α → Res (β × Me)} {k : β → Hp → Prop} (R : Rel G O0 M0 H0 ow σ H m) (h : Xs G E O0 M0 H0 ow σ H (r.bind f) k) : Pu G E r H fun a => Xs G E O0 M0 H0 ow σ H (f a) k := by
  cases r with
  | ok a => exact h
  | exc c => exact fun C H' e g => h C H' e fun b o e n => g b o (R.keep b o e n)
  | stuck => exact h
end
def fX (f : Me → Res D) : Me → Res (D × Me) := fun m => (f m).bind fun d => .ok (d, m)
def fXNil : Me → Res (List D × Me) := fun m => .ok ([], m)
def fXCons (fa : Me → Res (D × Me)) (fs : Me → Res (List D × Me)) : Me → Res (List D × Me) := fun m => (fa m).bind fun p => (fs p.2).bind fun q => .ok (p.1 :: q.1, q.2)
def fXTup (fs : Me → Res (List D × Me)) : Me → Res (D × Me) := fun m => (fs m).bind fun q => if q.1.length ≤ sizeLine then .ok (.tup q.1, q.2) else .stuck
def fXCall (g : List D → Option D) (fs : Me → Res (List D × Me)) : Me → Res (D × Me) := fun m => (fs m).bind fun q => (ofO (g q.1)).bind fun d => .ok (d, q.2)
section
variable {X : Cx} {E : XK} {e : Expr} {es : List Expr} {f : Me → Res D} {fa : Me → Res (D × Me)} {fs : Me → Res (List D × Me)} {pos : Pos} {i : Nat} {x : Str}
def gRetX (f : Me → Res (D × Me)) : Me → Res (Fl × Me) := fun m => (f m.let).bind fun p => .ok (.rt false p.1, p.2)
def gSetX (i : Nat) (f : Me → Res (D × Me)) : Me → Res (Fl × Me) := fun m => (f m).bind fun p => .ok (.nx, p.2.set i (.fz p.1))
theorem Xs.ss {G : Gx} {O0 M0 : Addr → Prop} {H0 H : Hp} {ow : Os} {σ : L2.St} {W : Ends} {r : Res (D × Me)} {k : D → Me → Res (Fl × Me)} (h : Ss G E O0 M0 H0 ow H W (r.bind fun p => k p.1 p.2)) :
    Xs G E O0 M0 H0 ow σ H r fun d H' => ∀ m', r = .ok (d, m') → RelS G O0 M0 H0 ow σ H' m' → Ss G E O0 M0 H0 ow H' W (k d m') := by
  cases r with
  | ok a =>
    obtain ⟨d, m1⟩ := a
    intro H' R g m' e R'
    cases e
    exact Ss.go h g
  | exc c => exact h
  | stuck => exact h
end

/-! ### defs that change the list that is handed in (their first parameter) -/
def spIO (G : Gx) (Φ : List D → List D → Res (D × List D)) : Sp := fun vs H Q E => ∃ O a us es ds, vs = .ref a :: us ∧ (∀ b, O b → MutK (H b)) ∧ O a ∧ OV G O H a (.lst es) ∧ DVs G O H us ds ∧ match Φ es ds with
  | .ok (d, es') => ∀ v H', Kp (· = a) H H' → OV G O H' a (.lst es') → DV G O H' v d → Q v H'
  | .exc c => ∀ C H', G.mg c = some (.ref C) → Kp (· = a) H H' → E (.ref C) none H'
  | .stuck => False
def ioAt (m : Me) : Option (List D) := match m[(0 : Nat)]? with
  | some (.io (.lst es)) => some es
  | _ => none
def runIO (N n : Nat) (g : Me → Res (Fl × Me)) : List D → List D → Res (D × List D) := fun es ds => if ds.length + 1 = n then match g (.io (.lst es) :: (ds.map Sl.fz ++ List.replicate (N - n) Sl.un)) with
    | .ok (.rt _ d, m') => (ofO (ioAt m')).bind fun es' => .ok (d, es')
    | .ok (.nx, m') => (ofO (ioAt m')).bind fun es' => .ok (.non, es')
    | .exc c => .exc c
    | _ => .stuck
  else .stuck
abbrev FIO (P : Program) (w : World) (K : PySem.W.Frag) (mg : Str → Option Value) (base : Heap) (k : Nat) (x : Str) (ps : List Str) (Φ : List D → List D → Res (D × List D)) : Prop := Hd.Fn P w K mg base k x ps (spIO ⟨K, mg⟩ Φ)
section
variable {P : Program} {w : World} {K : PySem.W.Frag} {mg : Str → Option Value} {base : Heap}
end
def fxIO (Φ : List D → List D → Res (D × List D)) (i : Nat) (fs : Me → Res (List D)) : Me → Res (D × Me) := fun m => (ofO (ownL m i)).bind fun o => (fs m).bind fun ds => (Φ o.2 ds).bind fun r => .ok (r.1, putL m i o.1 r.2)
end F

set_option Elab.async false
set_option linter.all false
set_option maxRecDepth 100000
set_option maxHeartbeats 4000000
namespace F
open PySem PySem.Spec PyProof.Rows L2 Hd

/-! ### a comprehension whose parts change what is one's own -/
def Sl.cap : Sl → Sl
  | .ow d => .io d
  | s => s
def cMeX (k : Nat) (cap : List Nat) (m : Me) : Me := List.replicate k .un ++ cap.map fun j => (m.getD j .un).cap
def bkS : Sl → Sl → Sl
  | .ow _, .io d => .ow d
  | .io _, .io d => .io d
  | s, _ => s
def isOwn : Sl → Bool
  | .ow _ => true
  | .io _ => true
  | _ => false
def isIo : Sl → Bool
  | .io _ => true
  | _ => false
def putB (cap : List Nat) (m inner : Me) : Me := m.mapIdx fun j s => match (cap.zip inner).lookup j with
  | some t => bkS s t
  | none => s
def okB (cap : List Nat) (m inner : Me) : Bool := (cap.zip inner).all fun p => !isOwn (m.getD p.1 .un) || isIo p.2
def compLX (k : Nat) (cap : List Nat) (h : D → Me → Option Me) (fe : Me → Res (D × Me)) : Me → List D → Res (List D × Me)
  | m, [] => .ok ([], m)
  | m, d :: ds => match h d (cMeX k cap m) with
    | none => .stuck
    | some m1 => match fe m1 with
      | .ok (y, m2) => if okB cap m (m2.drop k) = true then match compLX k cap h fe (putB cap m (m2.drop k)) ds with
          | .ok (ys, mf) => .ok (y :: ys, mf)
          | _ => .stuck
        else .stuck
      | _ => .stuck
def fXComp (k : Nat) (cap : List Nat) (fi : Me → Res (List D)) (h : D → Me → Option Me) (fe : Me → Res (D × Me)) : Me → Res (D × Me) := fun m => (fi m).bind fun ds =>
  if ds.length ≤ sizeLine then match compLX k cap h fe m ds with
    | .ok (ys, mf) => .ok (.lst ys, mf)
    | _ => .stuck
  else .stuck
section
variable {G : Gx} {O0 M0 : Addr → Prop} {H0 H H' : Hp} {ow : Os} {σ : L2.St} {m : Me}
theorem RelS.more {l : Addr} {o : HO} (R : RelS G O0 M0 H0 ow σ H m) (hl : H l = none) (ho : MutK (some o)) : RelS G (Op O0 l) M0 H0 ow σ (L2.upd H l o) m := by
  have nl := R.noOw hl
  have sub : ∀ b, Ow (Op O0 l) ow b → Ow O0 ow b ∨ b = l := fun b z => z.elim (fun y => y.elim (fun w => .inl (.inl w)) .inr) fun y => .inl (.inr y)
  have sub' : ∀ b, Ow (Op O0 l) ow b → Ow O0 ow b ∨ H b = none := fun b z => (sub b z).elim .inl fun e => .inr (by rw [e]; exact hl)
  have g : Same H (L2.upd H l o) := same_new hl _
  have R' := R.toRel.mono g
  refine ⟨⟨R.len, R'.keep, R'.m0, fun b z => ?_, fun i a e z => ?_, R.inj, R.out, fun i s e => ?_⟩, R.nb⟩
  · rcases sub b z with z | z
    · exact R'.mutk b z
    · rw [z, L2.upd_same]; exact ho
  · rcases z with z | z
    · exact R.no0 i a e z
    · exact nl (z ▸ .inr ⟨i, e⟩)
  · exact ((R.slot i s e).anti sub' fun _ _ b _ => Classical.em _).mono g
end
def owI (k : Nat) (cap : List Nat) (ow : Os) : Os := fun i => if k ≤ i then (cap[i - k]?).bind ow else none
def M0I (k : Nat) (cap : List Nat) (ow : Os) : Addr → Prop := fun b => ∃ i, owI k cap ow i = some b
def O0I (k : Nat) (cap : List Nat) (O0 : Addr → Prop) (ow : Os) : Addr → Prop := fun b => Ow O0 ow b ∧ ¬ M0I k cap ow b
section
variable {G : Gx} {O0 M0 : Addr → Prop} {H0 H H' : Hp} {ow : Os} {σ : L2.St} {m : Me} {k : Nat} {cap : List Nat}
end
end F

set_option Elab.async false
set_option linter.all false
set_option maxRecDepth 100000
set_option maxHeartbeats 4000000
namespace F
open PySem PySem.Spec PyProof.Rows L2 Hd

section
variable {X : Cx} {E : XK} {k : Nat} {cap : List Nat} {fi : Me → Res (List D)} {h : D → Me → Option Me} {fe : Me → Res (D × Me)}
theorem Op_Ow {O0 : Addr → Prop} {ow : Os} {l b : Addr} (z : Ow (Op O0 l) ow b) : Ow O0 ow b ∨ b = l := z.elim (fun y => y.elim (fun w => .inl (.inl w)) .inr) fun y => .inl (.inr y)
end

/-! ### raise -/
/-- a text whose signs nobody asks for -/
def tM (G : Gx) (E : XK) (f : Me → Res Unit) : TE := fun σ H Q => ∃ O0 M0 H0 ow m, Rel G O0 M0 H0 ow σ H m ∧ Pu G E (f m) H fun _ => ∀ v H', Same H H' → Q v H'
abbrev FM (X : Cx) (E : XK) (e : Expr) (f : Me → Res Unit) : Prop := PE X e (tM (gx X) E f)
def fM (f : Me → Res D) : Me → Res Unit := fun m => (f m).bind fun _ => .ok ()
def gRaise (c : Str) (f : Me → Res Unit) : Me → Res (Fl × Me) := fun m => (f m).bind fun _ => .exc c
section
variable {X : Cx} {E : XK} {e : Expr} {f : Me → Res D} {fu : Me → Res Unit} {x : Str} {np cpos pos : Pos} {C : Addr} {bmB : List Value} {B newId initId : String}
end

/-! ### try: one call in its body, one handler -/
def tSx (G : Gx) (g : Me → Res (Fl × Me)) : Ends → (L2.St → XK) → L2.St → Hp → Prop := fun W Ex σ H => ∃ O0 M0 H0 ow m, RelS G O0 M0 H0 ow σ H m ∧ match g m with
  | .exc c => ∀ C H', G.mg c = some (.ref C) → Same H H' → Ex σ (.ref C) none H'
  | r => Ss G E0 O0 M0 H0 ow H W r
abbrev FSx (X : Cx) (st : List Stmt) (g : Me → Res (Fl × Me)) : Prop := PSx X st (tSx (gx X) g)
def gTry (i : Nat) (sub : Str → Bool) (b h : Me → Res (Fl × Me)) : Me → Res (Fl × Me) := fun m => match b m with
  | .exc c => if sub c = true then match h (m.set i (.fz (.exc c))) with
      | .ok (fl, m') => .ok (fl, m'.set i .un)
      | _ => .stuck
    else .stuck
  | r => r
section
variable {X : Cx} {j k : Nat} {x y : Str} {ps : List Str} {Φ : List D → Res (Bool × D)} {p pos cpos pos' : Pos} {e : Expr} {es : List Expr} {fs : Me → Res (List D)} {i : Nat}
def gxExpr (Φ : List D → Res (Bool × D)) (fs : Me → Res (List D)) : Me → Res (Fl × Me) := fun m => match fs m with
  | .ok ds => (Φ ds).bind fun _ => .ok (.nx, m)
  | _ => .stuck
def gxSet (i : Nat) (Φ : List D → Res (Bool × D)) (fs : Me → Res (List D)) : Me → Res (Fl × Me) := fun m => match fs m with
  | .ok ds => (Φ ds).bind fun r => .ok (.nx, m.set i (.fz r.2))
  | _ => .stuck
end

/-! ### a def that changes its first argument, which is made on the spot -/
theorem Rel.more {G : Gx} {O0 M0 : Addr → Prop} {H0 H H1 : Hp} {ow : Os} {σ : L2.St} {m : Me} {l : Addr} (R : Rel G O0 M0 H0 ow σ H m) (g : Same H H1) (hl : H l = none) (ho : MutK (H1 l)) : Rel G (Op O0 l) M0 H0 ow σ H1 m := by
  have nl := R.noOw hl
  have sub' : ∀ b, Ow (Op O0 l) ow b → Ow O0 ow b ∨ H b = none := fun b z => (Op_Ow z).elim .inl fun e => .inr (by rw [e]; exact hl)
  have R' := R.mono g
  refine ⟨R.len, R'.keep, R'.m0, fun b z => ?_, fun i a e z => ?_, R.inj, R.out, fun i s e => ?_⟩
  · rcases Op_Ow z with z | z
    · exact R'.mutk b z
    · rw [z]; exact ho
  · rcases z with z | z
    · exact R.no0 i a e z
    · exact nl (z ▸ .inr ⟨i, e⟩)
  · exact ((R.slot i s e).anti sub' fun _ _ b _ => Classical.em _).mono g
def fIOn (Φ : List D → List D → Res (D × List D)) (f0 : Me → Res D) (fs : Me → Res (List D)) : Me → Res D := fun m => (f0 m).bind fun d => match d with
  | .lst es => (fs m).bind fun ds => (Φ es ds).bind fun r => .ok r.1
  | _ => .stuck
end F

set_option Elab.async false
set_option linter.all false
set_option maxRecDepth 100000
set_option maxHeartbeats 4000000
namespace F
open PySem PySem.Spec PyProof.Rows L2 Hd

section
variable {X : Cx}
/-! ### texts -/
def strL : List D → Option (List Str)
  | [] => some []
  | .str x :: ds => (strL ds).map (x :: ·)
  | _ :: _ => none
theorem strL_dv {G : Gx} {O : Addr → Prop} {H : Hp} : ∀ {vs : List V} {ds : List D} {zs : List Str}, DVs G O H vs ds → strL ds = some zs → vs = zs.map V.str
  | _, _, _, .nil, e => by cases e; rfl
  | _, _, _, .cons (d := d) h hs, e => by
    cases d with
    | str i =>
      obtain ⟨ns, e1, rfl⟩ := omap (by simpa [strL] using e)
      cases h
      rw [strL_dv hs e1]
      rfl
    | _ => cases e
def gJoin : D → List D → Option D
  | .str z, [.lst es] => match strL es with
    | some zs => if JoinOk z zs = true then some (.str (Txt.join z zs)) else none
    | none => none
  | _, _ => none
theorem mt_gJoin : MtR X "str.join" (rGM (gx X) gJoin) := by
  intro pins s σ H x vs v us Q I rx rv h
  obtain ⟨O, d, ds, r, m, hx, hy, hr, q⟩ := h
  match d, ds, hr with
  | .str z, [.lst es], hr =>
    cases dw_str hx
    obtain ⟨y, rfl, hy2⟩ := dws1 hy
    obtain ⟨p, xs, rfl, hp, hd⟩ := dw_lst hy2
    have hr : (match strL es with | some zs => if JoinOk z zs = true then some (D.str (Txt.join z zs)) else none | none => none) = some r := hr
    cases e1 : strL es with
    | none => rw [e1] at hr; cases hr
    | some zs =>
      rw [e1] at hr
      obtain ⟨ok, rfl⟩ := oif hr
      have := strL_dv hd e1
      subst this
      exact mt_join X.K rfl pins s σ H _ _ v us Q I rx rv ⟨z, p, zs, rfl, rfl, hp, ok, q _ _ (Same.refl _) (.str _)⟩
end

/-! ### a law from its mirror -/
def spLaw (K : PySem.W.Frag) : Sp := fun vs H Q _ => ∃ (a : Addr) (ns : List Int), vs = [.ref a] ∧ SqL K H a (ns.map V.int) ∧ ns.length ≤ 63 ∧ ∀ H', Q (.bl true) H'
theorem ints_dvs {G : Gx} {O : Addr → Prop} {H : Hp} : ∀ ns : List Int, DVs G O H (ns.map V.int) (ns.map D.int)
  | [] => .nil
  | n :: ns => .cons (.int n) (ints_dvs ns)
theorem law_imp {P : Program} {w : World} {K : PySem.W.Frag} {mg : Str → Option Value} {base : Heap} {CX : CXT} {k : Nat} {f : Addr} {fd : FuncData} {ps : List Str} {Φ : List D → Res (Bool × D)} (h : ∀ ns : List Int, ns.length ≤ 63 → ∃ fr, Φ [.lst (ns.map D.int)] = .ok (fr, .bl true))
    (F : FnOk P w K mg base CX k f fd ps (spF ⟨K, mg⟩ Φ)) : FnOk P w K mg base CX k f fd ps (spLaw K) := F.imp fun vs H Q E ⟨a, ns, e, hS, hl, q⟩ => by
  subst e
  obtain ⟨fr, e⟩ := h ns hl
  refine ⟨fun _ => False, [.lst (ns.map D.int)], fun _ z => z.elim, .cons (.lst (hS.elim (fun z => .inl ⟨id, z⟩) .inr) (ints_dvs ns)) .nil, ?_⟩
  rw [e]
  intro v H' _ hv _
  cases hv
  exact q H'
end F

set_option Elab.async false
set_option linter.all false
set_option maxRecDepth 100000
set_option maxHeartbeats 4000000
namespace F
open PySem PySem.Spec PyProof.Rows L2 Hd

/-! ### refusals: raised, caught, asked for their kind -/
section
variable {X : Cx} {E : XK} {e a : Expr} {f fa : Me → Res D} {fu : Me → Res Unit} {x y : Str} {np cpos pos p py : Pos} {i : Nat}
def fIsiE (tab : Str → Option Bool) (f : Me → Res D) : Me → Res D := fun m => (f m).bind fun d => match d with
  | .exc c => ofO ((tab c).map D.bl)
  | _ => .stuck
end

/-! ### in, not in -/
section
variable {X : Cx}
def vOf : D → V
  | .bl b => .bl b
  | .int i => .int i
  | .str x => .str x
  | _ => .non
/-- x in a list or tuple of flat things -/
def inD (x : D) (ds : List D) : Option Bool := if flat x = true ∧ ds.all flat = true then some (inV (vOf x) (ds.map vOf)) else none
def gIn : D → D → Option Bool
  | .str i, .str j => some (!(Builtin.Str.occurrences j i 0 j.length 1).isEmpty)
  | x, .lst ds => inD x ds
  | x, .tup ds => inD x ds
  | _, _ => none
def gNin (d e : D) : Option Bool := (gIn d e).map (!·)
/-! ### all, any of a list of truths -/
def boolL : List D → Option (List Bool)
  | [] => some []
  | .bl b :: ds => (boolL ds).map (b :: ·)
  | _ :: _ => none
theorem boolL_dv {G : Gx} {O : Addr → Prop} {H : Hp} : ∀ {vs : List V} {ds : List D} {bs : List Bool}, DVs G O H vs ds → boolL ds = some bs → vs = bs.map V.bl
  | _, _, _, .nil, e => by cases e; rfl
  | _, _, _, .cons (d := d) h hs, e => by
    cases d with
    | bl b =>
      obtain ⟨bs, e1, rfl⟩ := omap (by simpa [boolL] using e)
      cases h
      rw [boolL_dv hs e1]
      rfl
    | _ => cases e
def gAll : List D → Option D
  | [.lst ds] => (boolL ds).map fun bs => .bl (bs.all id)
  | _ => none
def gAny : List D → Option D
  | [.lst ds] => (boolL ds).map fun bs => .bl (bs.any id)
  | _ => none
end
end F

set_option Elab.async false
set_option linter.all false
set_option maxRecDepth 100000
set_option maxHeartbeats 4000000
namespace F
open PySem PySem.Spec PyProof.Rows L2 Hd
section
variable {X : Cx}
theorem bools_of : ∀ {bs : List Bool} {us : List Value}, Vals (bs.map V.bl) us → LSm.BoolsAre us bs
  | [], _, .nil => .nil
  | b :: bs, _, .cons r t => by cases r; exact .cons b (bools_of t)
theorem call_gAll (hc : X.calm = true) : CallR X (.builtin "all") (rGC (gx X) gAll) := by
  intro pins s σ H xs us Q I r h
  obtain ⟨O, ds, d, m, hx, hr, q⟩ := h
  match ds, hr with
  | [.lst ds], hr =>
    obtain ⟨bs, e1, rfl⟩ := omap hr
    obtain ⟨v, rfl, hv⟩ := dws1 hx
    obtain ⟨p, xs, rfl, hp, hd⟩ := dw_lst hv
    have := boolL_dv hd e1
    subst this
    obtain ⟨u, rfl, rx⟩ := vals1 r
    cases rx
    obtain ⟨wa, r', pl, hz⟩ := I.list hp
    have ba := bools_of r'
    have li := pl.isList
    have lt1 : p < s.heap.objs.size := by obtain ⟨_, e, _⟩ := li; exact Heap.lt_size e
    refine call_all_walk (wpAny_pyIter_list li ?_)
    refine ⟨s.heap.objs.size, [s.heap.objs.size, p], [s.heap.objs.size], wa.toArray.size, _, _, fun i => (bs[i]?).getD true, rfl, Walks.list (A := X.A.in1) (I.ok.hd hc) _ p (Nat.ne_of_lt lt1) wa.toArray,
      ⟨⟨_, Heap.get?_push_size _ rfl, rfl, rfl⟩, li.push _⟩, fun i v sn Qn En pv qv => ?_, fun h' tk kp => ?_⟩
    · obtain ⟨b, e, rfl⟩ := ba.get i v (by simpa using pv)
      simp only [e, Option.getD_some] at qv
      exact wpAny_truthy_bool qv
    · have e : ((List.range wa.toArray.size).all fun i => (bs[i]?).getD true) = bs.all id := by
        rw [List.size_toArray, ba.length]; exact LSm.range_all bs
      rw [e]
      exact ⟨.bl _, H, I.kept (LSm.kept_iter kp), rfl, q _ _ (Same.refl _) (.bl _)⟩
end
end F

set_option Elab.async false
set_option linter.all false
set_option maxRecDepth 100000
set_option maxHeartbeats 4000000
namespace F
open PySem PySem.Spec PyProof.Rows L2 Hd
/-! ### enumerate of a list -/
def Ite (K : PySem.W.Frag) (a : Addr) : It :=
  ⟨fun i H => ∃ xs x, SqL K H a xs ∧ xs[i]? = some x, fun i H x H' => ∃ y l, (∀ xs, SqL K H a xs → xs[i]? = some y) ∧ x = .ref l ∧ H l = none ∧ H' = upd H l (.tup [.int i, y]), fun i H => ∃ xs, SqL K H a xs ∧ xs.length ≤ i⟩
theorem freed_of {o : Obj} {vs : Array Value} (d : o.data = .fields vs) : o.isFreed = false := by
  obtain ⟨c, dd, da, sl⟩ := o
  cases (show da = .fields vs from d)
  rfl
section
variable {X : Cx} {tg : Expr}
def iEnum (K : PySem.W.Frag) (ta : TA) : TI := fun σ H R => ta σ H fun vs H1 => ∃ p, vs = [.ref p] ∧ (∃ xs, SqL K H1 p xs) ∧ R (Ite K p) H1
def enumD (ds : List D) : List D := ds.mapIdx fun i d => .tup [.int i, d]
def fItE (f : Me → Res (List D)) : Me → Res (List D) := fun m => (f m).bind fun d => match d with
  | [.lst ds] => .ok (enumD ds)
  | _ => .stuck
end
end F

set_option Elab.async false
set_option linter.all false
set_option maxRecDepth 100000
set_option maxHeartbeats 4000000
namespace F
open PySem PySem.Spec PyProof.Rows L2 Hd
/-! ### list(reversed(a list)) -/
section
variable {pr : Program} {wo : World} {A : Around} {s : Shared} {R : Result → Shared → Prop}
variable {St : Nat → Shared → Prop} {P : Nat → Value → Prop} {n : Nat} {I : Addr} {fp wr : List Addr} {G : Array GenState → Array GenState → Prop}
end
section
variable {pr : Program} {wo : World} {A : Around} {E : Value → Shared → Prop} {s : Shared}
end
section
variable {X : Cx}
theorem bt_list : bootBuiltins "list" = some (.type "list") := by decide +kernel
def rLrev (K : PySem.W.Frag) : List V → Hp → VK → Prop := fun xs H Q => ∃ p ys, xs = [.ref p] ∧ SqL K H p ys ∧ ∀ l, H l = none → Q (.ref l) (upd H l (.lst ys.reverse))
def gLrev : List D → Option D
  | [.lst ds] => some (.lst ds.reverse)
  | _ => none
end
end F

set_option Elab.async false
set_option linter.all false
set_option maxRecDepth 100000
set_option maxHeartbeats 4000000
namespace F
open PySem PySem.Spec PyProof.Rows L2 Hd
/-! ### the signs of a text, one after another -/
def signs (z : Str) : List D := z.cps.toList.map fun c => .str ⟨#[c]⟩
def Its (z : Str) : It := ⟨fun i _ => i < z.cps.size, fun i H v H' => H' = H ∧ ∃ c, z.cps[i]? = some c ∧ v = .str ⟨#[c]⟩, fun i _ => i = z.cps.size⟩
section
variable {X : Cx} {tg : Expr}
def iStr (tl : TE) : TI := fun σ H R => tl σ H fun x H1 => ∃ z, x = .str z ∧ R (Its z) H1
def fItS (f : Me → Res D) : Me → Res (List D) := fun m => (f m).bind fun d => match d with
  | .str z => .ok (signs z)
  | _ => .stuck
end
end F

set_option Elab.async false
set_option linter.all false
set_option maxRecDepth 100000
set_option maxHeartbeats 4000000
namespace F
open PySem PySem.Spec PyProof.Rows L2 Hd
/-! ### sum of a list of whole numbers -/
theorem ints_of : ∀ {ns : List Int} {us : List Value}, Vals (ns.map V.int) us → ∃ xs : Array (Int × Tok), us.toArray = intItems xs ∧ xs.toList.map (·.1) = ns
  | [], _, .nil => ⟨#[], by simp [intItems], rfl⟩
  | n :: ns, _, .cons r t => by
    obtain ⟨xs, e1, e2⟩ := ints_of t
    obtain ⟨k, rfl⟩ := r
    refine ⟨#[(n, k)] ++ xs, ?_, by simp [e2]⟩
    have e3 := congrArg Array.toList e1
    apply Array.toList_inj.mp
    simp [intItems] at e3 ⊢
    exact e3
def gSum : List D → Option D
  | [.lst ds] => (intL ds).map fun ns => .int ns.sum
  | _ => none
section
variable {X : Cx}
theorem call_gSum (hc : X.calm = true) : CallR X (.builtin "sum") (rGC (gx X) gSum) := by
  intro pins s σ H xs us Q I r h
  obtain ⟨O, ds, d, m, hx, hr, q⟩ := h
  match ds, hr with
  | [.lst ds], hr =>
    obtain ⟨ns, e1, rfl⟩ := omap hr
    obtain ⟨v, rfl, hv⟩ := dws1 hx
    obtain ⟨p, xs, rfl, hp, hd⟩ := dw_lst hv
    have := intL_dv hd e1
    subst this
    obtain ⟨u, rfl, rx⟩ := vals1 r
    cases rx
    obtain ⟨its, r', pl, hz⟩ := I.list hp
    obtain ⟨ys, e2, e3⟩ := ints_of r'
    refine sum_intListG (I.ok.hd hc) (xs := ys) (e2 ▸ pl.isList) fun h' tk t' kp => ?_
    have e4 : preSum (numAt ys) ys.size = ns.sum := by rw [preSum_eq, List.take_of_length_le (by simp), e3]
    rw [e4]
    exact ⟨.int _, H, I.kept kp, ⟨t', rfl⟩, q _ _ (Same.refl _) (.int _)⟩
end
end F

set_option Elab.async false
set_option linter.all false
set_option maxRecDepth 100000
set_option maxHeartbeats 4000000
namespace F
open PySem PySem.Spec PyProof.Rows L2 Hd
/-! ### x[k] = v, x a list of one's own -/
section
variable {X : Cx} {E : XK} {e ke : Expr} {f fk : Me → Res D} {pos spos np : Pos} {x : Str}
end
end F

set_option Elab.async false
set_option linter.all false
set_option maxRecDepth 100000
set_option maxHeartbeats 4000000
namespace F
open PySem PySem.Spec PyProof.Rows L2 Hd
/-! ### dicts with whole numbers and texts as keys -/
def keyD : D → Option Key
  | .int i => some (.inl i)
  | .str z => some (.inr z)
  | _ => none
def valD : List Key → List D → Key → Option D
  | k' :: ks, d :: ds, k => if k' = k then some d else valD ks ds k
  | _, _, _ => none
def replD : List Key → List D → Key → D → List D
  | k' :: ks, d' :: ds, k, d => (if k' = k then d else d') :: replD ks ds k d
  | _, _, _, _ => []
def putD (ks : List Key) (ds : List D) (k : Key) (d : D) : List Key × List D := if ks.any (fun x => decide (x = k)) = true then (ks, replD ks ds k d) else (ks ++ [k], ds ++ [d])
section
variable {X : Cx} {E : XK}
def gDGet : D → D → Option D
  | .dct ks ds, k => (keyD k).bind (valD ks ds)
  | _, _ => none
def gDIn : D → D → Option Bool
  | k, .dct ks ds => (keyD k).map fun k => (valD ks ds k).isSome
  | _, _ => none
def gDNin (d e : D) : Option Bool := (gDIn d e).map (!·)
theorem units_of {j : Nat} {A : Around} (r : Room j A) : A.units + 16 < cLine := by have := r.un; omega
variable {a b : Expr} {fa fb : Me → Res D} {pos : Pos}
/-- d.get(k) -/
def fDGet1 (fa fb : Me → Res D) : Me → Res D := fun m => (fa m).bind fun c => match c with
  | .dct ks ds => (fb m).bind fun k => ofO ((keyD k).map fun k => (valD ks ds k).getD .non)
  | _ => .stuck
/-- d.get(k, x) -/
def fDGet2 (fa fb fc : Me → Res D) : Me → Res D := fun m => (fa m).bind fun c => match c with
  | .dct ks ds => (fb m).bind fun k => (fc m).bind fun x => ofO ((keyD k).map fun k => (valD ks ds k).getD x)
  | _ => .stuck
/-- {} -/
def fDNew : Me → Res D := fun _ => .ok (.dct [] [])
end
end F

set_option Elab.async false
set_option linter.all false
set_option maxRecDepth 100000
set_option maxHeartbeats 4000000
namespace F
open PySem PySem.Spec PyProof.Rows L2 Hd
/-! ### x[k] = v, x a dict of one's own -/
def ownD (m : Me) (i : Nat) : Option (Bool × List Key × List D) := match m[i]? with
  | some (.ow (.dct ks ds)) => some (true, ks, ds)
  | some (.io (.dct ks ds)) => some (false, ks, ds)
  | _ => none
def putM (m : Me) (i : Nat) (k : Bool) (ks : List Key) (ds : List D) : Me := m.set i (if k then .ow (.dct ks ds) else .io (.dct ks ds))
section
variable {G : Gx} {O0 M0 : Addr → Prop} {H0 : Hp} {ow : Os} {σ : L2.St} {H : Hp} {m : Me}
theorem RelS.putM {i : Nat} {k : Bool} {a : Addr} {ks ls : List Key} {ds es : List D} {kvs : List (Key × V)} (R : RelS G O0 M0 H0 ow σ H m) (ho : ow i = some a) (hm : (m[i]? = some (.ow (.dct ks ds)) ∧ k = true) ∨ (m[i]? = some (.io (.dct ks ds)) ∧ k = false))
    (hk : kvs.map (·.1) = ls) (hd : DVs G (Ow O0 ow) H (kvs.map (·.2)) es) : RelS G O0 M0 H0 ow σ (L2.upd H a (.dK kvs)) (F.putM m i k ls es) ∧ Go O0 ow H ow (L2.upd H a (.dK kvs)) := by
  have oa : Ow O0 ow a := .inr ⟨i, ho⟩
  have kp : Kp (Ow O0 ow) H (L2.upd H a (.dK kvs)) := fun b u e n => kp_upd b u e fun z => n (z ▸ oa)
  have ov : OV G (Ow O0 ow) (L2.upd H a (.dK kvs)) a (.dct ls es) := ⟨kvs, _, L2.upd_same, hk, rfl, hd.kp R.mutk kp⟩
  refine ⟨R.chg (d := .dct ks ds) (d' := .dct ls es) ho kp_upd ov ?_, Go.chg ho kp_upd ov⟩
  rcases hm with ⟨e, rfl⟩ | ⟨e, rfl⟩
  · exact .inl ⟨e, rfl⟩
  · exact .inr ⟨e, rfl⟩
end
def gDPut (i : Nat) (fk fv : Me → Res D) : Me → Res (Fl × Me) := fun m => (fv m).bind fun d => (ofO (ownD m i)).bind fun o => (fk m).bind fun k => (ofO (keyD k)).bind fun k =>
  if o.2.1.length < sizeLine then .ok (.nx, putM m i o.1 (putD o.2.1 o.2.2 k d).1 (putD o.2.1 o.2.2 k d).2) else .stuck
section
variable {X : Cx} {E : XK} {e ke : Expr} {f fk : Me → Res D} {pos spos np : Pos} {x : Str}
end
end F

set_option Elab.async false
set_option linter.all false
set_option maxRecDepth 100000
set_option maxHeartbeats 4000000
namespace F
open PySem PySem.Spec PyProof.Rows L2 Hd
/-! ### f-strings of texts and whole numbers -/
def gFmt : D → Option D
  | .str z => if z.length ≤ sizeLine then some (.str z) else none
  | .int i => if i.natAbs.log2 < 1920 then some (.str (toString i : String)) else none
  | _ => none
section
variable {X : Cx} {E : XK} {e v₁ v₂ : Expr} {es : List Expr} {f : Me → Res D} {pos : Pos}
def FJ (X : Cx) (E : XK) (es : List Expr) (f : Str → Me → Res Str) : Prop := ∀ (pins : List (Addr × Obj)) (s : Shared) (σ : L2.St) (H : Hp) (Q : VK) (out : Str), Inv X pins σ H s →
  (∃ O0 M0 H0 ow m, Rel (gx X) O0 M0 H0 ow σ H m ∧ Pu (gx X) E (f out m) H fun z => ∀ H', Same H H' → Q (.str z) H') → wpAny (model X.prog X.w) X.A (joinParts out (evalEach es X.env)) (EP X pins σ Q) X.xe s
def jNil : Str → Me → Res Str := fun out _ => if out.length ≤ sizeLine then .ok out else .stuck
def jCons (f : Me → Res D) (g : Str → Me → Res Str) : Str → Me → Res Str := fun out m => (f m).bind fun d => match d with
  | .str y => if (out ++ y).length ≤ sizeLine then g (out ++ y) m else .stuck
  | _ => .stuck
def fJoined (g : Str → Me → Res Str) : Me → Res D := fun m => (g Str.empty m).bind fun z => .ok (.str z)
end
end F

set_option Elab.async false
set_option linter.all false
set_option maxRecDepth 100000
set_option maxHeartbeats 4000000
namespace F
open PySem PySem.Spec PyProof.Rows L2 Hd
/-! ### the smaller, the greater of two whole numbers -/
def gMin : List D → Option D
  | [.int i, .int j] => some (.int (if j < i then j else i))
  | _ => none
def gMax : List D → Option D
  | [.int i, .int j] => some (.int (if j > i then j else i))
  | _ => none
section
variable {X : Cx}
/-- int of a truth, of a text -/
def gInt : List D → Option D
  | [.bl b] => some (.int (if b then 1 else 0))
  | [.str x] => if x.length ≤ 640 then (PySem.intText? x).map D.int else none
  | _ => none
end
end F

set_option Elab.async false
set_option linter.all false
set_option maxRecDepth 100000
set_option maxHeartbeats 4000000
namespace F
open PySem PySem.Spec PyProof.Rows L2 Hd
section
variable {X : Cx} {E : XK} {e : Expr}
/-- an expression of which nothing is claimed -/
def fStuck : Me → Res D := fun _ => .stuck
/-! ### methods of texts -/
def gStarts : D → List D → Option D
  | .str z, [.str y] => some (.bl (Txt.startswith z y))
  | _, _ => none
def gPartition : D → List D → Option D
  | .str z, [.str y] => if z.length ≤ sizeLine ∧ (y.length == 0) = false then some (.tup [.str (Txt.partition z y).1, .str (Txt.partition z y).2.1, .str (Txt.partition z y).2.2]) else none
  | _, _ => none
end
end F

set_option Elab.async false
set_option linter.all false
set_option maxRecDepth 100000
set_option maxHeartbeats 4000000
namespace F
open PySem PySem.Spec PyProof.Rows L2 Hd
section
variable {X : Cx} {E : XK} {e : Expr} {f : Me → Res D} {pos : Pos}
/-! ### {x!r} of a text -/
def gRepr : D → Option D
  | .str z => if (reprText z).length ≤ sizeLine then some (.str (reprText z)) else none
  | _ => none
/-! ### cut at each place of a text, without the first signs -/
def gSplit : D → List D → Option D
  | .str z, [.str y] => if z.length + 2 ≤ sizeLine ∧ (y.length == 0) = false then some (.lst ((Txt.split z y).map D.str)) else none
  | _, _ => none
def gLstrip : D → List D → Option D
  | .str z, [.str y] => if z.length ≤ sizeLine then some (.str (Txt.lstripChars z y)) else none
  | _, _ => none
/-! ### a text some times -/
def gMulS : D → D → Option D
  | .str z, .int n => if 0 ≤ n ∧ n ≤ 1000 ∧ z.length ≤ 1000 then some (.str (Txt.mul z n)) else none
  | _, _ => none
end
end F

set_option Elab.async false
set_option linter.all false
set_option maxRecDepth 100000
set_option maxHeartbeats 4000000
namespace F
open PySem PySem.Spec PyProof.Rows L2 Hd
/-! ### dicts with tuples of whole numbers and texts as keys -/
def ktsWith (f : D → Option Kt) : List D → Option (List Kt)
  | [] => some []
  | d :: ds => (f d).bind fun k => (ktsWith f ds).map fun ks => k :: ks
def ktD : Nat → D → Option Kt
  | _, .int i => some (.k (.inl i))
  | _, .str x => some (.k (.inr x))
  | n + 1, .tup ds => (ktsWith (ktD n) ds).map .t
  | _, _ => none
def keyT : D → Option (List Kt)
  | .tup ds => ktsWith (ktD 7) ds
  | _ => none
def valU : List (List Kt) → List D → List Kt → Option D
  | k' :: ks, d :: ds, k => if k' = k then some d else valU ks ds k
  | _, _, _ => none
def replU : List (List Kt) → List D → List Kt → D → List D
  | k' :: ks, d' :: ds, k, d => (if k' = k then d else d') :: replU ks ds k d
  | _, _, _, _ => []
def putU (ks : List (List Kt)) (ds : List D) (k : List Kt) (d : D) : List (List Kt) × List D := if ks.any (fun x => decide (x = k)) = true then (ks, replU ks ds k d) else (ks ++ [k], ds ++ [d])
theorem kts_dvs {G : Gx} {O : Addr → Prop} {H : Hp} {n : Nat} {f : D → Option Kt} (hf : ∀ {v d k}, DV G O H v d → f d = some k → KtAt (KTp G.K) H n v k) : ∀ {vs : List V} {ds : List D} {ks : List Kt}, DVs G O H vs ds → ktsWith f ds = some ks → KtsAt (KTp G.K) H n vs ks
  | _, _, _, .nil, e => by cases e; exact .nil
  | _, _, _, .cons (d := d) (ds := ds) h hs, e => by
    have e : (f d).bind (fun k => (ktsWith f ds).map fun ks => k :: ks) = some _ := e
    obtain ⟨k, e1, e2⟩ := Option.bind_eq_some_iff.mp e
    obtain ⟨ks, e3, rfl⟩ := omap e2
    exact .cons (hf h e1) (kts_dvs hf hs e3)
theorem kt_dv {G : Gx} {O : Addr → Prop} {H : Hp} : ∀ (n : Nat) {v : V} {d : D} {k : Kt}, DV G O H v d → ktD n d = some k → KtAt (KTp G.K) H n v k
  | n, _, _, k, .int i, e => by
    have : k = .k (.inl i) := by cases n <;> (rw [ktD] at e; exact (Option.some.inj e).symm)
    subst this; exact KtAt.k (x := .inl i)
  | n, _, _, k, .str x, e => by
    have : k = .k (.inr x) := by cases n <;> (rw [ktD] at e; exact (Option.some.inj e).symm)
    subst this; exact KtAt.k (x := .inr x)
  | n + 1, _, _, k, .tup h hs, e => by
    rw [ktD] at e
    obtain ⟨ks, e3, rfl⟩ := omap e
    exact .t h (kts_dvs (fun h e => kt_dv n h e) hs e3)
  | 0, _, _, k, .tup h hs, e => by simp [ktD] at e
  | n, _, _, k, .non, e => by cases n <;> simp [ktD] at e
  | n, _, _, k, .bl _, e => by cases n <;> simp [ktD] at e
  | n, _, _, k, .exc _ _, e => by cases n <;> simp [ktD] at e
  | n, _, _, k, .lst _ _, e => by cases n <;> simp [ktD] at e
  | n, _, _, k, .dct _ _ _ _ _, e => by cases n <;> simp [ktD] at e
  | n, _, _, k, .dcu _ _ _ _ _, e => by cases n <;> simp [ktD] at e
  | n, _, _, k, .dcf _ _ _ _, e => by cases n <;> simp [ktD] at e
theorem keyT_dw {G : Gx} {O : Addr → Prop} {H : Hp} {v : V} {d : D} {k : List Kt} (h : DW G O H v d) (e : keyT d = some k) : ∃ b, v = .ref b ∧ TrT (KTp G.K) H b k := by
  cases d with
  | tup ds =>
    obtain ⟨b, xs, rfl, hq, hd⟩ := dw_tupU h
    exact ⟨b, rfl, xs, hq, kts_dvs (fun h e => kt_dv 7 h e) hd e⟩
  | _ => cases e
theorem valU_is {G : Gx} {O : Addr → Prop} {H : Hp} {k : List Kt} : ∀ {kvs : List (List Kt × V)} {ds : List D}, DVs G O H (kvs.map (·.2)) ds →
    (∃ v d, valV kvs k = some v ∧ valU (kvs.map (·.1)) ds k = some d ∧ DV G O H v d) ∨ (valV kvs k = none ∧ valU (kvs.map (·.1)) ds k = none)
  | [], _, .nil => .inr ⟨rfl, rfl⟩
  | (k', v) :: kvs, _, .cons (d := d) h hs => by
    by_cases q : k' = k
    · exact .inl ⟨v, d, valV_pos q, by simp [valU, q], h⟩
    · rw [valV_neg (p := (k', v)) q]
      simp only [List.map_cons, valU, if_neg q]
      exact valU_is hs
/-- a dict with tuples as keys, whether it stands still or not -/
def dcK : D → Option (List (List Kt) × List D)
  | .dcu ks ds => some (ks, ds)
  | .dcf ks ds => some (ks, ds)
  | _ => none
theorem dw_dcK {G : Gx} {O : Addr → Prop} {H : Hp} {v : V} {d : D} {ks : List (List Kt)} {ds : List D} (h : DW G O H v d) (e : dcK d = some (ks, ds)) : ∃ a kvs, v = .ref a ∧ Rd H a (.dT (KTp G.K) kvs) ∧ kvs.map (·.1) = ks ∧ DVs G O H (kvs.map (·.2)) ds := by
  cases d with
  | dcu ks' ds' =>
    cases e
    obtain ⟨p, kvs, ws, rfl, hp, e1, rfl, hd⟩ := dw_dcu h
    exact ⟨p, kvs, rfl, .inl hp, e1, hd⟩
  | dcf ks' ds' =>
    cases e
    rcases h with h | ⟨_, _, _, h⟩
    · cases h with
      | dcf e1 e2 e3 hs => subst e3; exact ⟨_, _, rfl, .inr ⟨_, e1⟩, e2, hs⟩
    · exact h.elim
  | _ => cases e
theorem rd_mono {H H' : Hp} {a : Addr} {u : HO} (g : Same H H') (h : Rd H a u) : Rd H' a u := h.imp (g _ _) fun ⟨o, e⟩ => ⟨o, g _ _ e⟩
section
variable {X : Cx} {E : XK}
def gUGet (d k : D) : Option D := (dcK d).bind fun c => (keyT k).bind (valU c.1 c.2)
def gUIn (k d : D) : Option Bool := (dcK d).bind fun c => (keyT k).map fun k => (valU c.1 c.2 k).isSome
def gUNin (d e : D) : Option Bool := (gUIn d e).map (!·)
variable {a b : Expr} {fa fb : Me → Res D} {pos : Pos}
theorem fe_uget {j : Nat} (hr : Room j X.A) (ha : FB X E a fa) (hb : FB X E b fb) (hs : NoSl b) : FE X E (.Subscript a b pos) (fBin gUGet fa fb) :=
  pe_weak (pe_dget (units_of hr) ha hb hs) fun σ H Q ⟨O0, M0, H0, ow, m, R, q⟩ => two (r := fun x y H Q => ∃ a v, x = .ref a ∧ DGet X.K H a y (some v) ∧ Q v H) R (K := fun z H => ∀ v H', Same H H' → DV (gx X) (Ow O0 ow) H' v z → Q v H') q (fun _ _ k g v H' g' d => k v H' (g.trans g') d) fun x y d e H' g hx hy q' R' => by
    obtain ⟨r, hr, k⟩ := q'.ofO
    obtain ⟨⟨ks, ds⟩, ec, hr⟩ := Option.bind_eq_some_iff.mp hr
    obtain ⟨ky, e2, e3⟩ := Option.bind_eq_some_iff.mp hr
    obtain ⟨p, kvs, rfl, hp, rfl, hd⟩ := dw_dcK hx ec
    obtain ⟨b, rfl, hb⟩ := keyT_dw hy e2
    rcases valU_is (k := ky) hd with ⟨v, d, a, c, dv⟩ | ⟨a, c⟩
    · have e3 : valU (kvs.map (·.1)) ds ky = some r := e3
      rw [c] at e3
      cases e3
      exact ⟨p, v, rfl, .inr ⟨kvs, ky, b, hp, rfl, hb, a.symm⟩, k _ _ (Same.refl _) dv⟩
    · have e3 : valU (kvs.map (·.1)) ds ky = some r := e3
      rw [c] at e3; cases e3
def fUGet1 (fa fb : Me → Res D) : Me → Res D := fun m => (fa m).bind fun c => (ofO (dcK c)).bind fun c => (fb m).bind fun k => ofO ((keyT k).map fun k => (valU c.1 c.2 k).getD .non)
def fUGet2 (fa fb fc : Me → Res D) : Me → Res D := fun m => (fa m).bind fun c => (ofO (dcK c)).bind fun c => (fb m).bind fun k => (fc m).bind fun x => ofO ((keyT k).map fun k => (valU c.1 c.2 k).getD x)
theorem fe_uget2 {j : Nat} {c : Expr} {fc : Me → Res D} {apos cpos : Pos} (hr : Room j X.A) (ha : FB X E a fa) (hb : FB X E b fb) (hc : FE X E c fc) (hm : M2 X a "get" apos b c cpos) : FE X E (.Call (.Attribute a "get" apos) [b, c] [] cpos) (fUGet2 fa fb fc) :=
  pe_weak (pe_dget2 (units_of hr) ha hb hc hm) fun σ H Q ⟨O0, M0, H0, ow, m, R, q⟩ => ⟨O0, M0, H0, ow, m, R, q.bind.imp (Same.refl _) fun d q x H1 g1 hx => by
    obtain ⟨⟨ks, ds⟩, ec, q⟩ := q.bind.ofO
    obtain ⟨p, kvs, rfl, hp, rfl, hd⟩ := dw_dcK hx ec
    refine ⟨p, rfl, .inr ⟨kvs, hp⟩, O0, M0, H0, ow, m, R.mono g1, q.bind.imp g1 fun e q y H2 g2 hy => ⟨O0, M0, H0, ow, m, R.mono (g1.trans g2), q.bind.imp (g1.trans g2) fun e3 q z H3 g3 hz => ?_⟩⟩
    obtain ⟨r, hr, k⟩ := q.ofO
    obtain ⟨ky, e2, rfl⟩ := omap hr
    obtain ⟨b, rfl, hb⟩ := keyT_dw (hy.mono g3) e2
    refine ⟨valV kvs ky, .inr ⟨kvs, ky, b, rd_mono g3 (rd_mono g2 hp), rfl, hb, rfl⟩, ?_⟩
    rcases valU_is (k := ky) ((hd.mono g2).mono g3) with ⟨v, d, a, c, dv⟩ | ⟨a, c⟩
    · rw [a]; exact k _ _ (g1.trans (g2.trans g3)) (by show DV _ _ _ v ((valU (kvs.map (·.1)) ds ky).getD e3); rw [c]; exact dv)
    · rw [a]; exact k _ _ (g1.trans (g2.trans g3)) (by show DV _ _ _ _ ((valU (kvs.map (·.1)) ds ky).getD e3); rw [c]; exact hz)⟩
/-- {}, for tuples as keys -/
def fUNew : Me → Res D := fun _ => .ok (.dcu [] [])
theorem fn_unew : FN X E (.Dict [] [] pos) fUNew := pe_weak pe_dnewT fun σ H Q ⟨O0, M0, H0, ow, m, R, q⟩ p hp => q p _ (same_new hp _) hp ⟨[], [], upd_same, rfl, rfl, .nil⟩
end
theorem replU_keys (k : List Kt) (v : V) : ∀ kvs : List (List Kt × V), (kvs.map fun kv => if kv.1 = k then (kv.1, v) else kv).map (·.1) = kvs.map (·.1)
  | [] => rfl
  | p :: kvs => by
    rw [List.map_cons, List.map_cons, List.map_cons, replU_keys k v kvs]
    split <;> rfl
theorem replU_vals {G : Gx} {O : Addr → Prop} {H : Hp} {k : List Kt} {v : V} {d : D} (h : DV G O H v d) : ∀ {kvs : List (List Kt × V)} {ds : List D}, DVs G O H (kvs.map (·.2)) ds → DVs G O H ((kvs.map fun kv => if kv.1 = k then (kv.1, v) else kv).map (·.2)) (replU (kvs.map (·.1)) ds k d)
  | [], _, .nil => .nil
  | (k', v') :: kvs, _, .cons h1 hs => by
    simp only [List.map_cons, replU]
    split
    · exact .cons h (replU_vals h hs)
    · exact .cons h1 (replU_vals h hs)
theorem putU_is {G : Gx} {O : Addr → Prop} {H : Hp} {k : List Kt} {v : V} {d : D} {kvs : List (List Kt × V)} {ds : List D} (h : DV G O H v d) (hs : DVs G O H (kvs.map (·.2)) ds) :
    (putK kvs k v).map (·.1) = (putU (kvs.map (·.1)) ds k d).1 ∧ DVs G O H ((putK kvs k v).map (·.2)) (putU (kvs.map (·.1)) ds k d).2 := by
  have e : (kvs.any fun kv => decide (kv.1 = k)) = (kvs.map (·.1)).any fun x => decide (x = k) := by rw [List.any_map]; rfl
  unfold putK putU
  rw [e]
  split
  · exact ⟨replU_keys k v kvs, replU_vals h hs⟩
  · exact ⟨by simp, by rw [List.map_append]; exact dvs_app hs (.cons h .nil)⟩
/-! x[k] = v, x one's own -/
def ownU (m : Me) (i : Nat) : Option (Bool × List (List Kt) × List D) := match m[i]? with
  | some (.ow (.dcu ks ds)) => some (true, ks, ds)
  | some (.io (.dcu ks ds)) => some (false, ks, ds)
  | _ => none
def putMU (m : Me) (i : Nat) (k : Bool) (ks : List (List Kt)) (ds : List D) : Me := m.set i (if k then .ow (.dcu ks ds) else .io (.dcu ks ds))
section
variable {G : Gx} {O0 M0 : Addr → Prop} {H0 : Hp} {ow : Os} {σ : L2.St} {H : Hp} {m : Me}
theorem ownU_is (R : Rel G O0 M0 H0 ow σ H m) {i : Nat} {k : Bool} {ks : List (List Kt)} {ds : List D} (e : ownU m i = some (k, ks, ds)) : ∃ a kvs, ow i = some a ∧ σ[i]? = some (some (.ref a)) ∧ H a = some (.dT (KTp G.K) kvs) ∧ kvs.map (·.1) = ks ∧ DVs G (Ow O0 ow) H (kvs.map (·.2)) ds ∧ ((m[i]? = some (.ow (.dcu ks ds)) ∧ k = true) ∨ (m[i]? = some (.io (.dcu ks ds)) ∧ k = false)) := by
  unfold ownU at e
  split at e
  · rename_i q
    cases e
    obtain ⟨a, e1, e2, e3, kvs, vs, e4, e5, rfl, e6⟩ := R.slot i _ q
    exact ⟨a, kvs, e1, e3, e4, e5, e6, .inl ⟨q, rfl⟩⟩
  · rename_i q
    cases e
    obtain ⟨a, e1, e2, e3, kvs, vs, e4, e5, rfl, e6⟩ := R.slot i _ q
    exact ⟨a, kvs, e1, e3, e4, e5, e6, .inr ⟨q, rfl⟩⟩
  · cases e
theorem RelS.putMU {i : Nat} {k : Bool} {a : Addr} {ks ls : List (List Kt)} {ds es : List D} {kvs : List (List Kt × V)} (R : RelS G O0 M0 H0 ow σ H m) (ho : ow i = some a) (hm : (m[i]? = some (.ow (.dcu ks ds)) ∧ k = true) ∨ (m[i]? = some (.io (.dcu ks ds)) ∧ k = false))
    (hk : kvs.map (·.1) = ls) (hd : DVs G (Ow O0 ow) H (kvs.map (·.2)) es) : RelS G O0 M0 H0 ow σ (L2.upd H a (.dT (KTp G.K) kvs)) (F.putMU m i k ls es) ∧ Go O0 ow H ow (L2.upd H a (.dT (KTp G.K) kvs)) := by
  have oa : Ow O0 ow a := .inr ⟨i, ho⟩
  have kp : Kp (Ow O0 ow) H (L2.upd H a (.dT (KTp G.K) kvs)) := fun b u e n => kp_upd b u e fun z => n (z ▸ oa)
  have ov : OV G (Ow O0 ow) (L2.upd H a (.dT (KTp G.K) kvs)) a (.dcu ls es) := ⟨kvs, _, L2.upd_same, hk, rfl, hd.kp R.mutk kp⟩
  refine ⟨R.chg (d := .dcu ks ds) (d' := .dcu ls es) ho kp_upd ov ?_, Go.chg ho kp_upd ov⟩
  rcases hm with ⟨e, rfl⟩ | ⟨e, rfl⟩
  · exact .inl ⟨e, rfl⟩
  · exact .inr ⟨e, rfl⟩
end
def gUPut (i : Nat) (fk fv : Me → Res D) : Me → Res (Fl × Me) := fun m => (fv m).bind fun d => (ofO (ownU m i)).bind fun o => (fk m).bind fun k => (ofO (keyT k)).bind fun k =>
  if o.2.1.length < sizeLine then .ok (.nx, putMU m i o.1 (putU o.2.1 o.2.2 k d).1 (putU o.2.1 o.2.2 k d).2) else .stuck
section
variable {X : Cx} {E : XK} {e ke : Expr} {f fk : Me → Res D} {pos spos np : Pos} {x : Str}
theorem fs_uput {jj : Nat} (i : Nat) (hr : Room jj X.A) (he : FE X E e f) (hk : FE X E ke fk) (hN : X.N[i]? = some x := by rfl) (hv : Vis X.env.scope x := by first | exact Or.inl rfl | exact Or.inr (Or.inl rfl) | exact Or.inr (Or.inr rfl)) (hd : (x == ("__debug__" : Str)) = false := by decide) (hcd : (x == ("__classdict__" : Str)) = false := by decide)
    (hs : swapsWith e (some (.Subscript (.Name x np) ke spos)) pos.line X.env = pure false := by rfl) : FS X E (.Assign [.Subscript (.Name x np) ke spos] e pos) (gUPut i fk f) :=
  ps_weak (ps_dput (units_of hr) (pe_var hN hv hd hcd) hk he hs) fun W σ H ⟨O0, M0, H0, ow, m, R, q⟩ =>
    ⟨O0, M0, H0, ow, m, R.toRel, (Ss.pu R.toRel q).imp (Same.refl _) fun d q v H1 g1 hv => by
      obtain ⟨o, ho, q⟩ := Ss.ofO q
      obtain ⟨k, ks, ds⟩ := o
      have R1 := R.mono g1
      obtain ⟨a, kvs, e1, e2, e3, e4, e5, e6⟩ := ownU_is R1.toRel ho
      refine ⟨_, e2, O0, M0, H0, ow, m, R1.toRel, (Ss.pu R1.toRel (q.go (Go.refl g1))).imp (Same.refl _) fun dk q vk H2 g2 hvk => ?_⟩
      obtain ⟨ky, h1, q⟩ := Ss.ofO q
      obtain ⟨b, rfl, hb⟩ := keyT_dw (.inl hvk) h1
      by_cases hz : ks.length < sizeLine
      · rw [if_pos hz] at q
        have R2 := R1.mono g2
        obtain ⟨p1, p2⟩ := putU_is (k := ky) (hv.mono g2) (e5.mono g2)
        rw [e4] at p1 p2
        obtain ⟨R3, g3⟩ := R2.putMU e1 e6 p1 p2
        exact ⟨a, _, rfl, DPut.t (g2 _ _ e3) hb (by rw [← List.length_map (f := (·.1)), e4]; exact hz), q _ _ _ R3 ((Go.refl g2).trans g3)⟩
      · rw [if_neg hz] at q; exact q.elim⟩
end
end F

set_option Elab.async false
set_option linter.all false
set_option maxRecDepth 100000
set_option maxHeartbeats 4000000
namespace F
open PySem PySem.Spec PyProof.Rows L2 Hd
/-! ### {x!r} of a tuple or a list -/
def gReprC (d : D) : Option D := match toPy d with
  | some p => if p.showable = true ∧ p.hasDict = false ∧ p.shown.length ≤ sizeLine ∧ p.depth ≤ 60 then some (.str p.shown) else none
  | none => none
def gReprT : D → Option D
  | .str z => gRepr (.str z)
  | .tup ds => gReprC (.tup ds)
  | .lst ds => gReprC (.lst ds)
  | _ => none
section
variable {X : Cx} {E : XK} {e : Expr} {f : Me → Res D} {pos : Pos}
end
end F

set_option Elab.async false
set_option linter.all false
set_option maxRecDepth 100000
set_option maxHeartbeats 4000000
namespace F
open PySem PySem.Spec PyProof.Rows L2 Hd
/-! ### the keys of a dict that stands still, one after another -/
section
variable {prog : Program} {w : World} {A : Around} {E : Value → Shared → Prop} {s : Shared} {d it : Addr} {es : Array DictEntry} {ep i : Nat} {o oi : Obj}
theorem iter_raw {Q : Value → Shared → Prop} (nd : (d == sysModules) = false) (ho : s.heap.get? d = some o) (hx : o.ExactDict) (ht : o.data = .dict es ep)
    (k : Q (.ref s.heap.objs.size) { s with heap := s.heap.push { cls := .type "dict_keyiterator", data := .fields #[.ref d, .int 0 0, .int es.size 0, .int ep 0] } }) : wpAny (model prog w) A (pyIter (.ref d)) Q E s := by
  have ty : s.TypeIs (.ref d) "dict" := ⟨o, ho, hx.1⟩
  refine wpAny_pyIter_slot ty PySem.F.slot_dict_iter (wpAny_call_entry PySem.F.slot_dict_iter ty PySem.F.entry_dict_iter ?_ (PySem.F.args_dict_iter_1 _))
  unfold Builtin.«dict.__iter__» Builtin.Dict.dictSlotNone
  refine wpAny_bind (wpAny_bind (wpAny_notOrdered_dict ty (show wpAny _ _ (pure (Value.ref d)) _ _ s from wpAny_pure ?_)))
  show wpAny _ _ (Builtin.Dict.showsAll d >>= _) _ _ s
  unfold Builtin.Dict.showsAll
  rw [if_neg (fun z => by rw [nd] at z; cases z)]
  exact wpAny_bind (wpAny_pure (wpAny_bind (wpAny_dictEntries ho ht (wpAny_bind (wpAny_dictEpoch ho ht (wpAny_bind (wpAny_newObj_type (wpAny_pure ⟨_, rfl, "dict_keyiterator", _, ⟨_, Heap.get?_push_size _ rfl, rfl⟩, PySem.F.slot_dict_keyiterator_next.lookup, by simpa [rawInt] using k⟩))))))))
theorem next_raw {Q : Option Value → Shared → Prop} (hit : s.heap.IsKeyIter it d i es.size ep) (ho : s.heap.get? d = some o) (ht : o.data = .dict es ep)
    (lt : i < es.size) (go : ∀ h', h'.IsKeyIter it d (i + 1) es.size ep → Heap.SameBut it s.heap h' → Q (es[i]?.map (·.key)) { s with heap := h' }) : wpAny (model prog w) A (pyNext (.ref it)) Q E s := by
  obtain ⟨q, hq, hc, hf⟩ := id hit
  have ty := hit.typeIs
  have e1 : es[i]? = some es[i] := Array.getElem?_eq_getElem lt
  have no : Builtin.Dict_items.ownsTuple "dict_keyiterator" = false := by decide
  have turned : (s.heap.update it (Obj.mapFields (·.setIfInBounds 1 (rawInt ((i : Int) + 1))))).IsKeyIter it d (i + 1) es.size ep :=
    ⟨_, Heap.get?_update_self _ hq (Obj.isFreed_of_fields (Obj.data_mapFields hf _)), (Obj.cls_mapFields ..).trans hc, by rw [Obj.data_mapFields hf]; simp [rawInt]⟩
  have fin := go _ turned (Heap.SameBut.update ..)
  rw [e1] at fin
  unfold pyNext
  refine wpAny_bind (wpAny_attempt (wpAny_callSpecial?_slot (name := Str.ofString "__next__") ty PySem.F.slot_dict_keyiterator_next (wpAny_call_entry PySem.F.slot_dict_keyiterator_next ty PySem.F.entry_dict_keyiterator_next ?_ (PySem.F.args_dict_keyiterator_next_1 _))))
  refine wpAny_bind (wpAny_pure (wpAny_bind (wpAny_bind ?_)))
  first
  | refine wpAny_bind (wpAny_typeNameOfWhole_keyiter ty (wpAny_pure (wpAny_bind (wpAny_fieldsOf hq hf ?_))))
  | refine wpAny_bind (wpAny_typeNameOf_keyiter ty (wpAny_pure (wpAny_bind (wpAny_fieldsOf hq hf ?_))))
  simp only [no, Bool.false_eq_true, if_false]
  show wpAny _ _ (if (Value.ref d == Value.none) = true then _ else _) _ _ s
  rw [if_neg (fun z => by cases (show false = true from z))]
  refine wpAny_bind (wpAny_pure (wpAny_bind (wpAny_dictEntries ho ht ?_)))
  rw [if_neg (by simp)]
  refine wpAny_bind (wpAny_pure (wpAny_bind (wpAny_dictEpoch ho ht ?_)))
  rw [if_neg (by simp)]
  refine wpAny_pure ?_
  simp only [show ¬ ((i : Int) < 0) by omega, if_false, Int.toNat_natCast, e1]
  refine wpAny_bind ?_
  first
  | refine wpAny_bind (wpAny_typeNameOfWhole_keyiter ty (wpAny_pure (wpAny_bind (wpAny_isOneOf_keyiter ty ?_))))
  | refine wpAny_bind (wpAny_typeNameOf_keyiter ty (wpAny_pure (wpAny_bind (wpAny_isOneOf_keyiter ty ?_))))
  show wpAny _ _ (setField (.ref it) 1 (rawInt ((i : Int) + 1)) >>= _) _ _ s
  refine wpAny_bind (wpAny_setField hq hf (by simp) (wpAny_bind (wpAny_holding (wpAny_bind (wpAny_isOneOf_keyiter (s := { s with heap := s.heap.update it (Obj.mapFields (·.setIfInBounds 1 (rawInt ((i : Int) + 1)))) }) turned.typeIs ?_)))))
  exact (show wpAny _ _ (pure es[i].key) _ _ _ from wpAny_pure (wpAny_pure ⟨_, rfl, wpAny_pure fin⟩))
theorem next_end {Q : Option Value → Shared → Prop} (hh : A.handled = none) (hit : s.heap.IsKeyIter it d es.size es.size ep) (ho : s.heap.get? d = some o) (ht : o.data = .dict es ep)
    (go : ∀ h', Heap.ExtBut it s.heap h' → Q none { s with heap := h' }) : wpAny (model prog w) A (pyNext (.ref it)) Q E s := by
  obtain ⟨q, hq, hc, hf⟩ := id hit
  have ty := hit.typeIs
  have e1 : es[es.size]? = none := Array.getElem?_eq_none (Nat.le_refl _)
  have no : Builtin.Dict_items.ownsTuple "dict_keyiterator" = false := by decide
  unfold pyNext
  refine wpAny_bind (wpAny_attempt (wpAny_callSpecial?_slot (name := Str.ofString "__next__") ty PySem.F.slot_dict_keyiterator_next (wpAny_call_entry PySem.F.slot_dict_keyiterator_next ty PySem.F.entry_dict_keyiterator_next ?_ (PySem.F.args_dict_keyiterator_next_1 _))))
  refine wpAny_bind (wpAny_pure (wpAny_bind (wpAny_bind ?_)))
  first
  | refine wpAny_bind (wpAny_typeNameOfWhole_keyiter ty (wpAny_pure (wpAny_bind (wpAny_fieldsOf hq hf ?_))))
  | refine wpAny_bind (wpAny_typeNameOf_keyiter ty (wpAny_pure (wpAny_bind (wpAny_fieldsOf hq hf ?_))))
  simp only [no, Bool.false_eq_true, if_false]
  show wpAny _ _ (if (Value.ref d == Value.none) = true then _ else _) _ _ s
  rw [if_neg (fun z => by cases (show false = true from z))]
  refine wpAny_bind (wpAny_pure (wpAny_bind (wpAny_dictEntries ho ht ?_)))
  rw [if_neg (by simp)]
  refine wpAny_bind (wpAny_pure (wpAny_bind (wpAny_dictEpoch ho ht ?_)))
  rw [if_neg (by simp)]
  refine wpAny_pure ?_
  simp only [show ¬ ((es.size : Int) < 0) by omega, if_false, Int.toNat_natCast, e1]
  refine wpAny_bind ?_
  first
  | refine wpAny_bind (wpAny_typeNameOfWhole_keyiter ty (wpAny_pure ?_))
  | refine wpAny_bind (wpAny_typeNameOf_keyiter ty (wpAny_pure ?_))
  show wpAny _ _ (setField (.ref it) 0 .none >>= _) _ _ s
  refine wpAny_bind (wpAny_setField hq hf (by simp) (show wpAny _ _ (newExc (.type "StopIteration") [] >>= _) _ _ _ from wpAny_bind ?_))
  simp only [newExc, newTuple]
  refine wpAny_bind (wpAny_newObj_type (wpAny_bind (m := firstArgMember _ _) (wpAny_of_eq (a := Value.none) (by first | rfl | (simp only [firstArgMember]; rfl)) (wpAny_newObj_type ?_ (by size_fits)))) (by size_fits))
  simp only [raiseNew]
  refine wpAny_bind (wpAny_handled ?_)
  rw [show A.in1.handled = none from hh]
  refine wpAny_bind (wpAny_pure (wpAny_throw (wpAny_bind ?_)))
  refine wpAny_isInstance (T := "StopIteration") (b := true) ⟨_, Heap.get?_push_size _ rfl, rfl⟩ isSubtype_stop (wpAny_pure ?_)
  exact go _ (((Heap.SameBut.update ..).extBut.push _).push _)
end
end F

set_option Elab.async false
set_option linter.all false
set_option maxRecDepth 100000
set_option maxHeartbeats 4000000
namespace F
open PySem PySem.Spec PyProof.Rows L2 Hd
/-! ### a dict of one's own is let go, and stands still from there on -/
def gFrz (i : Nat) (k : Me → Res (Fl × Me)) : Me → Res (Fl × Me) := fun m => match m[i]? with
  | some (.ow (.dcu ks ds)) => k (m.set i (.fz (.dcf ks ds)))
  | _ => .stuck
section
variable {X : Cx} {E : XK} {rest : List Stmt} {k : Me → Res (Fl × Me)}
theorem inv_frz {pins : List (Addr × Obj)} {s : Shared} {σ : L2.St} {H : Hp} {a : Addr} {kvs : List (List Kt × V)} (I : Inv X pins σ H s) (e : H a = some (.dT (KTp X.K) kvs)) : ∃ o, Inv X pins σ (L2.upd H a (.frz o (.dT (KTp X.K) kvs))) s := by
  have ok := I.hok a _ e
  obtain ⟨z, y, xs, r, o, es, ep, h1, rest⟩ := id ok
  refine ⟨o, I.write (x := a) (e := a) (t' := s.toks) (h' := s.heap) (by rw [e]; exact True.intro) (.inl rfl) (fun b u _ q => q) ⟨o, h1⟩ ⟨h1, ?_⟩⟩
  refine ok.stay (fun _ _ _ q => q) (fun b q => ?_) fun b ys q => ?_
  · rw [upd_ne (ne_of q e (fun z => nomatch z))]; exact q
  · rw [upd_ne (ne_of q e (fun z => nomatch z))]; exact q
theorem fss_frz (i : Nat) (h : FSs X E rest k) : FSs X E rest (gFrz i k) := by
  intro pins s σ H W I ⟨O0, M0, H0, ow, m, R, q⟩
  unfold gFrz at q
  split at q
  · rename_i ks ds z
    obtain ⟨a, h1, h2, h3, kvs, vs, e, e1, e2, hs⟩ := R.slot i _ z
    obtain ⟨o, I'⟩ := inv_frz I e
    have oa : Ow O0 ow a := .inr ⟨i, h1⟩
    have kp : Kp (Ow O0 ow) H (L2.upd H a (.frz o (.dT (KTp X.K) kvs))) := fun b u eb n => by
      have nb : b ≠ a := fun w => n (by rw [w]; exact oa)
      rw [upd_ne nb]; exact eb
    have na : ∀ b, Ow O0 (owS ow i none) b → b ≠ a := fun b w eb => by
      subst eb
      rcases w with w | ⟨j, w⟩
      · exact R.no0 i _ h1 w
      · by_cases ej : j = i
        · subst ej; rw [owS_at] at w; cases w
        · rw [owS_ne ej] at w; exact ej (R.inj j i _ w h1)
    have ev : Ev (Ow O0 ow) H (Ow O0 (owS ow i none)) (L2.upd H a (.frz o (.dT (KTp X.K) kvs))) := ⟨fun b w => .inl w.sub, kp⟩
    have hi := get_lt z
    have R2 : RelS (gx X) O0 M0 H0 (owS ow i none) σ (L2.upd H a (.frz o (.dT (KTp X.K) kvs))) (m.set i (.fz (.dcf ks ds))) := by
      refine ⟨⟨by simp [R.len], fun b u eb n => ?_, fun b w => ?_, fun b w => ?_, fun j b eb => ?_, fun j l b e1 e2 => ?_, fun j hj => ?_, fun j sl ej => ?_⟩, nb_set R.nb fun _ w => by cases w⟩
      · have nb : b ≠ a := fun w => by rw [w, h2] at eb; cases eb
        rw [upd_ne nb]
        exact R.keep b u eb n
      · by_cases eb : b = a
        · subst eb; rw [upd_same]; exact fun w => nomatch w
        · rw [upd_ne eb]; exact R.m0 b w
      · rw [upd_ne (na b w)]; exact R.mutk b w.sub
      · by_cases q : j = i
        · subst q; rw [owS_at] at eb; cases eb
        · rw [owS_ne q] at eb; exact R.no0 j b eb
      · by_cases q : j = i
        · subst q; rw [owS_at] at e1; cases e1
        · by_cases q' : l = i
          · subst q'; rw [owS_at] at e2; cases e2
          · rw [owS_ne q] at e1; rw [owS_ne q'] at e2; exact R.inj j l b e1 e2
      · by_cases q : j = i
        · subst q; exact owS_at
        · rw [owS_ne q]; exact R.out j (by simpa using hj)
      · by_cases q : j = i
        · subst q
          rw [List.getElem?_set_self hi] at ej
          cases ej
          rw [owS_at]
          exact ⟨rfl, .ref a, h3, .dcf upd_same e1 e2 (hs.go R.mutk ev)⟩
        · rw [List.getElem?_set_ne (Ne.symm q)] at ej
          rw [owS_ne q]
          have sl0 := R.slot j sl ej
          have ne : ∀ c, ow j = some c → c ≠ a := fun c w z => q (R.inj j i a (z ▸ w) h1)
          cases sl with
          | un => exact sl0
          | fz d => obtain ⟨w1, x, w2, w3⟩ := sl0; exact ⟨w1, x, w2, w3.go R.mutk ev⟩
          | ow d => obtain ⟨c, w1, w2, w3, w4⟩ := sl0; exact ⟨c, w1, w2, w3, (w4.kp R.mutk kp (upd_ne (ne c w1))).anti fun b w => .inl w.sub⟩
          | io d => obtain ⟨c, w1, w2, w3, w4⟩ := sl0; exact ⟨c, w1, w2, w3, (w4.kp R.mutk kp (upd_ne (ne c w1))).anti fun b w => .inl w.sub⟩
          | bw d => exact (R.nb j d ej).elim
    refine h pins s σ _ W I' ⟨O0, M0, H0, _, _, R2, Ss.go q ⟨kp, fun j b eb => ?_, fun b n => ?_⟩⟩
    · by_cases q : j = i
      · subst q; rw [owS_at] at eb; cases eb
      · rw [owS_ne q] at eb; exact .inl (.inr ⟨j, eb⟩)
    · by_cases eb : b = a
      · subst eb; rw [upd_same]; exact fun w => nomatch w
      · rw [upd_ne eb]; exact n
  · exact q.elim
end
/-! ### for k in d -/
def Itk (d : Addr) (o : Obj) (u : HO) (keys : List V) : It := ⟨fun i H => H d = some (.frz o u) ∧ i < keys.length, fun i H v H' => H' = H ∧ keys[i]? = some v, fun i H => H d = some (.frz o u) ∧ i = keys.length⟩
theorem vals_at : ∀ {vs : List V} {us : List Value} {i : Nat} {u : Value}, Vals vs us → us[i]? = some u → ∃ v, vs[i]? = some v ∧ RelV v u
  | _, _, _, _, .nil, e => by simp at e
  | _, _, 0, _, .cons r _, e => by simp at e; subst e; exact ⟨_, rfl, r⟩
  | _, _, i + 1, _, .cons _ t, e => by
    obtain ⟨v, h1, h2⟩ := vals_at (i := i) t (by simpa using e)
    exact ⟨v, by simpa using h1, h2⟩
theorem turn_keys {P : Program} {w : World} {K : PySem.W.Frag} {tg : Expr} (it d : Addr) (o : Obj) (u : HO) (es : Array DictEntry) (ep : Nat) (keys : List V) (ht : o.data = .dict es ep) (hv : Vals keys (es.toList.map (·.key))) :
    Turn P w K tg (Itk d o u keys) [it] it (fun i h => h.IsKeyIter it d i es.size ep) where
  mem := by simp
  obj := fun i h st b hb => by
    cases List.mem_singleton.mp hb
    obtain ⟨q, e, c, f⟩ := st
    exact ⟨q, e, fun v y => by rw [f] at y; cases y⟩
  keep := fun i h h' st k => by
    obtain ⟨q, e, r⟩ := st
    exact ⟨q, k it (by simp) q e, r⟩
  item := by
    intro X hP hw hK hc i pins s σ H E I hf st hg
    subst hP hw hK
    obtain ⟨f0, f1, f2, f3, f4, f5⟩ := hf it (by simp)
    obtain ⟨hd, hl⟩ := hg
    obtain ⟨ho, _⟩ := I.hok d _ hd
    have hlen : keys.length = es.size := by have := hv.length; simpa using this
    have lt : i < es.size := by omega
    refine next_raw st ho ht lt fun h' st' kk => ?_
    have e1 : es[i]? = some es[i] := Array.getElem?_eq_getElem lt
    obtain ⟨v, hv1, hv2⟩ := vals_at (i := i) (u := es[i].key) hv (by simp [lt])
    have I1 : Inv X pins σ H { s with heap := h' } := I.turned (t' := s.toks) (fun b q hb e => (kk.2 b hb).trans e) f0 f1 f3 f4 f5
    obtain ⟨q, e, cl, fd⟩ := id st'
    refine ⟨es[i].key, by rw [e1]; rfl, go_of (s := { s with heap := h' }) (n := "dict_keyiterator") e cl fd (by decide) ⟨v, H, I1, hv2, ⟨rfl, hv1⟩, st', fun b hb => (hf b hb).1⟩⟩
  done := by
    intro X hP hw hK hc i pins s σ H E I hf st hg
    subst hP hw hK
    obtain ⟨f0, f1, f2, f3, f4, f5⟩ := hf it (by simp)
    obtain ⟨hd, hl⟩ := hg
    obtain ⟨ho, _⟩ := I.hok d _ hd
    have hlen : keys.length = es.size := by have := hv.length; simpa using this
    have ei : i = es.size := by omega
    subst ei
    exact next_end (I.ok.hd hc) st ho ht fun h' kk => ⟨rfl, I.turned (t' := s.toks) (fun b q hb e => kk b q hb e) f0 f1 f3 f4 f5⟩
  self := fun A i s Q E st h => wpAny_pyIter_keyiter st h
def keyV : Key → D
  | .inl i => .int i
  | .inr z => .str z
mutual
def ktV : Kt → D
  | .k x => keyV x
  | .t xs => .tup (ktVs xs)
def ktVs : List Kt → List D
  | [] => []
  | x :: xs => ktV x :: ktVs xs
end
def tupK (k : List Kt) : D := .tup (ktVs k)
theorem keyV_dv {G : Gx} {O : Addr → Prop} {H : Hp} : ∀ k : Key, DV G O H (kV k) (keyV k)
  | .inl i => .int i
  | .inr z => .str z
mutual
theorem ktV_dv {G : Gx} {O : Addr → Prop} {H : Hp} : ∀ {n : Nat} {v : V} {k : Kt}, KtAt (KTp G.K) H n v k → DV G O H v (ktV k)
  | _, _, _, .k (x := x) => by rw [ktV]; exact keyV_dv x
  | _, _, _, .t h hs => by rw [ktV]; exact .tup h (ktVs_dvs hs)
theorem ktVs_dvs {G : Gx} {O : Addr → Prop} {H : Hp} : ∀ {n : Nat} {vs : List V} {ks : List Kt}, KtsAt (KTp G.K) H n vs ks → DVs G O H vs (ktVs ks)
  | _, _, _, .nil => by rw [ktVs]; exact .nil
  | _, _, _, .cons h hs => by rw [ktVs]; exact .cons (ktV_dv h) (ktVs_dvs hs)
end
theorem tupK_dv {G : Gx} {O : Addr → Prop} {H : Hp} {b : Addr} {k : List Kt} (h : TrT (KTp G.K) H b k) : DV G O H (.ref b) (tupK k) := let ⟨_, h1, h2⟩ := h; .tup h1 (ktVs_dvs h2)
theorem trT_kp {K : PySem.W.Frag} {O : Addr → Prop} {H H' : Hp} {b : Addr} {k : List Kt} (m : ∀ b, O b → MutK (H b)) (g : Kp O H H') (h : TrT (KTp K) H b k) : TrT (KTp K) H' b k := h.imp fun b xs e => g b _ e (not_mut m e mut_tup)
/-- the keys' own tuples -/
def KeysOf (K : PySem.W.Frag) (H : Hp) : List (List Kt × V) → List V → Prop := Paired fun p v => ∃ b, v = .ref b ∧ TrT (KTp K) H b p.1
theorem KeysOf.len {K : PySem.W.Frag} {H : Hp} {kvs : List (List Kt × V)} {keys : List V} (h : KeysOf K H kvs keys) : keys.length = kvs.length := (Paired.length h).symm
theorem KeysOf.at {K : PySem.W.Frag} {H : Hp} : ∀ {kvs : List (List Kt × V)} {keys : List V} {i : Nat} {v : V}, KeysOf K H kvs keys → keys[i]? = some v → ∃ p b, kvs[i]? = some p ∧ v = .ref b ∧ TrT (KTp K) H b p.1
  | _, _, _, _, .nil, e => by simp at e
  | _, _, 0, _, .cons ⟨b, h1, h2⟩ _, e => by simp at e; subst e; exact ⟨_, b, rfl, h1, h2⟩
  | _, _, i + 1, _, .cons _ t, e => by
    obtain ⟨p, b, q1, q2, q3⟩ := KeysOf.at (i := i) t (by simpa using e)
    exact ⟨p, b, by simpa using q1, q2, q3⟩
theorem keys_of {K : PySem.W.Frag} {H : Hp} : ∀ {kvs : List (List Kt × V)} {xs : List (List Kt × Addr × Value)}, KT (KTp K) H kvs xs → KeysOf K H kvs (xs.map fun q => V.ref q.2.1)
  | _, _, .nil => .nil
  | _, _, .cons h t => .cons ⟨_, rfl, h.2.1⟩ (keys_of t)
theorem refs_vals {P : Program} {w : World} : ∀ xs : List (List Kt × Addr × Value), Vals (xs.map fun q => V.ref q.2.1) ((xs.map (entryOfKey (treeKind P w))).map (·.key))
  | [] => .nil
  | q :: xs => .cons rfl (refs_vals xs)
section
variable {X : Cx} {tg : Expr}
def iKeys (K : PySem.W.Frag) (tl : TE) : TI := fun σ H R => tl σ H fun x H1 => ∃ d o kvs, x = .ref d ∧ H1 d = some (.frz o (.dT (KTp K) kvs)) ∧ ∀ keys, KeysOf K H1 kvs keys → R (Itk d o (.dT (KTp K) kvs) keys) H1
theorem pi_keys {l : Expr} {tl : TE} (hl : PE X l tl) : PI X tg l (iKeys X.K tl) := by
  intro pins s σ H R I h
  refine thn (hl pins s σ H _ I h) fun v s1 ⟨x, H1, I1, r1, q1⟩ => ?_
  obtain ⟨d, o, kvs, rfl, e, q⟩ := q1
  cases r1
  obtain ⟨ho, z, y, xs, r, o', es, ep, h1, h2, h3, h4, h5⟩ := I1.hok d _ e
  cases ho.symm.trans h1
  have fp : ∀ b ∈ [s1.heap.objs.size], FpOk X pins H1 b := fun b hb => by
    cases List.mem_singleton.mp hb
    exact I1.fpOk (Nat.le_refl _) (I1.hok.fresh (Nat.le_refl _))
  refine iter_raw y ho h2 h3 ?_
  have st : (s1.heap.push { cls := .type "dict_keyiterator", data := .fields #[.ref d, .int 0 0, .int es.size 0, .int ep 0] }).IsKeyIter s1.heap.objs.size d 0 es.size ep := ⟨_, Heap.get?_push_size _ rfl, rfl, rfl⟩
  refine ⟨s1.heap.objs.size, [s1.heap.objs.size], (fun i h => h.IsKeyIter s1.heap.objs.size d i es.size ep), _, H1, rfl, I1.kept (t' := s1.toks) fun b o e => Heap.get?_push_of_some _ e, turn_keys _ d o _ es ep (xs.map fun q => V.ref q.2.1) h3 ?_, st, fp, q _ (keys_of r)⟩
  rw [h4]
  exact refs_vals xs
def fItK (f : Me → Res D) : Me → Res (List D) := fun m => (f m).bind fun d => match d with
  | .dcf ks _ => .ok (ks.map tupK)
  | _ => .stuck
theorem keys_kp {K : PySem.W.Frag} {O : Addr → Prop} {H H' : Hp} (m : ∀ b, O b → MutK (H b)) (g : Kp O H H') : ∀ {kvs : List (List Kt × V)} {keys : List V}, KeysOf K H kvs keys → KeysOf K H' kvs keys
  | _, _, .nil => .nil
  | _, _, .cons ⟨b, h1, h2⟩ t => .cons ⟨b, h1, trT_kp m g h2⟩ (keys_kp m g t)
theorem it_keys {G : Gx} {O : Addr → Prop} {H : Hp} {d : Addr} {o : Obj} {kvs : List (List Kt × V)} {keys : List V} (m : ∀ b, O b → MutK (H b)) (e : H d = some (.frz o (.dT (KTp G.K) kvs))) (hk : KeysOf G.K H kvs keys) :
    ItOk G (Itk d o (.dT (KTp G.K) kvs) keys) ((kvs.map (·.1)).map tupK) (fun O' H2 => Ev O H O' H2) := by
  intro O' H2 ev
  have e2 : H2 d = some (.frz o (.dT (KTp G.K) kvs)) := ev.2 _ _ e (not_mut m e mut_frz)
  have hl := hk.len
  refine ⟨fun i hi => ⟨e2, by simpa [hl] using hi⟩, fun i x H' hi y => ?_, e2, by simp [hl]⟩
  obtain ⟨rfl, y⟩ := y
  obtain ⟨p, b, q1, rfl, q3⟩ := (keys_kp m ev.2 hk).at y
  exact ⟨Same.refl _, tupK p.1, by simp [q1], tupK_dv q3⟩
theorem fi_keys {E : XK} {e : Expr} {f : Me → Res D} (h : FE X E e f) : FI X E tg e (fItK f) := pi_weak (pi_keys h) fun σ H R ⟨O0, M0, H0, ow, m, Re, q⟩ => ⟨O0, M0, H0, ow, m, Re, q.bind.imp (Same.refl _) fun d q v H' g hv => by
  cases d with
  | dcf ks ds =>
    cases hv with
    | dcf e1 e2 e3 hs =>
      subst e2
      exact ⟨_, _, _, rfl, e1, fun keys hk => q _ H' g (it_keys (Re.mono g).mutk e1 hk)⟩
  | _ => exact q.elim⟩
end
end F

set_option Elab.async false
set_option linter.all false
set_option maxRecDepth 100000
set_option maxHeartbeats 4000000
namespace F
open PySem PySem.Spec PyProof.Rows L2 Hd
/-! ### a list times an int -/
def gMulL : D → D → Option D
  | .lst ds, .int k => if 0 ≤ k ∧ k < 2 ^ 63 ∧ ds.length * k.toNat ≤ sizeLine then some (.lst (List.replicate k.toNat ds).flatten) else none
  | _, _ => none
section
variable {X : Cx}
end
/-! ### set(a list of texts), and how many stand in it -/
def met (f : Nat → Str) : Nat → List Str
  | 0 => []
  | i + 1 => if (met f i).any (· == f i) then met f i else met f i ++ [f i]
section
variable {pr : Program} {wo : World} {A : Around} {R : Result → Shared → Prop} {I : Addr} {fp wr : List Addr} {G : Array GenState → Array GenState → Prop} {n : Nat} {P : Nat → Value → Prop} {St : Nat → Shared → Prop}
end
section
variable {pr : Program} {wo : World} {A : Around} {E : Value → Shared → Prop} {s : Shared}
abbrev bareSet (b : Bool) : Obj := { cls := .type "set", dict := none, data := .set #[] 0 (.fresh 0 0 b) }
end
end F

set_option Elab.async false
set_option linter.all false
set_option maxRecDepth 100000
set_option maxHeartbeats 4000000
namespace F
open PySem PySem.Spec PyProof.Rows L2 Hd
/-! ### len(set(a list of texts)) -/
def stp (l : List Str) (x : Str) : List Str := if l.any (· == x) then l else l ++ [x]
def cnt (zs : List Str) : Nat := (zs.foldl stp []).length
section
variable {X : Cx}
def SetIs (pr : Program) (wo : World) (a : Addr) (n : Nat) (h : Heap) : Prop := ∃ S, h.SetOf (strKind pr wo) a S n
def rSetT (X : Cx) : List V → Hp → VK → Prop := fun xs H Q => ∃ p zs, xs = [.ref p] ∧ SqL X.K H p (zs.map V.str) ∧ zs.length + 1 < scanBound ∧ ∀ l, H l = none → Q (.ref l) (upd H l (.ext (SetIs X.prog X.w l (cnt zs))))
theorem vals_str : ∀ {zs : List Str} {its : List Value}, Vals (zs.map V.str) its → ∀ (i : Nat) (u : Value), its[i]? = some u → ∃ t, u = Value.str (zs.getD i "") t
  | [], _, h, i, u, e => by cases h; cases e
  | z :: zs, _, h, i, u, e => by
    cases h with
    | cons a b =>
      cases i with
      | zero => obtain ⟨t, ea⟩ := a; subst ea; cases e; exact ⟨t, rfl⟩
      | succ i => exact vals_str b i u e
def rLenS (X : Cx) : List V → Hp → VK → Prop := fun xs H Q => ∃ p n, xs = [.ref p] ∧ H p = some (.ext (SetIs X.prog X.w p n)) ∧ n < scanBound ∧ Q (.int n) H
def txs : List D → Option (List Str)
  | [] => some []
  | .str x :: ds => (txs ds).map (x :: ·)
  | _ => none
def gSetLen : List D → Option D
  | [.lst ds] => match txs ds with
    | some zs => if zs.length + 1 < scanBound then some (.int (cnt zs)) else none
    | none => none
  | _ => none
end
end F

set_option Elab.async false
set_option linter.all false
set_option maxRecDepth 100000
set_option maxHeartbeats 4000000
namespace F
open PySem PySem.Spec PyProof.Rows L2 Hd
/-! ### the rules once more, each within a wrapper (so that Lean does not look into what they say: for texts that are written out at length) -/
structure Wr (p : Prop) : Prop where
  out : p
section
variable {X : Cx} {E : XK} {e a b c ke : Expr} {es : List Expr} {st : Stmt} {rest sa sb : List Stmt} {f fa fb fk : Me → Res D} {fs : Me → Res (List D)} {ft : Me → Res Bool} {gg k ga gb : Me → Res (Fl × Me)} {pos pos' apos cpos np spos p : Pos} {i : Nat} {x : Str}
end
end F

set_option Elab.async false
set_option linter.all false
set_option maxRecDepth 100000
set_option maxHeartbeats 4000000
namespace F
open PySem PySem.Spec PyProof.Rows L2 Hd
/-! ### d.setdefault(k, v), the keys tuples -/
section
variable {pr : Program} {wo : World} {A : Around} {E : Value → Shared → Prop} {s : Shared} {κ : Type} [DecidableEq κ] {kn : HeapKind pr wo κ}
end
def tDSd (K : PySem.W.Frag) (td ty tx : TE) : TE := fun σ H Q => td σ H fun x H1 => ∃ a, x = .ref a ∧ IsD K H1 a ∧ ty σ H1 fun y H2 => tx σ H2 fun z H3 => ∃ kvs k b, H3 a = some (.dT (KTp K) kvs) ∧ y = .ref b ∧ TrT (KTp K) H3 b k ∧ kvs.length < sizeLine ∧
  (∀ v, valV kvs k = some v → Q v H3) ∧ (valV kvs k = none → Q z (upd H3 a (.dT (KTp K) (kvs ++ [(k, z)]))))
section
variable {X : Cx} {o e f : Expr} {apos cpos : Pos} {td ty tx : TE}
end
def gUSd (i : Nat) (fk fv : Me → Res D) : Me → Res (Fl × Me) := fun m => (ofO (ownU m i)).bind fun o => (fk m).bind fun k => (fv m).bind fun d => (ofO (keyT k)).bind fun k =>
  if o.2.1.length < sizeLine then .ok (.nx, if (valU o.2.1 o.2.2 k).isSome then m else putMU m i o.1 (o.2.1 ++ [k]) (o.2.2 ++ [d])) else .stuck
section
variable {X : Cx} {E : XK} {e ke : Expr} {f fk : Me → Res D} {pos np apos cpos : Pos} {x : Str}
end
end F

set_option Elab.async false
set_option linter.all false
set_option maxRecDepth 100000
set_option maxHeartbeats 4000000
namespace F
open PySem PySem.Spec PyProof.Rows L2 Hd
/-! ### list(d.values()), whatever the keys -/
def RawD (h : Heap) (d : Addr) (es : Array DictEntry) (ep : Nat) : Prop := ∃ o, h.get? d = some o ∧ o.ExactDict ∧ o.data = .dict es ep
section
variable {prog : Program} {w : World} {A : Around} {E : Value → Shared → Prop} {s : Shared} {d it v : Addr} {es : Array DictEntry} {ep i : Nat}
theorem RawD.ty (x : RawD s.heap d es ep) : s.TypeIs (.ref d) "dict" := let ⟨o, h, c, _⟩ := x; ⟨o, h, c.1⟩
theorem RawD.up {h h' : Heap} (x : RawD h d es ep) (k : ∀ o, h.get? d = some o → h'.get? d = some o) : RawD h' d es ep := let ⟨o, e, r⟩ := x; ⟨o, k o e, r⟩
end
end F

set_option Elab.async false
set_option linter.all false
set_option maxRecDepth 100000
set_option maxHeartbeats 4000000
namespace F
open PySem PySem.Spec PyProof.Rows L2 Hd
section
variable {X : Cx}
def ViewIs (p a : Addr) (h : Heap) : Prop := h.IsValuesView p a
def rVals (X : Cx) : V → List V → Hp → VK → Prop := fun x vs H Q => ∃ a kvs, x = .ref a ∧ vs = [] ∧ H a = some (.dT (KTp X.K) kvs) ∧ ∀ p, H p = none → Q (.ref p) (upd H p (.ext (ViewIs p a)))
def rLV (X : Cx) : List V → Hp → VK → Prop := fun xs H Q => ∃ p a kvs, xs = [.ref p] ∧ H p = some (.ext (ViewIs p a)) ∧ H a = some (.dT (KTp X.K) kvs) ∧ ∀ l, H l = none → Q (.ref l) (upd H l (.lst (kvs.map (·.2))))
end
def fLVals (fo : Me → Res D) : Me → Res D := fun m => (fo m).bind fun d => match d with
  | .dcu _ ds => .ok (.lst ds)
  | _ => .stuck
section
variable {X : Cx} {E : XK} {o : Expr} {fo : Me → Res D} {p pos apos cpos : Pos}
end
end F

set_option Elab.async false
set_option linter.all false
set_option maxRecDepth 100000
set_option maxHeartbeats 4000000
namespace F
open PySem PySem.Spec PyProof.Rows L2 Hd
/-! ### {k: v}, k a tuple -/
def tDispT (K : PySem.W.Frag) (tk tv : TE) : TE := fun σ H Q => ∀ p, H p = none → tk σ (upd H p (.dT (KTp K) [])) fun x H1 => tv σ H1 fun y H2 =>
  H2 p = some (.dT (KTp K) []) ∧ ∃ ks b, x = .ref b ∧ TrT (KTp K) H2 b ks ∧ Q (.ref p) (upd H2 p (.dT (KTp K) [(ks, y)]))
section
variable {X : Cx} {k v : Expr} {pos : Pos} {tk tv : TE}
end
def fUDisp (fk fv : Me → Res D) : Me → Res D := fun m => (fk m).bind fun k => (fv m).bind fun d => (ofO (keyT k)).bind fun ks => .ok (.dcu [ks] [d])
section
variable {X : Cx} {E : XK} {k v : Expr} {pos : Pos} {fk fv : Me → Res D}
end
/-! ### {k: v, ..}, the keys ints or texts -/
def fPairs : List ((Me → Res D) × (Me → Res D)) → Me → Res (List (D × D))
  | [], _ => .ok []
  | f :: r, m => (f.1 m).bind fun k => (f.2 m).bind fun d => (fPairs r m).bind fun l => .ok ((k, d) :: l)
inductive DPs (G : Gx) (O : Addr → Prop) (H : Hp) : List (V × V) → List (D × D) → Prop where
  | nil : DPs G O H [] []
  | cons {x y : V} {k d : D} {ps : List (V × V)} {l : List (D × D)} : DV G O H x k → DV G O H y d → DPs G O H ps l → DPs G O H ((x, y) :: ps) ((k, d) :: l)
theorem DPs.mono {G : Gx} {O : Addr → Prop} {H H' : Hp} (g : Same H H') : ∀ {ps : List (V × V)} {l : List (D × D)}, DPs G O H ps l → DPs G O H' ps l
  | _, _, .nil => .nil
  | _, _, .cons a b r => .cons (a.mono g) (b.mono g) (r.mono g)
def mrgD : List Key → List D → List (D × D) → Option (List Key × List D)
  | ks, ds, [] => some (ks, ds)
  | ks, ds, p :: r => (keyD p.1).bind fun k => mrgD (putD ks ds k p.2).1 (putD ks ds k p.2).2 r
def fDisp (fs : List ((Me → Res D) × (Me → Res D))) : Me → Res D := fun m => (fPairs fs m).bind fun l => if l.length ≤ 15 then (ofO (mrgD [] [] l)).bind fun r => .ok (.dct r.1 r.2) else .stuck
abbrev trsOf (X : Cx) (E : XK) (fs : List ((Me → Res D) × (Me → Res D))) : List (TE × TE) := fs.map fun f => (tE (gx X) E f.1, tE (gx X) E f.2)
section
variable {X : Cx} {E : XK}
theorem DPs.anti {G : Gx} {O O' : Addr → Prop} {H : Hp} (s : ∀ b, O' b → O b ∨ H b = none) : ∀ {ps : List (V × V)} {l : List (D × D)}, DPs G O H ps l → DPs G O' H ps l
  | _, _, .nil => .nil
  | _, _, .cons a b r => .cons (a.anti s) (b.anti s) (r.anti s)
theorem DPs.kp {G : Gx} {O : Addr → Prop} {H H' : Hp} (m : ∀ b, O b → MutK (H b)) (g : Kp O H H') : ∀ {ps : List (V × V)} {l : List (D × D)}, DPs G O H ps l → DPs G O H' ps l
  | _, _, .nil => .nil
  | _, _, .cons a b r => .cons (a.kp m g) (b.kp m g) (r.kp m g)
theorem DPs.len {G : Gx} {O : Addr → Prop} {H : Hp} : ∀ {ps : List (V × V)} {l : List (D × D)}, DPs G O H ps l → ps.length = l.length
  | _, _, .nil => rfl
  | _, _, .cons _ _ r => by rw [List.length_cons, List.length_cons, r.len]
end
end F

set_option Elab.async false
set_option linter.all false
set_option maxRecDepth 100000
set_option maxHeartbeats 4000000
namespace F
open PySem PySem.Spec PyProof.Rows L2 Hd
/-! ### dict(a list of pairs) -/
section
variable {pr : Program} {wo : World} {A : Around} {E : Value → Shared → Prop} {s : Shared}
end
section
variable {pr : Program} {wo : World} {κ : Type} [DecidableEq κ] {kn : KeyKind pr wo κ} {A : Around} {R : Result → Shared → Prop} {I : Addr} {fp wr : List Addr} {G : Array GenState → Array GenState → Prop} {n : Nat} {P : Nat → Value → Prop} {St : Nat → Shared → Prop}
end
section
variable {pr : Program} {wo : World} {κ : Type} [DecidableEq κ] {kn : KeyKind pr wo κ} {A : Around} {E : Value → Shared → Prop} {s : Shared}
end
end F

set_option Elab.async false
set_option linter.all false
set_option maxRecDepth 100000
set_option maxHeartbeats 4000000
namespace F
open PySem PySem.Spec PyProof.Rows L2 Hd
def prsD : List D → Option (List (D × D))
  | [] => some []
  | .tup [k, v] :: r => (prsD r).map ((k, v) :: ·)
  | _ => none
def gDictL : List D → Option D
  | [.lst ds] => (prsD ds).bind fun l => (mrgD [] [] l).map fun r => .dct r.1 r.2
  | _ => none
section
variable {X : Cx} {pins : List (Addr × Obj)} {σ : L2.St} {H : Hp} {s : Shared}
end
end F

set_option Elab.async false
set_option linter.all false
set_option maxRecDepth 100000
set_option maxHeartbeats 4000000
namespace F
open PySem PySem.Spec PyProof.Rows L2 Hd
/-! ### == and != of dicts with ints or texts as keys -/
def dHits (ls : List Key) (us : List D) : List Key → List D → Option Bool
  | [], [] => some true
  | k :: ks, d :: ds => match valD ls us k with
    | none => some false
    | some y => (eqDeep d y).bind fun e => (dHits ls us ks ds).map (e && ·)
  | _, _ => none
def gDEq : D → D → Option Bool
  | .dct ks vs, .dct ls us => if ks.length = ls.length then dHits ls us ks vs else some false
  | _, _ => none
def gDNe (d e : D) : Option Bool := (gDEq d e).map (!·)
section
variable {X : Cx} {pins : List (Addr × Obj)} {σ : L2.St} {H : Hp} {s : Shared}
end
end F

set_option Elab.async false
set_option linter.all false
set_option maxRecDepth 100000
set_option maxHeartbeats 4000000
namespace F
open PySem PySem.Spec PyProof.Rows L2 Hd
/-! ### for k, v in d.items(), list(d): a dict that stands still, whatever the keys -/
section
variable {prog : Program} {w : World} {A : Around} {E : Value → Shared → Prop} {s : Shared} {d it v : Addr} {es : Array DictEntry} {ep i : Nat}
theorem items_raw {Q : Value → Shared → Prop} (nd : (d == sysModules) = false) (x : RawD s.heap d es ep)
    (k : Q (.ref s.heap.objs.size) { s with heap := s.heap.push { cls := .type "dict_items", data := .fields #[.ref d] } }) : wpAny (model prog w) A (call (.builtin "dict.items") [.ref d]) Q E s := by
  refine wpAny_call_entry PySem.F.slot_dict_items x.ty PySem.F.entry_dict_items ?_ (PySem.F.args_dict_items_1 _)
  unfold Builtin.«dict.items»
  refine wpAny_bind ?_
  unfold Builtin.Dict.noArgs
  refine wpAny_bind (wpAny_notOrdered_dict x.ty (show wpAny _ _ (pure d) _ _ s from wpAny_pure ?_))
  show wpAny _ _ (Builtin.Dict.showsAll d >>= _) _ _ s
  unfold Builtin.Dict.showsAll
  rw [if_neg (fun z => by rw [nd] at z; cases z)]
  exact wpAny_bind (wpAny_pure (wpAny_bind (wpAny_newObj_type (wpAny_pure ⟨_, rfl, k⟩))))
theorem iterI {Q : Value → Shared → Prop} (hv : s.heap.IsItemsView v d) (x : RawD s.heap d es ep)
    (hQ : Q (.ref s.heap.objs.size) { s with heap := s.heap.push { cls := .type "dict_itemiterator", data := .fields #[.none, .bool false, .ref d, .int 0 0, .int es.size 0, .int ep 0, .none, .none] } }) :
    wpAny (model prog w) A (pyIter (.ref v)) Q E s := by
  obtain ⟨ov, hov, hcv, hdv⟩ := id hv
  obtain ⟨o, ho, hc, hdat⟩ := id x
  refine wpAny_pyIter_slot hv.typeIs PySem.F.slot_dict_items_iter (wpAny_call_entry PySem.F.slot_dict_items_iter hv.typeIs PySem.F.entry_dict_items_iter ?_ (PySem.F.args_dict_items_iter_1 _))
  unfold Builtin.«dict_items.__iter__»
  refine wpAny_bind (wpAny_pure ?_)
  refine wpAny_bind ?_
  unfold Builtin.Dict_items.dictOf
  refine wpAny_bind (wpAny_field hov hdv (x := .ref d) rfl (wpAny_pure ?_))
  refine wpAny_bind ?_
  unfold Builtin.Dict_items.newIterator
  refine wpAny_bind (wpAny_dictEntries ho hdat ?_)
  refine wpAny_bind (wpAny_dictEpoch ho hdat ?_)
  have hown : Builtin.Dict_items.ownsTuple "dict_itemiterator" = true := by decide
  simp only [hown, if_true]
  refine wpAny_newObj_type (wpAny_pure ⟨_, rfl, "dict_itemiterator", _, ⟨_, Heap.get?_push_size _ rfl, rfl⟩, PySem.F.slot_dict_itemiterator_next.lookup, ?_⟩)
    (by simp only [sizeOk, Builtin.Dict_items.ownedTupleFields, List.size_toArray, List.length_append, List.length_cons, List.length_nil, sizeLine_eq]; omega)
  simpa [rawInt, Builtin.Dict_items.ownedTupleFields] using hQ
theorem nextI {ok ov : Value} {Q : Option Value → Shared → Prop} (hit : IsItemIter s.heap it d i es.size ep ok ov) (x : RawD s.heap d es ep) (lt : i < es.size)
    (hQ : ∀ h', IsItemIterOut h' it d (i + 1) es.size ep es[i].key es[i].val s.heap.objs.size →
      h'.get? s.heap.objs.size = some { cls := .type "tuple", data := .seq #[es[i].key, es[i].val] } → h'.objs.size = s.heap.objs.size + 1 →
      (∀ b o, b ≠ it → s.heap.get? b = some o → h'.get? b = some o) → Q (some (.ref s.heap.objs.size)) { s with heap := h' }) :
    wpAny (model prog w) A (pyNext (.ref it)) Q E s := by
  obtain ⟨hp, g, dr, tk, os⟩ := s
  obtain ⟨od, hod, hcd, hdd⟩ := id x
  have hT : Shared.TypeIs ⟨hp, g, dr, tk, os⟩ (.ref it) "dict_itemiterator" := ⟨_, hit, rfl⟩
  unfold pyNext
  refine wpAny_bind (wpAny_attempt (wpAny_callSpecial?_slot (name := Str.ofString "__next__") hT PySem.F.slot_dict_itemiterator_next
    (wpAny_call_entry PySem.F.slot_dict_itemiterator_next hT PySem.F.entry_dict_itemiterator_next ?_ (PySem.F.args_dict_itemiterator_next_1 _))))
  refine wpAny_bind (wpAny_pure ?_)
  refine wpAny_bind ?_
  refine wpAny_bind ?_
  first | refine wpAny_bind (wpAny_typeNameOfWhole_itemiter hT (wpAny_pure ?_)) | refine wpAny_bind (wpAny_typeNameOf_itemiter hT (wpAny_pure ?_))
  refine wpAny_bind (wpAny_fieldsOf hit rfl ?_)
  have hown : Builtin.Dict_items.ownsTuple "dict_itemiterator" = true := by decide
  simp only [hown, if_true]
  show wpAny _ _ (if (Value.ref d == Value.none) = true then _ else _) _ _ _
  rw [if_neg (show ¬ ((Value.ref d == Value.none) = true) from Bool.false_ne_true)]
  refine wpAny_bind (wpAny_pure ?_)
  refine wpAny_bind (wpAny_dictEntries hod hdd ?_)
  rw [if_neg (by simp)]
  refine wpAny_bind (wpAny_pure ?_)
  refine wpAny_bind (wpAny_dictEpoch hod hdd ?_)
  rw [if_neg (by simp)]
  refine wpAny_pure ?_
  simp only [show ¬ ((i : Int) < 0) from by omega, if_false, Int.toNat_natCast, Array.getElem?_eq_getElem lt]
  refine wpAny_bind ?_
  first | refine wpAny_bind (wpAny_typeNameOfWhole_itemiter hT (wpAny_pure ?_)) | refine wpAny_bind (wpAny_typeNameOf_itemiter hT (wpAny_pure ?_))
  refine wpAny_bind (wpAny_isOneOf_itemiter hT ?_)
  show wpAny _ _ (setField (.ref it) 3 (rawInt ((i : Int) + 1)) >>= _) _ _ ⟨hp, g, dr, tk, os⟩
  refine wpAny_bind (wpAny_setField_rec hit (by simp) fun h₁ he₁ hs₁ => ?_)
  replace hs₁ : Heap.SameBut it hp h₁ := hs₁
  replace he₁ : IsItemIter h₁ it d (i + 1) es.size ep ok ov := by
    have e : ((i + 1 : Nat) : Int) = (i : Int) + 1 := by omega
    unfold IsItemIter; rw [e]; simpa [rawInt] using he₁
  have hT₁ : Shared.TypeIs ⟨h₁, g, dr, tk, os⟩ (.ref it) "dict_itemiterator" := ⟨_, he₁, rfl⟩
  refine wpAny_bind (wpAny_holding ?_)
  refine wpAny_bind (wpAny_isOneOf_itemiter hT₁ ?_)
  refine wpAny_bind (wpAny_isOneOf_itemiter hT₁ ?_)
  show wpAny _ _ (Builtin.Dict_items.pairFromOwner (.ref it) 6 es[i].key es[i].val) _ _ ⟨h₁, g, dr, tk, os⟩
  unfold Builtin.Dict_items.pairFromOwner
  refine wpAny_bind (wpAny_newTuple ?_)
  have he₂ : IsItemIter (h₁.push { cls := .type "tuple", data := .seq #[es[i].key, es[i].val] }) it d (i + 1) es.size ep ok ov := Heap.get?_push_of_some _ he₁
  generalize hh₂ : h₁.push { cls := .type "tuple", data := .seq #[es[i].key, es[i].val] } = h₂ at he₂
  have hz₁ : h₁.objs.size = hp.objs.size := hs₁.1
  have hil : it < hp.objs.size := Heap.lt_size hit
  have ht₂ : h₂.get? hp.objs.size = some { cls := .type "tuple", data := .seq #[es[i].key, es[i].val] } := by rw [← hh₂, ← hz₁]; exact Heap.get?_push_size _ rfl
  have hz₂ : h₂.objs.size = hp.objs.size + 1 := by rw [← hh₂, Heap.size_push, hz₁]
  have hk₂ : ∀ b o, b ≠ it → hp.get? b = some o → h₂.get? b = some o := fun b o hb e => by rw [← hh₂]; exact Heap.get?_push_of_some _ (hs₁.extBut b o hb e)
  show wpAny _ _ (Builtin.Dict_items.ownedTupleIsFree (.ref it) >>= _) _ _ ⟨h₂, g, dr, tk, os⟩
  rw [hz₁]
  clear hh₂ he₁ hs₁ hT₁ hz₁ h₁
  refine wpAny_bind ?_
  unfold Builtin.Dict_items.ownedTupleIsFree
  refine wpAny_bind (wpAny_field he₂ rfl (x := .none) rfl (wpAny_pure ?_))
  simp only [if_true]
  refine wpAny_bind (wpAny_field he₂ rfl (x := ok) rfl ?_)
  refine wpAny_bind (wpAny_field he₂ rfl (x := ov) rfl ?_)
  refine wpAny_bind (wpAny_setField_rec he₂ (by simp) fun h₃ he₃ hs₃ => ?_)
  replace hs₃ : Heap.SameBut it h₂ h₃ := hs₃
  replace he₃ : IsItemIter h₃ it d (i + 1) es.size ep es[i].key ov := he₃
  refine wpAny_bind (wpAny_setField_rec he₃ (by simp) fun h₄ he₄ hs₄ => ?_)
  replace hs₄ : Heap.SameBut it h₃ h₄ := hs₄
  replace he₄ : IsItemIter h₄ it d (i + 1) es.size ep es[i].key es[i].val := he₄
  refine wpAny_bind (wpAny_setField_rec he₄ (by simp) fun h₅ he₅ hs₅ => ?_)
  replace hs₅ : Heap.SameBut it h₄ h₅ := hs₅
  replace he₅ : IsItemIterOut h₅ it d (i + 1) es.size ep es[i].key es[i].val hp.objs.size := he₅
  refine wpAny_bind (wpAny_setField_rec he₅ (by simp) fun h₆ he₆ hs₆ => ?_)
  replace hs₆ : Heap.SameBut it h₅ h₆ := hs₆
  replace he₆ : IsItemIterOut h₆ it d (i + 1) es.size ep es[i].key es[i].val hp.objs.size := he₆
  refine wpAny_bind (wpAny_letGo (wpAny_pure (wpAny_pure ⟨_, rfl, wpAny_pure (hQ h₆ he₆ ?_ ?_ ?_)⟩)))
  · exact hs₆.extBut _ _ (Nat.ne_of_gt hil) (hs₅.extBut _ _ (Nat.ne_of_gt hil) (hs₄.extBut _ _ (Nat.ne_of_gt hil) (hs₃.extBut _ _ (Nat.ne_of_gt hil) ht₂)))
  · show h₆.objs.size = hp.objs.size + 1
    rw [hs₆.1, hs₅.1, hs₄.1, hs₃.1, hz₂]
  · exact fun b o hb e => hs₆.extBut b o hb (hs₅.extBut b o hb (hs₄.extBut b o hb (hs₃.extBut b o hb (hk₂ b o hb e))))
theorem nextI_end {ok ov : Value} {Q : Option Value → Shared → Prop} (hh : A.handled = none) (hit : IsItemIter s.heap it d i es.size ep ok ov) (x : RawD s.heap d es ep) (hge : es.size ≤ i)
    (hQ : ∀ h', Heap.ExtBut it s.heap h' → Q none { s with heap := h' }) : wpAny (model prog w) A (pyNext (.ref it)) Q E s := by
  obtain ⟨od, hod, hcd, hdd⟩ := id x
  have hT : s.TypeIs (.ref it) "dict_itemiterator" := ⟨_, hit, rfl⟩
  unfold pyNext
  refine wpAny_bind (wpAny_attempt (wpAny_callSpecial?_slot (name := Str.ofString "__next__") hT PySem.F.slot_dict_itemiterator_next
    (wpAny_call_entry PySem.F.slot_dict_itemiterator_next hT PySem.F.entry_dict_itemiterator_next ?_ (PySem.F.args_dict_itemiterator_next_1 _))))
  refine wpAny_bind (wpAny_pure ?_)
  refine wpAny_bind ?_
  refine wpAny_bind ?_
  first | refine wpAny_bind (wpAny_typeNameOfWhole_itemiter hT (wpAny_pure ?_)) | refine wpAny_bind (wpAny_typeNameOf_itemiter hT (wpAny_pure ?_))
  refine wpAny_bind (wpAny_fieldsOf hit rfl ?_)
  have hown : Builtin.Dict_items.ownsTuple "dict_itemiterator" = true := by decide
  simp only [hown, if_true]
  show wpAny _ _ (if (Value.ref d == Value.none) = true then _ else _) _ _ s
  rw [if_neg (show ¬ ((Value.ref d == Value.none) = true) from Bool.false_ne_true)]
  refine wpAny_bind (wpAny_pure ?_)
  refine wpAny_bind (wpAny_dictEntries hod hdd ?_)
  rw [if_neg (by simp)]
  refine wpAny_bind (wpAny_pure ?_)
  refine wpAny_bind (wpAny_dictEpoch hod hdd ?_)
  rw [if_neg (by simp)]
  refine wpAny_pure ?_
  simp only [show ¬ ((i : Int) < 0) from by omega, if_false, Int.toNat_natCast, Array.getElem?_eq_none hge]
  refine wpAny_bind ?_
  first | refine wpAny_bind (wpAny_typeNameOfWhole_itemiter hT (wpAny_pure ?_)) | refine wpAny_bind (wpAny_typeNameOf_itemiter hT (wpAny_pure ?_))
  show wpAny _ _ (setField (.ref it) 2 .none >>= _) _ _ s
  refine wpAny_bind (wpAny_setField hit rfl (by simp) ?_)
  show wpAny _ _ (newExc (.type "StopIteration") [] >>= _) _ _ _
  refine wpAny_bind ?_
  simp only [newExc, newTuple]
  refine wpAny_bind (wpAny_newObj_type ?_ (by size_fits))
  refine wpAny_bind (m := firstArgMember _ _) (wpAny_of_eq (a := Value.none) (by first | rfl | (simp only [firstArgMember]; rfl)) ?_)
  refine wpAny_newObj_type ?_ (by size_fits)
  simp only [raiseNew]
  refine wpAny_bind (wpAny_handled ?_)
  rw [show A.in1.handled = none from hh]
  refine wpAny_bind (wpAny_pure (wpAny_throw ?_))
  refine wpAny_bind (wpAny_isInstance (T := "StopIteration") (b := true) ⟨_, Heap.get?_push_size _ rfl, rfl⟩ isSubtype_stop ?_)
  exact wpAny_pure (hQ _ (((Heap.SameBut.update ..).extBut.push _).push _))
end
def Itm (d : Addr) (o : Obj) (u : HO) (keys vals : List V) : It := ⟨fun i H => H d = some (.frz o u) ∧ i < keys.length, fun i H x H' => ∃ y z l, keys[i]? = some y ∧ vals[i]? = some z ∧ x = .ref l ∧ H l = none ∧ H' = upd H l (.tup [y, z]), fun i H => H d = some (.frz o u) ∧ i = keys.length⟩
theorem turn_items {P : Program} {w : World} {K : PySem.W.Frag} {elts : List Expr} {x1} {pos : Pos} (it d : Addr) (o : Obj) (u : HO) (es : Array DictEntry) (ep : Nat) (keys vals : List V) (hx : o.ExactDict) (ht : o.data = .dict es ep) (hv : Vals keys (es.toList.map (·.key))) (hw : Vals vals (es.toList.map (·.val))) :
    Turn P w K (.Tuple elts x1 pos) (Itm d o u keys vals) [it] it (fun i h => ∃ ok ov, IsItemIter h it d i es.size ep ok ov) where
  mem := by simp
  obj := fun i h st b hb => by
    cases List.mem_singleton.mp hb
    obtain ⟨_, _, e⟩ := st
    exact ⟨_, e, fun v z => by cases (show Data.fields _ = Data.cell v from z)⟩
  keep := fun i h h' st k => by
    obtain ⟨a, b, e⟩ := st
    exact ⟨a, b, k it (by simp) _ e⟩
  item := by
    intro X hP hw' hK hc i pins s σ H E I hf st hg
    subst hP hw' hK
    have fe := hf it (by simp)
    obtain ⟨f0, f1, f2, f3, f4, f5⟩ := fe
    obtain ⟨hd, hl⟩ := hg
    obtain ⟨ho, _⟩ := I.hok d _ hd
    have hlen : keys.length = es.size := by have := hv.length; simpa using this
    have lt : i < es.size := by omega
    obtain ⟨ok, ov, st⟩ := st
    obtain ⟨y, y1, y2⟩ := vals_at (i := i) (u := es[i].key) hv (by simp [lt])
    obtain ⟨z, z1, z2⟩ := vals_at (i := i) (u := es[i].val) hw (by simp [lt])
    refine nextI st ⟨o, ho, hx, ht⟩ lt fun h' eo htu hsz kk => ?_
    obtain ⟨vs, fe'⟩ : ∃ vs, (⟨.type "dict_itemiterator", none, .fields #[rawInt s.heap.objs.size, .bool false, .ref d, .int (i + 1 : Nat) 0, .int es.size 0, .int ep 0, es[i].key, es[i].val], #[]⟩ : Obj).data = .fields vs := ⟨_, rfl⟩
    have I1 : Inv X pins σ H { s with heap := s.heap.update it fun _ => ⟨.type "dict_itemiterator", none, .fields #[rawInt s.heap.objs.size, .bool false, .ref d, .int (i + 1 : Nat) 0, .int es.size 0, .int ep 0, es[i].key, es[i].val], #[]⟩ } :=
      I.turned (t' := s.toks) (fun b o hb x => (Heap.get?_update_other _ _ (Ne.symm hb)).trans x) f0 f1 f3 f4 f5
    have k1 : ∀ b u, (s.heap.update it fun _ => ⟨.type "dict_itemiterator", none, .fields #[rawInt s.heap.objs.size, .bool false, .ref d, .int (i + 1 : Nat) 0, .int es.size 0, .int ep 0, es[i].key, es[i].val], #[]⟩).get? b = some u → h'.get? b = some u := fun b u x => by
      by_cases q : b = it
      · subst q
        rw [Heap.get?_update_self _ st (freed_of fe')] at x
        cases x
        exact eo
      · rw [Heap.get?_update_other _ _ (Ne.symm q)] at x
        exact kk b u q x
    have sz1 : (s.heap.update it fun _ => ⟨.type "dict_itemiterator", none, .fields #[rawInt s.heap.objs.size, .bool false, .ref d, .int (i + 1 : Nat) 0, .int es.size 0, .int ep 0, es[i].key, es[i].val], #[]⟩).objs.size = s.heap.objs.size := (Heap.SameBut.update _ _ _).1
    have I2 : Inv X pins σ (upd H s.heap.objs.size (.tup [y, z])) { s with heap := h' } :=
      I1.laid (t' := s.toks) k1 (Nat.le_of_eq sz1) (show ObjOk X.prog X.w _ _ _ (.tup [y, z]) from ⟨(show 2 ≤ sizeLine by decide), [es[i].key, es[i].val], .cons y2 (.cons z2 .nil), ⟨_, htu, rfl, _, rfl⟩⟩)
    have fr : H s.heap.objs.size = none := I.hok.fresh (Nat.le_refl _)
    have ne1 : it ≠ s.heap.objs.size := Nat.ne_of_lt (Heap.lt_size st)
    refine ⟨_, rfl, wpAny_letOwnedTupleGo_items (s := { s with heap := h' }) eo fun h2 e2 sb => ?_⟩
    refine ⟨.ref s.heap.objs.size, _, I2.turned (t' := s.toks) (fun b o hb y => (sb.2 b hb).trans y) (by rw [upd_ne ne1]; exact f0) f1 f3 f4 f5, rfl, ⟨y, z, _, y1, z1, rfl, fr, rfl⟩, ⟨_, _, e2⟩, fun b hb => ?_⟩
    cases List.mem_singleton.mp hb
    rw [upd_ne ne1]
    exact f0
  done := by
    intro X hP hw' hK hc i pins s σ H E I hf st hg
    subst hP hw' hK
    obtain ⟨f0, f1, f2, f3, f4, f5⟩ := hf it (by simp)
    obtain ⟨hd, hl⟩ := hg
    obtain ⟨ho, _⟩ := I.hok d _ hd
    have hlen : keys.length = es.size := by have := hv.length; simpa using this
    obtain ⟨ok, ov, st⟩ := st
    exact nextI_end (I.ok.hd hc) st ⟨o, ho, hx, ht⟩ (by omega) fun h' kk => ⟨rfl, I.turned (t' := s.toks) (fun b q hb e => kk b q hb e) f0 f1 f3 f4 f5⟩
  self := fun A i s Q E st h => let ⟨_, _, st⟩ := st; PySem.W.kcp_self st h
end F

set_option Elab.async false
set_option linter.all false
set_option maxRecDepth 100000
set_option maxHeartbeats 4000000
namespace F
open PySem PySem.Spec PyProof.Rows L2 Hd
section
variable {prog : Program} {w : World} {A : Around} {E : Value → Shared → Prop} {s : Shared} {d it v : Addr} {es : Array DictEntry} {ep i : Nat}
theorem len_raw {Q : Value → Shared → Prop} (hd : (d == sysModules) = false) (x : RawD s.heap d es ep) (hfit : (es.size : Int) < 2 ^ 63)
    (h : Q (.int es.size (s.toks + 1)) { s with toks := s.toks + 1 + 1 }) : wpAny (model prog w) A (call (.builtin "len") [.ref d]) Q E s := by
  obtain ⟨o, ho, hc, hdat⟩ := id x
  refine Calls.call_function_entry kind_len plain_len entry_len (args_len1 _) ?_
  unfold Builtin.«len»
  refine wpAny_bind (m := oneArg "len" _) (wpAny_pure ?_)
  refine wpAny_bind (m := callSpecial? (.ref d) (Str.ofString "__len__")) (wpAny_callSpecial?_slot (name := Str.ofString "__len__") x.ty PySem.F.slot_dict_len
    (wpAny_call_entry PySem.F.slot_dict_len x.ty PySem.F.entry_dict_len ?_ (PySem.F.args_dict_len_1 _)))
  show wpAny _ _ (dictSize d >>= _) _ _ s
  unfold dictSize
  refine wpAny_bind (wpAny_bind (wpAny_dictEntries ho hdat (wpAny_pure ?_)))
  show wpAny _ _ (Builtin.Dict.pendingCount d >>= _) _ _ s
  refine wpAny_bind (wpAny_pendingCount_other hd ?_)
  refine wpAny_ret_mkInt ?_
  rw [Nat.add_zero]
  show wpAny _ _ _ _ _ { s with toks := s.toks + 1 }
  refine wpAny_bind (wpAny_holding (wpAny_pure ?_))
  refine wpAny_bind (wpAny_letGo ?_)
  show wpAny _ _ (if ((es.size : Nat) : Int) < 0 then _ else _) _ _ _
  rw [if_neg (by omega)]
  show wpAny _ _ (if ((es.size : Nat) : Int) ≥ 2 ^ 63 then _ else _) _ _ _
  rw [if_neg (by omega)]
  exact wpAny_bind (wpAny_mkInt (wpAny_pure ⟨_, rfl, h⟩))
theorem walkK {o : Obj} (hh : A.handled = none) (ne : d ≠ it) (ht : o.data = .dict es ep) : Walks prog w A it [it, d] [it] es.size (fun i v => ∃ e, es[i]? = some e ∧ v = e.key) (fun i h => h.IsKeyIter it d i es.size ep ∧ h.get? d = some o) where
  sub := fun b hb => by simp at hb; simp [hb]
  frame := fun _ _ _ st hk => ⟨let ⟨o, e, r⟩ := st.1; ⟨o, hk it (by simp) o e, r⟩, hk d (by simp) _ st.2⟩
  item := fun i s Q E hi st go => next_raw st.1 st.2 ht hi fun h' a b => by
    rw [Array.getElem?_eq_getElem hi]
    exact go _ h' s.toks ⟨_, Array.getElem?_eq_getElem hi, rfl⟩ ⟨a, (b.2 d ne).trans st.2⟩ fun c o hc e => (b.2 c fun z => hc (by simp [z])).trans e
  done := fun s Q E st go => next_end hh st.1 st.2 ht fun h' a => go h' s.toks fun c o hc e => a c o (fun z => hc (by simp [z])) e
  self := fun _ _ _ _ st k => wpAny_pyIter_keyiter st.1 k
end
/-- the raw entries of a dict with tuples as keys -/
theorem rawU {X : Cx} {pins : List (Addr × Obj)} {σ : L2.St} {H : Hp} {s : Shared} {a : Addr} {T : Addr → List V → Prop} {kvs : List (List Kt × V)} (I : Inv X pins σ H s) (e : Rd H a (.dT T kvs)) :
    kvs.length ≤ sizeLine ∧ (a == sysModules) = false ∧ ∃ es ep, RawD s.heap a es ep ∧ es.size = kvs.length := by
  obtain ⟨hz, hd, xs, rel, o, es, ep, ho, hx, ht, he, nd⟩ := (show ObjOk X.prog X.w H s.heap a (.dT T kvs) from e.ok I.hok)
  exact ⟨hz, hd, es, ep, ⟨o, ho, hx, ht⟩, by rw [size_of_entries he, Paired.length rel]⟩
def gLenU : List D → Option D
  | [d] => (dcK d).map fun p => .int p.1.length
  | _ => none
section
variable {X : Cx}
theorem call_gLenU : CallR X (.builtin "len") (rGC (gx X) gLenU) := by
  intro pins s σ H xs us Q I r h
  obtain ⟨O, ds, d, m, hx, hr, q⟩ := h
  match ds, hr with
  | [e], hr =>
    obtain ⟨p, e1, rfl⟩ := omap (show (dcK e).map _ = some d from hr)
    obtain ⟨v, rfl, hv⟩ := dws1 hx
    obtain ⟨ks, es⟩ := p
    obtain ⟨a, kvs, rfl, hp, hk, hd⟩ := dw_dcK hv e1
    obtain ⟨u, rfl, rx⟩ := vals1 r
    cases rx
    obtain ⟨hz, nd, es', ep, x, sz⟩ := rawU I hp
    have hz2 : (sizeLine : Int) < 2 ^ 63 := by decide
    refine len_raw nd x (by rw [sz]; omega) ?_
    refine ⟨.int es'.size, H, I.tok _, ⟨_, rfl⟩, ?_⟩
    have e3 : es'.size = ks.length := by rw [sz, ← hk, List.length_map]
    rw [e3]
    exact q _ _ (Same.refl _) (.int _)
/-- list(d) -/
def gLKeys : List D → Option D
  | [.dcf ks _] => some (.lst (ks.map tupK))
  | _ => none
theorem srcK {o : Obj} {d : Addr} {es : Array DictEntry} {ep : Nat} (nd : (d == sysModules) = false) (hx : o.ExactDict) (ht : o.data = .dict es ep) : PySem.W.KdlSrc X.prog X.w "dict" d d es.size (fun i v => ∃ e, es[i]? = some e ∧ v = e.key) (fun h => h.get? d = some o) where
  type := fun _ m => ⟨o, m, hx.1⟩
  there := fun _ m => ⟨Heap.lt_size m, Heap.lt_size m⟩
  keep := fun _ _ m k => k d (.inl rfl) o m
  notList := by decide
  notTuple := by decide
  hint := fun _ _ _ _ m q => PySem.W.kdl_hint_dict ⟨o, m, hx.1⟩ q
  iter := fun _ _ hh m => ⟨_, _, (fun _ _ q => iter_raw nd m hx ht q), walkK hh (Nat.ne_of_lt (Heap.lt_size m)) ht, ⟨⟨_, Heap.get?_push_size _ rfl, rfl, rfl⟩, Heap.get?_push_of_some _ m⟩⟩
def rLK (X : Cx) : List V → Hp → VK → Prop := fun xs H Q => ∃ a o kvs, xs = [.ref a] ∧ H a = some (.frz o (.dT (KTp X.K) kvs)) ∧ ∀ l keys, H l = none → KeysOf X.K H kvs keys → Q (.ref l) (upd H l (.lst keys))
theorem call_lkeys (hc : X.calm = true) : CallR X (.type "list") (rLK X) := by
  intro pins s σ H xs us Q I r h
  obtain ⟨a, o, kvs, rfl, e, q⟩ := h
  obtain ⟨u, rfl, rx⟩ := vals1 r
  cases rx
  obtain ⟨ho, hz, hd, xs, rel, o', es, ep, h1, hx, ht, he, nd⟩ := I.hok a _ e
  cases ho.symm.trans h1
  have sz : es.size = kvs.length := by rw [size_of_entries he, Paired.length rel]
  refine PySem.W.kdl_call (srcK hd hx ht) (I.ok.hd hc) ho (by omega) fun h' tk acc c kp oS it => ?_
  have ea : acc.toList = es.toList.map (·.key) := by
    obtain ⟨z, h⟩ := it
    refine List.ext_getElem (by simp [z]) fun i h1 h2 => ?_
    obtain ⟨y, ey, ev⟩ := h i acc[i] (by simp at h1; simp [h1])
    obtain ⟨lt, ey⟩ := Array.getElem?_eq_some_iff.mp ey
    simp only [Array.getElem_toList, List.getElem_map]
    rw [ev, ey]
  have rv : Vals (xs.map fun q => V.ref q.2.1) (es.toList.map (·.key)) := by rw [he]; exact refs_vals xs
  refine ⟨.ref _, _, I.laid (t' := tk) kp (Nat.le_refl _) (show ObjOk X.prog X.w _ h' _ (.lst (xs.map fun q => V.ref q.2.1)) from ⟨?_, es.toList.map (·.key), c, rv, ?_⟩), rfl, q _ _ (I.hok.fresh (Nat.le_refl _)) (keys_of rel)⟩
  · rw [List.length_map, ← Paired.length rel]; exact hz
  · rw [← ea]
    simpa using oS
end
theorem keysOf_dvs {G : Gx} {O : Addr → Prop} {H : Hp} : ∀ {kvs : List (List Kt × V)} {keys : List V}, KeysOf G.K H kvs keys → DVs G O H keys ((kvs.map (·.1)).map tupK)
  | _, _, .nil => .nil
  | _, _, .cons ⟨b, h1, h2⟩ t => by subst h1; exact .cons (tupK_dv h2) (keysOf_dvs t)
def fLKeys (fo : Me → Res D) : Me → Res D := fun m => (fo m).bind fun d => match d with
  | .dcf ks _ => .ok (.lst (ks.map tupK))
  | _ => .stuck
section
variable {X : Cx} {E : XK} {o : Expr} {fo : Me → Res D} {p pos apos cpos : Pos}
theorem fn_lkeys (hc : X.calm = true) (hg : Gl X "list") (hm : X.mg "list" = none) (ho : FE X E o fo)
    (hs : starEach [o] X.env = (false, eval o X.env) :: starEach [] X.env := by rfl) :
    FN X E (.Call (.Name "list" p) [o] [] pos) (fLKeys fo) :=
  pe_weak (pe_callTy (call_lkeys hc) hg hm bt_list (pa_cons ho pa_nil hs) (by decide) (by decide) hs rfl) fun σ H Q h => by
    obtain ⟨O0, M0, H0, ow, m, R, q⟩ := h
    refine ⟨O0, M0, H0, ow, m, R, q.bind.imp (Same.refl _) fun d q v H1 g1 hv => ?_⟩
    cases d with
    | dcf ks ds =>
      cases hv with
      | dcf e1 e2 e3 hs =>
        subst e2
        refine ⟨_, _, _, rfl, e1, fun l keys hl hk => ?_⟩
        exact q l _ (g1.trans (same_new hl _)) (g1.free hl) ⟨_, upd_same, (keysOf_dvs hk).mono (same_new hl _)⟩
    | _ => exact q.elim
end
/-! ### d.items() -/
section
variable {X : Cx} {tg : Expr}
def ItemsIs (p a : Addr) (h : Heap) : Prop := h.IsItemsView p a
def rItems (X : Cx) : V → List V → Hp → VK → Prop := fun x vs H Q => ∃ a o kvs, x = .ref a ∧ vs = [] ∧ H a = some (.frz o (.dT (KTp X.K) kvs)) ∧ ∀ p, H p = none → Q (.ref p) (upd H p (.ext (ItemsIs p a)))
theorem mt_items : MtR X "dict.items" (rItems X) := by
  intro pins s σ H x vs v us Q I rx rv h
  obtain ⟨a, o, kvs, rfl, rfl, e, q⟩ := h
  cases rx
  have hus := rv.zero
  subst hus
  obtain ⟨hz, hd, es, ep, x, _⟩ := rawU I (.inr ⟨_, e⟩)
  refine items_raw hd x ?_
  exact ⟨.ref _, _, I.laid (t' := s.toks) (fun b o e => Heap.get?_push_of_some _ e) (Nat.le_refl _) (show ObjOk X.prog X.w _ _ _ (.ext (ItemsIs s.heap.objs.size a)) from ⟨⟨_, Heap.get?_push_size _ rfl, rfl, rfl⟩, ⟨_, Heap.get?_push_size _ rfl⟩, fun h1 h2 ⟨o, e, r⟩ k => ⟨o, k o e, r⟩⟩), rfl, q _ (I.hok.fresh (Nat.le_refl _))⟩
def iItems (K : PySem.W.Frag) (tl : TE) : TI := fun σ H R => tl σ H fun x H1 => ∃ p d o kvs, x = .ref p ∧ H1 p = some (.ext (ItemsIs p d)) ∧ H1 d = some (.frz o (.dT (KTp K) kvs)) ∧ ∀ keys, KeysOf K H1 kvs keys → R (Itm d o (.dT (KTp K) kvs) keys (kvs.map (·.2))) H1
theorem pi_items {elts : List Expr} {x1} {pt : Pos} {l : Expr} {tl : TE} (hl : PE X l tl) : PI X (.Tuple elts x1 pt) l (iItems X.K tl) := by
  intro pins s σ H R I h
  refine thn (hl pins s σ H _ I h) fun v s1 ⟨x, H1, I1, r1, q1⟩ => ?_
  obtain ⟨p, d, o, kvs, rfl, ep, e, q⟩ := q1
  cases r1
  obtain ⟨ho, z, y, xs, r, o', es, ep', h1, h2, h3, h4, h5⟩ := I1.hok d _ e
  cases ho.symm.trans h1
  obtain ⟨vw, _⟩ := I1.hok p _ ep
  have fp : ∀ b ∈ [s1.heap.objs.size], FpOk X pins H1 b := fun b hb => by
    cases List.mem_singleton.mp hb
    exact I1.fpOk (Nat.le_refl _) (I1.hok.fresh (Nat.le_refl _))
  refine iterI vw ⟨o, ho, h2, h3⟩ ?_
  refine ⟨s1.heap.objs.size, [s1.heap.objs.size], _, _, H1, rfl, I1.kept (t' := s1.toks) fun b o e => Heap.get?_push_of_some _ e, turn_items _ d o _ es ep' (xs.map fun q => V.ref q.2.1) (kvs.map (·.2)) h2 h3 ?_ ?_, ⟨_, _, Heap.get?_push_size _ rfl⟩, fp, q _ (keys_of r)⟩
  · rw [h4]
    exact refs_vals xs
  · rw [h4, List.map_map]
    clear h4 h5 q e z ho h1
    induction r with
    | nil => exact .nil
    | cons h _ ih => exact .cons h.2.2 ih
def itemsD : List (List Kt) → List D → List D
  | k :: ks, d :: ds => .tup [tupK k, d] :: itemsD ks ds
  | _, _ => []
theorem itemsD_len : ∀ {ks : List (List Kt)} {ds : List D}, ks.length = ds.length → (itemsD ks ds).length = ks.length
  | [], [], _ => rfl
  | _ :: ks, _ :: ds, h => by simp [itemsD]; exact itemsD_len (by simpa using h)
theorem itemsD_at : ∀ {ks : List (List Kt)} {ds : List D} {i : Nat} {k : List Kt} {d : D}, ks[i]? = some k → ds[i]? = some d → (itemsD ks ds)[i]? = some (.tup [tupK k, d])
  | [], _, _, _, _, h, _ => by simp at h
  | _ :: _, [], _, _, _, _, h => by simp at h
  | k :: ks, d :: ds, 0, _, _, h, g => by simp at h g; subst h g; rfl
  | k :: ks, d :: ds, i + 1, _, _, h, g => by simpa [itemsD] using itemsD_at (i := i) (by simpa using h) (by simpa using g)
def fItI (f : Me → Res D) : Me → Res (List D) := fun m => (f m).bind fun d => match d with
  | .dcf ks ds => .ok (itemsD ks ds)
  | _ => .stuck
theorem it_items {G : Gx} {O : Addr → Prop} {H : Hp} {d : Addr} {o : Obj} {kvs : List (List Kt × V)} {ds : List D} {keys : List V} (m : ∀ b, O b → MutK (H b)) (e : H d = some (.frz o (.dT (KTp G.K) kvs))) (hk : KeysOf G.K H kvs keys) (hd : DVs G O H (kvs.map (·.2)) ds) :
    ItOk G (Itm d o (.dT (KTp G.K) kvs) keys (kvs.map (·.2))) (itemsD (kvs.map (·.1)) ds) (fun O' H2 => Ev O H O' H2) := by
  intro O' H2 ev
  have e2 : H2 d = some (.frz o (.dT (KTp G.K) kvs)) := ev.2 _ _ e (not_mut m e mut_frz)
  have hl := hk.len
  have hl2 := dvs_len hd
  have hln : (itemsD (kvs.map (·.1)) ds).length = kvs.length := by rw [itemsD_len (by simpa using hl2)]; simp
  refine ⟨fun i hi => ⟨e2, by rw [hln] at hi; omega⟩, fun i x H' hi y => ?_, e2, by rw [hln]; omega⟩
  obtain ⟨y, z, l, h1, h2, rfl, fr, rfl⟩ := y
  obtain ⟨p, b, q1, rfl, q3⟩ := (keys_kp m ev.2 hk).at h1
  obtain ⟨d', w1, w2⟩ := dvs_get (hd.go m ev) h2
  exact ⟨same_new fr _, .tup [tupK p.1, d'], itemsD_at (by simp [q1]) w1, .tup (SqU.of upd_same) (.cons ((tupK_dv q3).mono (same_new fr _)) (.cons (w2.mono (same_new fr _)) .nil))⟩
theorem fi_items {E : XK} {f : Me → Res D} {elts : List Expr} {x1} {pt apos cpos : Pos} {o : Expr} (h : FE X E o f) (hbase : attributeBase o "items" X.env (eval o X.env) = eval o X.env := by rfl) (hline : (apos.endLine == cpos.line) = true := by rfl) :
    FI X E (.Tuple elts x1 pt) (.Call (.Attribute o "items" apos) [] [] cpos) (fItI f) :=
  pi_weak (pi_items (pe_bm0 PySem.F.plainAttrs_dict PySem.F.slot_dict_items PySem.F.type_dict_items mt_items h hbase hline)) fun σ H R ⟨O0, M0, H0, ow, m, Re, q⟩ => ⟨O0, M0, H0, ow, m, Re, q.bind.imp (Same.refl _) fun d q v H' g hv => by
    cases d with
    | dcf ks ds =>
      cases hv with
      | @dcf a ob kvs _ _ _ e1 e2 e3 hs =>
        subst e2 e3
        refine ⟨.inr (.inr (.inl ⟨rfl, .inr ⟨_, kvs, .inr ⟨ob, e1⟩⟩⟩)), a, ob, kvs, rfl, rfl, e1, fun b hb => ?_⟩
        have ne : a ≠ b := fun z => by rw [z, hb] at e1; cases e1
        have gb := same_new (o := .ext (ItemsIs b a)) hb
        refine ⟨b, a, ob, kvs, rfl, upd_same, by rw [upd_ne ne]; exact e1, fun keys hk => ?_⟩
        exact q _ _ (g.trans gb) (it_items ((Re.mono (g.trans gb)).mutk) (by rw [upd_ne ne]; exact e1) hk (hs.mono gb))
    | _ => exact q.elim⟩
end
end F

set_option Elab.async false
set_option linter.all false
set_option maxRecDepth 100000
set_option maxHeartbeats 4000000
namespace F
open PySem PySem.Spec PyProof.Rows L2 Hd
/-! ### defs that change what is handed in at the place p -/
def ownA (m : Me) (i : Nat) : Option (Bool × D) := match m[i]? with
  | some (.ow d) => some (true, d)
  | some (.io d) => some (false, d)
  | _ => none
def putA (m : Me) (i : Nat) (k : Bool) (d : D) : Me := m.set i (if k then .ow d else .io d)
section
variable {G : Gx} {O0 M0 : Addr → Prop} {H0 : Hp} {ow : Os} {σ : L2.St} {H : Hp} {m : Me}
theorem ownA_is (R : Rel G O0 M0 H0 ow σ H m) {i : Nat} {k : Bool} {d : D} (e : ownA m i = some (k, d)) : ∃ a, ow i = some a ∧ σ[i]? = some (some (.ref a)) ∧ OV G (Ow O0 ow) H a d ∧ ((m[i]? = some (.ow d) ∧ k = true) ∨ (m[i]? = some (.io d) ∧ k = false)) := by
  unfold ownA at e
  split at e
  · rename_i q
    cases e
    obtain ⟨a, e1, e2, e3, e4⟩ := R.slot i _ q
    exact ⟨a, e1, e3, e4, .inl ⟨q, rfl⟩⟩
  · rename_i q
    cases e
    obtain ⟨a, e1, e2, e3, e4⟩ := R.slot i _ q
    exact ⟨a, e1, e3, e4, .inr ⟨q, rfl⟩⟩
  · cases e
end
/-- x put in at the place p -/
def insP {α : Type} (p : Nat) (x : α) (l : List α) : List α := l.take p ++ x :: l.drop p
theorem insP_len {α : Type} {p : Nat} {x : α} {l : List α} : (insP p x l).length = l.length + 1 := by
  simp [insP]; omega
theorem insP_at {α : Type} {p : Nat} {x : α} {l : List α} (h : p ≤ l.length) : (insP p x l)[p]? = some x := by
  unfold insP
  rw [List.getElem?_append_right (by simp; omega)]
  simp [Nat.min_eq_left h]
theorem insP_lo {α : Type} {p i : Nat} {x : α} {l : List α} (h : i < p) (hp : p ≤ l.length) : (insP p x l)[i]? = l[i]? := by
  unfold insP
  rw [List.getElem?_append_left (by simp; omega), List.getElem?_take_of_lt h]
theorem insP_hi {α : Type} {p i : Nat} {x : α} {l : List α} (h : p ≤ i) (hp : p ≤ l.length) : (insP p x l)[i + 1]? = l[i]? := by
  unfold insP
  rw [List.getElem?_append_right (by simp; omega)]
  have : i + 1 - (l.take p).length = (i - p) + 1 := by simp [Nat.min_eq_left hp]; omega
  rw [this, List.getElem?_cons_succ, List.getElem?_drop]
  congr 1
  omega
def spIOp (G : Gx) (p : Nat) (Φ : List D → D → Res (D × D)) : Sp := fun vs H Q E => ∃ O a us ds d, vs = insP p (.ref a) us ∧ p ≤ ds.length ∧ (∀ b, O b → MutK (H b)) ∧ O a ∧ OV G O H a d ∧ DVs G O H us ds ∧ match Φ ds d with
  | .ok (r, d') => ∀ v H', Kp (· = a) H H' → OV G O H' a d' → DV G O H' v r → Q v H'
  | .exc c => ∀ C H', G.mg c = some (.ref C) → Kp (· = a) H H' → E (.ref C) none H'
  | .stuck => False
def ioAtP (m : Me) (p : Nat) : Option D := match m[p]? with
  | some (.io d) => some d
  | _ => none
def runIOp (p N n : Nat) (g : Me → Res (Fl × Me)) : List D → D → Res (D × D) := fun ds d => if ds.length + 1 = n then match g (insP p (.io d) (ds.map Sl.fz) ++ List.replicate (N - n) Sl.un) with
    | .ok (.rt _ r, m') => (ofO (ioAtP m' p)).bind fun d' => .ok (r, d')
    | .ok (.nx, m') => (ofO (ioAtP m' p)).bind fun d' => .ok (.non, d')
    | .exc c => .exc c
    | _ => .stuck
  else .stuck
theorem ioAtP_is {m : Me} {p : Nat} {d : D} (h : ioAtP m p = some d) : m[p]? = some (.io d) := by
  unfold ioAtP at h
  split at h
  · rename_i q; cases h; exact q
  · cases h
abbrev FIOp (P : Program) (w : World) (K : PySem.W.Frag) (mg : Str → Option Value) (base : Heap) (k : Nat) (x : Str) (ps : List Str) (p : Nat) (Φ : List D → D → Res (D × D)) : Prop := Hd.Fn P w K mg base k x ps (spIOp ⟨K, mg⟩ p Φ)
theorem io_setP {O : Addr → Prop} {a : Addr} {p : Nat} (h : O a) : Ow (fun b => O b ∧ b ≠ a) (owS (fun _ => none) p (some a)) = O := by
  funext b
  refine propext ⟨fun z => ?_, fun z => ?_⟩
  · rcases z with z | ⟨i, e⟩
    · exact z.1
    · by_cases q : i = p
      · subst q; rw [owS_at] at e; cases e; exact h
      · rw [owS_ne q] at e; cases e
  · by_cases q : b = a
    · subst q; exact .inr ⟨p, owS_at⟩
    · exact .inl ⟨z, q⟩
theorem start_iop {G : Gx} {O : Addr → Prop} {H : Hp} {N : List Str} {a : Addr} {us : List V} {ds : List D} {d : D} {n p : Nat} (hp : p ≤ ds.length) (hm : ∀ b, O b → MutK (H b)) (oa : O a) (ho : OV G O H a d) (hd : DVs G O H us ds) (hn : ds.length + 1 = n) (hN : n ≤ N.length) :
    RelS G (fun b => O b ∧ b ≠ a) (· = a) H (owS (fun _ => none) p (some a)) (L2.start N (insP p (.ref a) us)) H (insP p (.io d) (ds.map Sl.fz) ++ List.replicate (N.length - n) Sl.un) := by
  have hl := dvs_len hd
  have nz : ∀ i, i ≠ p → owS (fun _ => none) p (some a) i = none := fun i h => owS_ne h
  have hlen : (insP p (V.ref a) us).length = n := by rw [insP_len, hl]; exact hn
  have hst : ∀ i x, (insP p (V.ref a) us)[i]? = some x → (L2.start N (insP p (.ref a) us))[i]? = some (some x) := fun i x e => by
    have hi : i < (insP p (V.ref a) us).length := (List.getElem?_eq_some_iff.mp e).1
    unfold L2.start
    rw [List.getElem?_append_left (by simpa using hi), List.getElem?_map, e]
    rfl
  have hml : (insP p (Sl.io d) (ds.map Sl.fz)).length = n := by rw [insP_len, List.length_map]; exact hn
  have key : ∀ (i : Nat) (s : Sl), (insP p (Sl.io d) (ds.map Sl.fz) ++ List.replicate (N.length - n) Sl.un)[i]? = some s →
      (i = p ∧ s = .io d) ∨ (i ≠ p ∧ ∃ d1 x, s = .fz d1 ∧ DV G O H x d1 ∧ (insP p (V.ref a) us)[i]? = some x) ∨ (i ≠ p ∧ s = .un) := fun i s e => by
    by_cases hi : i < n
    · rw [List.getElem?_append_left (by rw [hml]; exact hi)] at e
      by_cases q : i = p
      · subst q
        rw [insP_at (by simpa using hp)] at e
        cases e
        exact .inl ⟨rfl, rfl⟩
      · refine .inr (.inl ⟨q, ?_⟩)
        by_cases lt : i < p
        · rw [insP_lo lt (by simpa using hp), List.getElem?_map] at e
          cases ed : ds[i]? with
          | none => rw [ed] at e; cases e
          | some d1 =>
            rw [ed] at e
            cases e
            obtain ⟨x, hx, dx⟩ := dvs_at hd ed
            exact ⟨d1, x, rfl, dx, by rw [insP_lo lt (by omega)]; exact hx⟩
        · obtain ⟨j, rfl⟩ : ∃ j, i = j + 1 := ⟨i - 1, by omega⟩
          rw [insP_hi (by omega) (by simpa using hp), List.getElem?_map] at e
          cases ed : ds[j]? with
          | none => rw [ed] at e; cases e
          | some d1 =>
            rw [ed] at e
            cases e
            obtain ⟨x, hx, dx⟩ := dvs_at hd ed
            exact ⟨d1, x, rfl, dx, by rw [insP_hi (by omega) (by omega)]; exact hx⟩
    · rw [List.getElem?_append_right (by rw [hml]; omega), List.getElem?_replicate] at e
      split at e
      · cases e; exact .inr (.inr ⟨by omega, rfl⟩)
      · cases e
  refine ⟨⟨?_, fun b o e _ => e, fun b z => ?_, fun b z => by rw [io_setP oa] at z; exact hm b z, fun i b e => ?_, fun i j b e1 e2 => ?_, fun i hi => ?_, fun i s e => ?_⟩, fun j d' e => ?_⟩
  · rw [List.length_append, hml, List.length_replicate]
    unfold L2.start
    rw [List.length_append, List.length_map, hlen, List.length_replicate]
  · have z : b = a := z
    rw [z]
    rcases ho.mut with ⟨_, e⟩ | ⟨_, e⟩ | ⟨_, e⟩ <;> rw [e] <;> simp
  · by_cases q : i = p
    · subst q; rw [owS_at] at e; cases e; exact fun z => z.2 rfl
    · rw [nz i q] at e; cases e
  · by_cases q : i = p
    · by_cases q' : j = p
      · rw [q, q']
      · rw [nz j q'] at e2; cases e2
    · rw [nz i q] at e1; cases e1
  · exact nz i (by rw [List.length_append, hml] at hi; omega)
  · rw [io_setP oa]
    rcases key i s e with ⟨rfl, rfl⟩ | ⟨q, d1, x, rfl, dx, hx⟩ | ⟨q, rfl⟩
    · exact ⟨a, owS_at, rfl, hst _ _ (insP_at (by omega)), ho⟩
    · exact ⟨nz _ q, x, hst _ _ hx, dx⟩
    · exact nz _ q
  · rcases key j _ e with ⟨_, z⟩ | ⟨_, _, _, z, _⟩ | ⟨_, z⟩ <;> cases z
section
variable {P : Program} {w : World} {K : PySem.W.Frag} {mg : Str → Option Value} {base : Heap}
theorem fun_okIOp {x qual : Str} {st : Stmt} {f : Addr} {fd : FuncData} {N ps : List Str} {k : Nat} (p : Nat) {g : Me → Res (Fl × Me)} (Fu : Fun K x qual st f fd) (S : FnScope N ps (defScope st)) (hN : ps.length ≤ N.length)
    (hbody : ∀ (cdv : Value) (A : Around) (outer : List Env) (s : Shared) (H : Hp) (E : XK), Room k (A.deeper (envOfC qual (defScope st) s.heap.objs.size f cdv)) →
      FSs (cxOf (CX1 P w) P w K mg base N qual (defScope st) f cdv A outer s H E) E (defBody st) g) : FnOk P w K mg base (CX1 P w) (k + 1) f fd ps (spIOp ⟨K, mg⟩ p (runIOp p N.length ps.length g)) := by
  have cond : ∀ {ds : List D} {d : D}, runIOp p N.length ps.length g ds d ≠ .stuck → ds.length + 1 = ps.length := fun {ds d} h => by
    by_cases z : ds.length + 1 = ps.length
    · exact z
    · unfold runIOp at h; rw [if_neg z] at h; exact absurd rfl h
  refine fun_okx Fu S (fun vs H Q E h => ?_) (fun cdv A outer s H vs Q E hr h => ?_)
  · obtain ⟨O, a, us, ds, d, rfl, _, _, _, _, hd, q⟩ := h
    rw [insP_len, dvs_len hd]
    exact cond fun z => by rw [z] at q; exact q
  · obtain ⟨O, a, us, ds, d, rfl, hp, hm, oa, ho, hd, q⟩ := h
    have hn := cond (ds := ds) (d := d) fun z => by rw [z] at q; exact q
    unfold runIOp at q
    rw [if_pos hn] at q
    refine ⟨_, hbody cdv A outer s H E hr, _, _, H, _, _, start_iop hp hm oa ho hd hn hN, ?_⟩
    have fin : ∀ {ow' σ' H' m' d'}, RelS (⟨K, mg⟩ : Gx) (fun b => O b ∧ b ≠ a) (· = a) H ow' σ' H' m' → m'[p]? = some (Sl.io d') → Kp (· = a) H H' ∧ OV ⟨K, mg⟩ O H' a d' ∧ ∀ v r, DV (⟨K, mg⟩ : Gx) (Ow (fun b => O b ∧ b ≠ a) ow') H' v r → DV ⟨K, mg⟩ O H' v r := fun {ow' σ' H' m' d'} R e => by
      obtain ⟨a', e1, e2, e3, e4⟩ := R.slot p _ e
      have e2 : a' = a := e2
      subst e2
      have sub : ∀ b, O b → Ow (fun b => O b ∧ b ≠ a') ow' b ∨ H' b = none := fun b z => by
        by_cases q : b = a'
        · exact .inl (.inr ⟨p, by rw [q]; exact e1⟩)
        · exact .inl (.inl ⟨z, q⟩)
      exact ⟨R.keep, e4.anti sub, fun v r h => h.anti sub⟩
    cases z : g (insP p (.io d) (ds.map Sl.fz) ++ List.replicate (N.length - ps.length) Sl.un) with
    | exc c => rw [z] at q; exact fun C H' e kp => q C H' e kp
    | stuck => rw [z] at q; exact q.elim
    | ok b =>
      obtain ⟨fl, m'⟩ := b
      rw [z] at q
      cases fl with
      | bk => exact q.elim
      | ct => exact q.elim
      | nx =>
        intro ow' σ' H' R' _
        cases e0 : ioAtP m' p with
        | none => simp only [e0] at q; exact q.elim
        | some es' =>
          simp only [e0] at q
          obtain ⟨k1, k2, k3⟩ := fin R' (ioAtP_is e0)
          exact q _ H' k1 k2 .non
      | rt fr r =>
        intro v ow' σ' H' R' _ hv _
        cases e0 : ioAtP m' p with
        | none => simp only [e0] at q; exact q.elim
        | some es' =>
          simp only [e0] at q
          obtain ⟨k1, k2, k3⟩ := fin R' (ioAtP_is e0)
          exact q v H' k1 k2 (k3 _ _ hv)
theorem no_iop {k p : Nat} {f : Addr} {fd : FuncData} {ps : List Str} : FnOk P w K mg base (CX1 P w) k f fd ps (spIOp ⟨K, mg⟩ p fun _ _ => .stuck) :=
  ⟨fun _ _ _ _ ⟨_, _, _, _, _, _, _, _, _, _, _, q⟩ => q.elim, fun _ _ _ _ _ _ _ _ _ _ _ _ _ ⟨_, _, _, _, _, _, _, _, _, _, _, q⟩ => q.elim⟩
end
/-! arguments with a name of one's own among them -/
def tAH (G : Gx) (E : XK) (i p : Nat) (f : Me → Res (List D)) : TA := fun σ H Q => ∃ O0 M0 H0 ow m a, Rel G O0 M0 H0 ow σ H m ∧ σ[i]? = some (some (.ref a)) ∧ Pu G E (f m) H fun ds => p ≤ ds.length ∧ ∀ us H', Same H H' → DVs G (Ow O0 ow) H' us ds → Q (insP p (.ref a) us) H'
abbrev FAH (X : Cx) (E : XK) (es : List Expr) (i p : Nat) (f : Me → Res (List D)) : Prop := PA X es (tAH (gx X) E i p f)
section
variable {X : Cx} {E : XK} {e : Expr} {es : List Expr} {fa : Me → Res D} {fs : Me → Res (List D)} {i p : Nat} {y : Str} {np : Pos}
theorem fah_here (ha : FAE X E es fs) (hN : X.N[i]? = some y := by rfl) (hv : Vis X.env.scope y := by first | exact Or.inl rfl | exact Or.inr (Or.inl rfl) | exact Or.inr (Or.inr rfl)) (hd : (y == ("__debug__" : Str)) = false := by decide) (hcd : (y == ("__classdict__" : Str)) = false := by decide)
    (he : starEach (.Name y np :: es) X.env = (false, eval (.Name y np) X.env) :: starEach es X.env := by rfl) : FAH X E (.Name y np :: es) i 0 fs :=
  pa_weak (pa_cons (pe_var hN hv hd hcd) ha he) fun σ H Q ⟨O0, M0, H0, ow, m, a, R, ea, q⟩ =>
    ⟨_, ea, O0, M0, H0, ow, m, R, q.imp (Same.refl _) fun ds q vs H' g hv => q.2 vs H' g hv⟩
theorem fah_cons (ha : FE X E e fa) (hr : FAH X E es i p fs) (he : starEach (e :: es) X.env = (false, eval e X.env) :: starEach es X.env := by rfl) : FAH X E (e :: es) i (p + 1) (fCons fa fs) :=
  pa_weak (pa_cons ha hr he) fun σ H Q ⟨O0, M0, H0, ow, m, a, R, ea, q⟩ => ⟨O0, M0, H0, ow, m, R, q.bind.imp (Same.refl _) fun d q v H1 g1 hv =>
    ⟨O0, M0, H0, ow, m, a, R.mono g1, ea, q.bind.imp g1 fun ds q => ⟨by have := q.1; simpa using this, fun us H2 g2 hus => q.2 _ H2 (g1.trans g2) (.cons (hv.mono g2) hus)⟩⟩⟩
end
def fxIOp (Φ : List D → D → Res (D × D)) (i p : Nat) (fs : Me → Res (List D)) : Me → Res (D × Me) := fun m => (ofO (ownA m i)).bind fun o => (fs m).bind fun ds => if p ≤ ds.length then (Φ ds o.2).bind fun r => .ok (r.1, putA m i o.1 r.2) else .stuck
theorem Xs.at {G : Gx} {E : XK} {O0 M0 : Addr → Prop} {H0 H H1 : Hp} {ow : Os} {σ : L2.St} {α : Type} {r : Res (α × Me)} {k : α → Hp → Prop} (h : Xs G E O0 M0 H0 ow σ H r k) (g : Same H H1) : Xs G E O0 M0 H0 ow σ H1 r k := h.imp (Go.refl g) fun _ _ _ _ _ _ q => q
theorem fx_iop {X : Cx} {E : XK} {e0 : Expr} {es : List Expr} {fs : Me → Res (List D)} {pos pp : Pos} {j k p : Nat} {x : Str} {ps : List Str} {Φ : List D → D → Res (D × D)} (i : Nat) (Fh : FIOp X.prog X.w X.K X.mg X.base k x ps p Φ) (hr : Room j X.A) (hx : Passes (CX1 X.prog X.w) X E) (ha : FAH X E (e0 :: es) i p fs) (hk : k ≤ j := by decide) (hg : Gl X x := by rfl)
    (hdb : (x == ("__debug__" : Str)) = false := by decide) (he : starEach (e0 :: es) X.env = (false, eval e0 X.env) :: starEach es X.env := by rfl) (hpl : (backTo pos (starEach es X.env)).any (·.1) = false := by rfl) :
    FX X E (.Call (.Name x pp) (e0 :: es) [] pos) (fxIOp Φ i p fs) := by
  obtain ⟨f, fd, G, b, kp, m⟩ := Fh.ex
  refine pe_weak (pe_call G (hr.mono hk) hg m kp b .nil hx ha hdb he hpl) fun σ H Q ⟨O0, M0, H0, ow, m, R, q⟩ => ?_
  obtain ⟨o, ho, q⟩ := (Xs.pu R.toRel q).ofO
  obtain ⟨kk, d0⟩ := o
  obtain ⟨a, e1, e2, e4, e5⟩ := ownA_is R.toRel ho
  refine ⟨O0, M0, H0, ow, m, a, R.toRel, e2, (Xs.pu R.toRel q).imp (Same.refl _) fun ds q => ?_⟩
  by_cases hp : p ≤ ds.length
  case neg => rw [if_neg hp] at q; exact q.elim
  rw [if_pos hp] at q
  refine ⟨hp, fun us H1 g1 hus => ?_⟩
  have R1 := R.mono g1
  have q : Xs (gx X) E O0 M0 H0 ow σ H1 ((Φ ds d0).bind fun r => .ok (r.1, putA m i kk r.2)) _ := q.at g1
  show spIOp _ _ _ (insP p (V.ref a) us ++ []) _ _ _
  rw [List.append_nil]
  refine ⟨Ow O0 ow, a, us, ds, d0, rfl, hp, R1.mutk, .inr ⟨i, e1⟩, e4.mono g1, hus, ?_⟩
  cases z : Φ ds d0 with
  | stuck => rw [z] at q; exact q.elim
  | exc c =>
    rw [z] at q
    refine fun C H' e g => q C H' e fun b o e n => ?_
    refine g b o (R1.keep b o e n) fun w => ?_
    subst w
    rcases e5 with ⟨s, _⟩ | ⟨s, _⟩
    · obtain ⟨a', s1, s2, _⟩ := R.slot i _ s
      rw [e1] at s1; cases s1
      rw [s2] at e; cases e
    · obtain ⟨a', s1, s2, _⟩ := R.slot i _ s
      rw [e1] at s1; cases s1
      exact n s2
  | ok r =>
    obtain ⟨d, d'⟩ := r
    rw [z] at q
    intro v H' g ov hv
    refine q H' (R1.chg (d := d0) (d' := d') e1 g ov ?_) (Go.chg e1 g ov) v hv
    rcases e5 with ⟨s, rfl⟩ | ⟨s, rfl⟩
    · exact .inl ⟨s, rfl⟩
    · exact .inr ⟨s, rfl⟩
/-! a call as a statement -/
def gExX (f : Me → Res (D × Me)) : Me → Res (Fl × Me) := fun m => (f m).bind fun p => .ok (.nx, p.2)
theorem fs_exprX {X : Cx} {E : XK} {e : Expr} {fa : Me → Res (D × Me)} {pos : Pos} (he : FX X E e fa) (hs : swapsWith e none pos.line X.env = pure false := by rfl) : FS X E (.Expr e pos) (gExX fa) := ps_weak (ps_expr he hs) fun W σ H ⟨O0, M0, H0, ow, m, R, q⟩ => by
  refine ⟨O0, M0, H0, ow, m, R, (Xs.ss (k := fun d m' => .ok (.nx, m')) q).imp (Go.refl (Same.refl _)) fun d H1 m1 R1 g1 e1 q v hv => ?_⟩
  exact q m1 e1 R1 ow σ H1 R1 (Go.refl (Same.refl _))
end F

set_option Elab.async false
set_option linter.all false
set_option maxRecDepth 100000
set_option maxHeartbeats 4000000
namespace F
open PySem PySem.Spec PyProof.Rows L2 Hd
/-! ### x, y = a, b -/
def gPar (i j : Nat) (fs : Me → Res (List D)) : Me → Res (Fl × Me) := fun m => (fs m).bind fun ds => match ds with
  | [d, e] => .ok (.nx, (m.set i (.fz d)).set j (.fz e))
  | _ => .stuck
theorem fs_par {X : Cx} {E : XK} {i j : Nat} {x y : Str} {a b : Expr} {fs : Me → Res (List D)} {px py pt pos : Pos} {kt k2 pt2} (hc : X.calm = true) (hN : X.N.Nodup) (hi : X.N[i]? = some x) (hj : X.N[j]? = some y) (hij : i ≠ j)
    (hx : X.env.scope.names.lookup x = some .local) (hy : X.env.scope.names.lookup y = some .local) (ha : FAE X E [a, b] fs)
    (hw : swappedStores [.Tuple [.Name x px, .Name y py] kt pt] (.Tuple [a, b] k2 pt2) X.env = pure (some [x, y]) := by rfl)
    (hs : swapsWithSole [.Tuple [.Name x px, .Name y py] kt pt] (.Tuple [a, b] k2 pt2) pos.line X.env = pure false := by rfl) :
    FS X E (.Assign [.Tuple [.Name x px, .Name y py] kt pt] (.Tuple [a, b] k2 pt2) pos) (gPar i j fs) :=
  ps_weak (ps_par hc hN hi hj hij hx hy ha hw hs) fun W σ H ⟨O0, M0, H0, ow, m, R, q⟩ => ⟨O0, M0, H0, ow, m, R.toRel, (Ss.pu R.toRel q).imp (Same.refl _) fun ds q vs H' g hv => by
    match ds, vs, hv, q with
    | [d, e], _, .cons (v := v1) h1 (.cons (v := v2) h2 .nil), q =>
      refine ⟨v1, v2, rfl, ?_⟩
      have R1 := (R.mono g).set (i := i) h1
      have R2 := R1.set (i := j) (h2.anti fun b z => .inl z.sub)
      exact q _ _ _ R2 (((Go.refl g).trans Go.set).trans Go.set)⟩
/-! ### a product with a small factor -/
def gMulZ : D → D → Option D
  | .int i, .int j => if i.natAbs < 2 ^ 63 ∨ j.natAbs < 2 ^ 63 then some (.int (i * j)) else none
  | _, _ => none
theorem bits_small {i : Int} (h : i.natAbs < 2 ^ 63) : Builtin.Int.intBits i ≤ 64 := by
  unfold Builtin.Int.intBits
  split
  · exact Nat.zero_le _
  · have := log_lt h (by decide)
    omega
theorem op_gMulZ {X : Cx} : OpR X (binaryOp .Mult) (rG (gx X) gMulZ) := by
  intro pins s σ H x y v u Q I rx ry h
  obtain ⟨O, d, e, r, m, hx, hy, hr, q⟩ := h
  match d, e, hr with
  | .int i, .int j, hr =>
    obtain ⟨z, rfl⟩ := oif hr
    refine (show OpR X (binaryOp .Mult) (rI (fun i j => IntMulOk i j) fun i j => .int (i * j)) from opI fun _ _ _ _ _ _ _ hc q => mul_int q hc) pins s σ H x y v u Q I rx ry ⟨i, j, dw_int hx, dw_int hy, ?_, q _ _ (Same.refl _) (.int _)⟩
    rcases z with z | z
    · exact IntMulOk.of_left (bits_small z)
    · exact IntMulOk.of_right (bits_small z)
end F

set_option Elab.async false
set_option linter.all false
set_option maxRecDepth 100000
set_option maxHeartbeats 4000000
namespace F
open PySem PySem.NumText
/-! ### the figures of a whole number -/
def dg (n : Nat) : List Nat := (Nat.toDigits 10 n).map Char.toNat
def sg (i : Int) : List Nat := (if i < 0 then [45] else []) ++ dg i.natAbs
def tx (l : List Nat) : Str := ⟨l.toArray⟩
/-! ### one sign in a text -/
end F

set_option Elab.async false
set_option linter.all false
set_option maxRecDepth 100000
set_option maxHeartbeats 4000000
namespace Pk
open PySem L2 Hd F
noncomputable section
-- common_divisor [(0, 'first'), (1, 'second'), (2, 'great'), (3, 'small'), (4, 'rest')]
def T_common_divisor_1 : Me → Res Bool :=
 (fCmpT gNe (fVarB 3) (fC (.int 0)))
def B_common_divisor_2 : Me → Res (Fl × Me) :=
 (gSeq (gSet 4 (fBin gMod (fVarB 2) (fVarB 3)))
 (gSeq (gSet 2 (fVar 3))
 (gSet 3 (fVar 4))))
def L_common_divisor_3 : Me → Res (Fl × Me) :=
 (gWhile T_common_divisor_1 B_common_divisor_2)
def c_common_divisor (l_3 : Me → Res (Fl × Me)) : Me → Res (Fl × Me) :=
 (gSeq (gSet 2 (fCall gAbs (fCons (fVarB 0) fNil)))
 (gSeq (gSet 3 (fCall gAbs (fCons (fVarB 1) fNil)))
 (gSeq l_3
 (gRet (fVar 2)))))
def g_common_divisor : Me → Res (Fl × Me) :=
 (c_common_divisor L_common_divisor_3)
def F_common_divisor : List D → Res (Bool × D) := runF 5 2 g_common_divisor
-- lowest [(0, 'top'), (1, 'bottom'), (2, 'divisor')]
def c_lowest (φ_common_divisor : List D → Res (Bool × D)) : Me → Res (Fl × Me) :=
 (gSeq (gSet 2 (fFn φ_common_divisor (fCons (fVar 0) (fCons (fVar 1) fNil))))
 (gSeq (gIf (fCmpT gLt (fVarB 1) (fC (.int 0))) (gSet 2 (fUn gNeg (fVarB 2))) gNx)
 (gRet (fTup (fCons (fBin gDiv (fVarB 0) (fVarB 2)) (fCons (fBin gDiv (fVarB 1) (fVarB 2)) fNil))))))
def g_lowest : Me → Res (Fl × Me) :=
 (c_lowest F_common_divisor)
def F_lowest : List D → Res (Bool × D) := runF 3 2 g_lowest
-- plus [(0, 'first'), (1, 'second')]
def c_plus (φ_lowest : List D → Res (Bool × D)) : Me → Res (Fl × Me) :=
 (gRet (fFn φ_lowest (fCons (fBin gAdd (fBin gMul (fBin gIx (fVarB 0) (fC (.int 0))) (fBin gIx (fVarB 1) (fC (.int 1)))) (fBin gMul (fBin gIx (fVarB 1) (fC (.int 0))) (fBin gIx (fVarB 0) (fC (.int 1))))) (fCons (fBin gMul (fBin gIx (fVarB 0) (fC (.int 1))) (fBin gIx (fVarB 1) (fC (.int 1)))) fNil))))
def g_plus : Me → Res (Fl × Me) :=
 (c_plus F_lowest)
def F_plus : List D → Res (Bool × D) := runF 2 2 g_plus
-- times [(0, 'first'), (1, 'second')]
def c_times (φ_lowest : List D → Res (Bool × D)) : Me → Res (Fl × Me) :=
 (gRet (fFn φ_lowest (fCons (fBin gMul (fBin gIx (fVarB 0) (fC (.int 0))) (fBin gIx (fVarB 1) (fC (.int 0)))) (fCons (fBin gMul (fBin gIx (fVarB 0) (fC (.int 1))) (fBin gIx (fVarB 1) (fC (.int 1)))) fNil))))
def g_times : Me → Res (Fl × Me) :=
 (c_times F_lowest)
def F_times : List D → Res (Bool × D) := runF 2 2 g_times
-- with_ways [(0, 'game'), (1, 'ways')]
def c_with_ways : Me → Res (Fl × Me) :=
 (gRet (fBin gAdd (fSl (fVarB 0) fO0 (fO1 (fUn gNeg (fC (.int 1))))) (fTup (fCons (fCall gTuple (fCons (fVarB 1) fNil)) fNil))))
def g_with_ways : Me → Res (Fl × Me) :=
 c_with_ways
def F_with_ways : List D → Res (Bool × D) := runF 2 2 g_with_ways
-- opened_out [(0, 'share'), (1, 'branch')]
def E_opened_out_1 : Me → Res D :=
 (fTup (fCons (fFn F_times (fCons (fVar 2) (fCons (fVar 0) fNil))) (fCons (fVar 1) fNil)))
def Q_opened_out_2 : Me → Res D :=
 (fComp 2 [0] (fItT (fBin gIx (fVarB 1) (fC (.int 2)))) (hTup 2 (hCons (hName 0) (hCons (hName 1) hNil))) fAll E_opened_out_1)
def c_opened_out (l_2 : Me → Res D) : Me → Res (Fl × Me) :=
 (gSeq (gIf (fCmpT gNe (fBin gIx (fVarB 1) (fC (.int 0))) (fC (.str "deal"))) (gRetN (fLst (fCons (fTup (fCons (fVar 0) (fCons (fVar 1) fNil))) fNil))) gNx)
 (gRetN l_2))
def g_opened_out : Me → Res (Fl × Me) :=
 (c_opened_out Q_opened_out_2)
def F_opened_out : List D → Res (Bool × D) := runF 2 2 g_opened_out
-- put_together [(0, 'ways'), (1, 'shares'), (2, 'share'), (3, 'branch')]
def B_put_together_1 : Me → Res (Fl × Me) :=
 (gUPut 1 (fVar 3) (fFn F_plus (fCons (fUGet2 (fVarB 1) (fVarB 3) (fC (.tup [(.int 0), (.int 1)]))) (fCons (fVar 2) fNil))))
def L_put_together_2 : Me → Res (Fl × Me) :=
 (gFor (fItL (fVar 0)) (hTup 2 (hCons (hName 2) (hCons (hName 3) hNil))) B_put_together_1)
def E_put_together_3 : Me → Res D :=
 (fTup (fCons (fVar 1) (fCons (fVar 0) fNil)))
def Q_put_together_4 : Me → Res D :=
 (fComp 2 [] (fItI (fVar 1)) (hTup 2 (hCons (hName 0) (hCons (hName 1) hNil))) fAll E_put_together_3)
def c_put_together (l_2 : Me → Res (Fl × Me)) (l_4 : Me → Res D) : Me → Res (Fl × Me) :=
 (gSeq (gOwn 1 fUNew)
 (gSeq l_2
 (gFrz 1 (gRetN l_4))))
def g_put_together : Me → Res (Fl × Me) :=
 (c_put_together L_put_together_2 Q_put_together_4)
def F_put_together : List D → Res (Bool × D) := runF 4 1 g_put_together
-- folded_deal [(0, 'deal'), (1, 'ways'), (2, 'share'), (3, 'branch')]
def B_folded_deal_1 : Me → Res (Fl × Me) :=
 (gExtend 1 (fFnN F_opened_out (fCons (fVar 2) (fCons (fVar 3) fNil))))
def L_folded_deal_2 : Me → Res (Fl × Me) :=
 (gFor (fItT (fBin gIx (fVarB 0) (fC (.int 2)))) (hTup 2 (hCons (hName 2) (hCons (hName 3) hNil))) B_folded_deal_1)
def c_folded_deal (φ_with_ways : List D → Res (Bool × D)) (φ_put_together : List D → Res (Bool × D)) (l_2 : Me → Res (Fl × Me)) : Me → Res (Fl × Me) :=
 (gSeq (gOwn 1 (fLst fNil))
 (gSeq l_2
 (gLet 1 (gSeq (gOwn 1 (fFnN φ_put_together (fCons (fVar 1) fNil)))
 (gRet (fIf (fCmpT gEq (fCall gLen (fCons (fVarB 1) fNil)) (fC (.int 1))) (fBin gIx (fBin gIx (fVarB 1) (fC (.int 0))) (fC (.int 1))) (fFn φ_with_ways (fCons (fVar 0) (fCons (fVar 1) fNil)))))))))
def g_folded_deal : Me → Res (Fl × Me) :=
 (c_folded_deal F_with_ways F_put_together L_folded_deal_2)
def F_folded_deal : List D → Res (Bool × D) := runF 4 1 g_folded_deal
-- folded [(0, 'game'), (1, 'result')]
def E_folded_1 (Φ : List D → Res (Bool × D)) : Me → Res D :=
 (fTup (fCons (fVar 0) (fCons (fFn Φ (fCons (fVar 1) fNil)) fNil)))
def Q_folded_2 (Φ : List D → Res (Bool × D)) : Me → Res D :=
 (fComp 2 [] (fItT (fBin gIx (fVarB 0) (fUn gNeg (fC (.int 1))))) (hTup 2 (hCons (hName 0) (hCons (hName 1) hNil))) fAll (E_folded_1 Φ))
def c_folded (φ_with_ways : List D → Res (Bool × D)) (φ_folded_deal : List D → Res (Bool × D)) (φ_folded : List D → Res (Bool × D)) (l_2 : Me → Res D) : Me → Res (Fl × Me) :=
 (gSeq (gIf (fCmpT gEq (fBin gIx (fVarB 0) (fC (.int 0))) (fC (.str "end"))) (gRet (fVar 0)) gNx)
 (gSeq (gSet 1 (fFn φ_with_ways (fCons (fVar 0) (fCons l_2 fNil))))
 (gRet (fIf (fCmpT gEq (fBin gIx (fVarB 0) (fC (.int 0))) (fC (.str "deal"))) (fFn φ_folded_deal (fCons (fVar 1) fNil)) (fVar 1)))))
def F_folded : Nat → List D → Res (Bool × D)
  | 0 => fun _ => .stuck
  | n + 1 => runF 2 1
      (c_folded F_with_ways F_folded_deal (F_folded n) (Q_folded_2 (F_folded n)))
end
end Pk

set_option Elab.async false
set_option linter.all false
set_option maxRecDepth 100000
set_option maxHeartbeats 4000000
namespace K47
open PySem L2 Hd F Pk
noncomputable section
-- _law_cell_at [(0, '_law_script'), (1, '_law_k')]
def c__law_cell_at : Me → Res (Fl × Me) :=
 (gSeq (gIf (fCmpT gLt (fVarB 1) (fCall gLen (fCons (fVarB 0) fNil))) (gRet (fBin gIx (fVarB 0) (fVarB 1))) gNx)
 (gRet (fC (.int 0))))
def g__law_cell_at : Me → Res (Fl × Me) :=
 c__law_cell_at
def F__law_cell_at : List D → Res (Bool × D) := runF 2 2 g__law_cell_at
-- _law_divisor [(0, '_law_one'), (1, '_law_other')]
def T__law_divisor_1 : Me → Res Bool :=
 (fCmpT gNe (fVarB 1) (fC (.int 0)))
def B__law_divisor_2 : Me → Res (Fl × Me) :=
 (gPar 0 1 (fCons (fVar 1) (fCons (fBin gMod (fVarB 0) (fVarB 1)) fNil)))
def L__law_divisor_3 : Me → Res (Fl × Me) :=
 (gWhile T__law_divisor_1 B__law_divisor_2)
def c__law_divisor (l_3 : Me → Res (Fl × Me)) : Me → Res (Fl × Me) :=
 (gSeq l_3
 (gRet (fCall gAbs (fCons (fVarB 0) fNil))))
def g__law_divisor : Me → Res (Fl × Me) :=
 (c__law_divisor L__law_divisor_3)
def F__law_divisor : List D → Res (Bool × D) := runF 2 2 g__law_divisor
-- _law_lowest [(0, '_law_top'), (1, '_law_bottom'), (2, '_law_by')]
def c__law_lowest (φ__law_divisor : List D → Res (Bool × D)) : Me → Res (Fl × Me) :=
 (gSeq (gSet 2 (fFn φ__law_divisor (fCons (fVar 0) (fCons (fVar 1) fNil))))
 (gRet (fTup (fCons (fBin gDiv (fVarB 0) (fVarB 2)) (fCons (fBin gDiv (fVarB 1) (fVarB 2)) fNil)))))
def g__law_lowest : Me → Res (Fl × Me) :=
 (c__law_lowest F__law_divisor)
def F__law_lowest : List D → Res (Bool × D) := runF 3 2 g__law_lowest
-- _law_times [(0, '_law_one'), (1, '_law_other')]
def c__law_times (φ__law_lowest : List D → Res (Bool × D)) : Me → Res (Fl × Me) :=
 (gRet (fFn φ__law_lowest (fCons (fBin gMul (fBin gIx (fVarB 0) (fC (.int 0))) (fBin gIx (fVarB 1) (fC (.int 0)))) (fCons (fBin gMul (fBin gIx (fVarB 0) (fC (.int 1))) (fBin gIx (fVarB 1) (fC (.int 1)))) fNil))))
def g__law_times : Me → Res (Fl × Me) :=
 (c__law_times F__law_lowest)
def F__law_times : List D → Res (Bool × D) := runF 2 2 g__law_times
-- _law_plus [(0, '_law_one'), (1, '_law_other')]
def c__law_plus (φ__law_lowest : List D → Res (Bool × D)) : Me → Res (Fl × Me) :=
 (gRet (fFn φ__law_lowest (fCons (fBin gAdd (fBin gMul (fBin gIx (fVarB 0) (fC (.int 0))) (fBin gIx (fVarB 1) (fC (.int 1)))) (fBin gMul (fBin gIx (fVarB 1) (fC (.int 0))) (fBin gIx (fVarB 0) (fC (.int 1))))) (fCons (fBin gMul (fBin gIx (fVarB 0) (fC (.int 1))) (fBin gIx (fVarB 1) (fC (.int 1)))) fNil))))
def g__law_plus : Me → Res (Fl × Me) :=
 (c__law_plus F__law_lowest)
def F__law_plus : List D → Res (Bool × D) := runF 2 2 g__law_plus
-- _law_name [(0, '_law_cell'), (1, '_law_signs')]
def E__law_name_1 : Me → Res D :=
 (fBin gIx (fVarB 1) (fBin gMod (fBin gAdd (fBin gDiv (fVarB 2) (fBin gAdd (fBin gMul (fVarB 0) (fVarB 0)) (fC (.int 8)))) (fVarB 0)) (fC (.int 36))))
def Q__law_name_2 : Me → Res D :=
 (fComp 1 [1, 0] (fItR1 (fCons (fBin gAdd (fC (.int 1)) (fBin gMod (fVarB 0) (fC (.int 8)))) fNil)) (hName 0) fAll E__law_name_1)
def c__law_name (l_2 : Me → Res D) : Me → Res (Fl × Me) :=
 (gSeq (gSet 1 (fC (.str "abcdefghijklmnopqrstuvwxyz0123456789")))
 (gRet (fMeth "str" gJoin (fC (.str "")) (fCons l_2 fNil))))
def g__law_name : Me → Res (Fl × Me) :=
 (c__law_name Q__law_name_2)
def F__law_name : List D → Res (Bool × D) := runF 2 1 g__law_name
-- _law_stake [(0, '_law_script'), (1, '_law_cell'), (2, '_law_turn'), (3, '_law_top')]
def c__law_stake (φ__law_cell_at : List D → Res (Bool × D)) (φ__law_lowest : List D → Res (Bool × D)) : Me → Res (Fl × Me) :=
 (gSeq (gSet 2 (fBin gMod (fVarB 1) (fBin gAdd (fC (.int 1)) (fBin gMod (fFn φ__law_cell_at (fCons (fVar 0) (fCons (fC (.int 0)) fNil))) (fC (.int 5))))))
 (gSeq (gSet 3 (fBin gSub (fBin gMod (fBin gAdd (fBin gAdd (fFn φ__law_cell_at (fCons (fVar 0) (fCons (fC (.int 1)) fNil))) (fBin gMul (fBin gMul (fVarB 2) (fVarB 2)) (fC (.int 48271)))) (fBin gMul (fC (.int 5)) (fVarB 2))) (fC (.int 1000003))) (fC (.int 500000))))
 (gRet (fTup (fCons (fC (.str "end")) (fCons (fFn φ__law_lowest (fCons (fVar 3) (fCons (fBin gAdd (fC (.int 1)) (fBin gMul (fBin gMod (fFn φ__law_cell_at (fCons (fVar 0) (fCons (fC (.int 2)) fNil))) (fC (.int 3))) (fVarB 2))) fNil))) fNil))))))
def g__law_stake : Me → Res (Fl × Me) :=
 (c__law_stake F__law_cell_at F__law_lowest)
def F__law_stake : List D → Res (Bool × D) := runF 4 2 g__law_stake
-- _law_tree [(0, '_law_script'), (1, '_law_at'), (2, '_law_depth'), (3, '_law_cell'), (4, '_law_many'), (5, '_law_weights'), (6, '_law_ways'), (7, '_law_k')]
def E__law_tree_1 (Φ : List D → Res (Bool × D)) : Me → Res D :=
 (fBin gAdd (fC (.int 1)) (fBin gMod (fBin gDiv (fVarB 1) (fBin gAdd (fC (.int 16)) (fBin gMul (fBin gMul (fC (.int 9)) (fVarB 0)) (fVarB 0)))) (fC (.int 9))))
def Q__law_tree_2 (Φ : List D → Res (Bool × D)) : Me → Res D :=
 (fComp 1 [3] (fItR1 (fCons (fVarB 4) fNil)) (hName 0) fAll (E__law_tree_1 Φ))
def B__law_tree_3 (Φ : List D → Res (Bool × D)) : Me → Res (Fl × Me) :=
 (gAppend 6 (fTup (fCons (fFn F__law_lowest (fCons (fBin gIx (fVarB 5) (fVarB 7)) (fCons (fCall gSum (fCons (fVarB 5) fNil)) fNil))) (fCons (fFn Φ (fCons (fVar 0) (fCons (fBin gAdd (fBin gAdd (fBin gMul (fC (.int 4)) (fVarB 1)) (fVarB 7)) (fC (.int 1))) (fCons (fBin gAdd (fVarB 2) (fC (.int 1))) fNil)))) fNil))))
def L__law_tree_4 (Φ : List D → Res (Bool × D)) : Me → Res (Fl × Me) :=
 (gFor (fItR1 (fCons (fVarB 4) fNil)) (hName 7) (B__law_tree_3 Φ))
def c__law_tree (φ__law_cell_at : List D → Res (Bool × D)) (φ__law_name : List D → Res (Bool × D)) (φ__law_stake : List D → Res (Bool × D)) (l_2 : Me → Res D) (l_4 : Me → Res (Fl × Me)) : Me → Res (Fl × Me) :=
 (gSeq (gSet 3 (fBin gAdd (fBin gAdd (fBin gMulZ (fFn φ__law_cell_at (fCons (fVar 0) (fCons (fBin gAdd (fC (.int 3)) (fVarB 1)) fNil))) (fC (.int 48271))) (fBin gMul (fBin gMul (fVarB 1) (fVarB 1)) (fC (.int 7919)))) (fFn φ__law_cell_at (fCons (fVar 0) (fCons (fC (.int 2)) fNil)))))
 (gSeq (gSet 3 (fBin gMod (fVarB 3) (fC (.int 2147483647))))
 (gSeq (gIf (fAndT (fCmpT gLt (fVarB 2) (fC (.int 3))) (fOrT (fCmpT gEq (fVarB 2) (fC (.int 0))) (fCmpT gEq (fBin gMod (fVarB 3) (fC (.int 2))) (fC (.int 0))))) (gSeq (gSet 4 (fBin gAdd (fC (.int 1)) (fBin gMod (fBin gDiv (fVarB 3) (fC (.int 2))) (fBin gSub (fC (.int 4)) (fVarB 2)))))
 (gSeq (gSet 5 l_2)
 (gSeq (gOwn 6 (fLst fNil))
 (gSeq l_4
 (gRet (fTup (fCons (fC (.str "deal")) (fCons (fFn φ__law_name (fCons (fBin gDiv (fVarB 3) (fC (.int 7))) fNil)) (fCons (fCall gTuple (fCons (fVarB 6) fNil)) fNil))))))))) gNx)
 (gRet (fFn φ__law_stake (fCons (fVar 0) (fCons (fBin gDiv (fVarB 3) (fC (.int 2))) fNil)))))))
def F__law_tree : Nat → List D → Res (Bool × D)
  | 0 => fun _ => .stuck
  | n + 1 => runF 8 3
      (c__law_tree F__law_cell_at F__law_name F__law_stake (Q__law_tree_2 (F__law_tree n)) (L__law_tree_4 (F__law_tree n)))
-- _law_ends [(0, '_law_game'), (1, '_law_share'), (2, '_law_found'), (3, '_law_more'), (4, '_law_part')]
def B__law_ends_1 (Φ : List D → D → Res (D × D)) : Me → Res (Fl × Me) :=
 (gExX (fxIOp Φ 2 2 (fCons (fVar 4) (fCons (fFn F__law_times (fCons (fVar 1) (fCons (fVar 3) fNil))) fNil))))
def L__law_ends_2 (Φ : List D → D → Res (D × D)) : Me → Res (Fl × Me) :=
 (gFor (fItT (fBin gIx (fVarB 0) (fC (.int 2)))) (hTup 2 (hCons (hName 3) (hCons (hName 4) hNil))) (B__law_ends_1 Φ))
def c__law_ends (φ__law_plus : List D → Res (Bool × D)) (l_2 : Me → Res (Fl × Me)) : Me → Res (Fl × Me) :=
 (gSeq (gIf (fCmpT gEq (fBin gIx (fVarB 0) (fC (.int 0))) (fC (.str "end"))) (gSeq (gUPut 2 (fVar 0) (fFn φ__law_plus (fCons (fUGet2 (fVarB 2) (fVarB 0) (fTup (fCons (fC (.int 0)) (fCons (fC (.int 1)) fNil)))) (fCons (fVar 1) fNil))))
 gRet0) gNx)
 l_2)
def F__law_ends : Nat → List D → D → Res (D × D)
  | 0 => fun _ _ => .stuck
  | n + 1 => runIOp 2 5 3
      (c__law_ends F__law_plus (L__law_ends_2 (F__law_ends n)))
-- _law_alike [(0, '_law_found'), (1, '_law_due')]
def E__law_alike_1 (Φ : List D → Res (Bool × D)) : Me → Res D :=
 (fFn Φ (fCons (fBin gIx (fVarB 1) (fVarB 0)) (fCons (fBin gIx (fVarB 2) (fVarB 0)) fNil)))
def Q__law_alike_2 (Φ : List D → Res (Bool × D)) : Me → Res D :=
 (fComp 1 [0, 1] (fItR1 (fCons (fCall gLen (fCons (fVarB 1) fNil)) fNil)) (hName 0) fAll (E__law_alike_1 Φ))
def c__law_alike (l_2 : Me → Res D) : Me → Res (Fl × Me) :=
 (gSeq (gIf (fTv (fIsi "tuple" (fVarB 1))) (gSeq (gIf (fOrT (fNotT (fTv (fIsi "tuple" (fVarB 0)))) (fCmpT gNe (fCall gLen (fCons (fVarB 0) fNil)) (fCall gLen (fCons (fVarB 1) fNil)))) (gRet (fC (.bl false))) gNx)
 (gRet (fCall gAll (fCons l_2 fNil)))) gNx)
 (gSeq (gIf (fTv (fIsi "str" (fVarB 1))) (gRet (fAnd (fIsi "str" (fVarB 0)) (fCmp gEq (fVarB 0) (fVarB 1)))) gNx)
 (gRet (fAnd (fIsi "int" (fVarB 0)) (fAnd (fNot (fIsi "bool" (fVarB 0))) (fCmp gEq (fVarB 0) (fVarB 1)))))))
def F__law_alike : Nat → List D → Res (Bool × D)
  | 0 => fun _ => .stuck
  | n + 1 => runF 2 2
      (c__law_alike (Q__law_alike_2 (F__law_alike n)))
-- law [(0, '_law_script'), (1, '_law_game'), (2, '_law_ends_here'), (3, '_law_due')]
def E_law_1 : Me → Res D :=
 (fTup (fCons (fBin gUGet (fVarB 1) (fVarB 0)) (fCons (fVar 0) fNil)))
def Q_law_2 : Me → Res D :=
 (fComp 1 [2] (fItK (fVar 2)) (hName 0) fAll E_law_1)
def E_law_3 : Me → Res D :=
 (fFn (F__law_alike 30) (fCons (fFn (F_folded 12) (fCons (fVar 0) fNil)) (fCons (fVar 0) fNil)))
def Q_law_4 : Me → Res D :=
 (fComp 1 [] (fItK (fVar 2)) (hName 0) fAll E_law_3)
def c_law (φ_folded : List D → Res (Bool × D)) (φ__law_tree : List D → Res (Bool × D)) (φ__law_ends : List D → D → Res (D × D)) (φ__law_alike : List D → Res (Bool × D)) (l_2 : Me → Res D) (l_4 : Me → Res D) : Me → Res (Fl × Me) :=
 (gSeq (gSet 1 (fFn φ__law_tree (fCons (fVar 0) (fCons (fC (.int 0)) (fCons (fC (.int 0)) fNil)))))
 (gSeq (gOwn 2 fUNew)
 (gSeq (gExX (fxIOp φ__law_ends 2 2 (fCons (fVar 1) (fCons (fTup (fCons (fC (.int 1)) (fCons (fC (.int 1)) fNil))) fNil))))
 (gFrz 2 (gSeq (gSet 3 (fBin gIx (fLKeys (fVar 2)) (fC (.int 0))))
 (gSeq (gIf (fCmpT gGt (fCall gLenU (fCons (fVarB 2) fNil)) (fC (.int 1))) (gSet 3 (fTup (fCons (fC (.str "deal")) (fCons (fBin gIx (fVarB 1) (fC (.int 1))) (fCons (fCall gTuple (fCons l_2 fNil)) fNil))))) gNx)
 (gSeq (gIf (fOrT (fNotT (fTv (fFn φ__law_alike (fCons (fFn φ_folded (fCons (fVar 1) fNil)) (fCons (fVar 3) fNil))))) (fNotT (fTv (fFn φ__law_alike (fCons (fFn φ_folded (fCons (fVar 3) fNil)) (fCons (fVar 3) fNil)))))) (gRet (fC (.bl false))) gNx)
 (gRet (fCall gAll (fCons l_4 fNil))))))))))
def g_law : Me → Res (Fl × Me) :=
 (c_law (F_folded 12) (F__law_tree 8) (F__law_ends 8) (F__law_alike 30) Q_law_2 Q_law_4)
def F_law : List D → Res (Bool × D) := runF 4 1 g_law
end
end K47

namespace Hd
/-! fractions: the mathematics of common_divisor and lowest -/
def gI (a b : Int) : Int := (Int.gcd a b : Nat)
theorem gI_step {a b : Int} (ha : 0 ≤ a) (hb : 0 < b) : gI b (a % b) = gI a b := by
  unfold gI Int.gcd
  have e : (a % b).natAbs = a.natAbs % b.natAbs := by
    obtain ⟨n, rfl⟩ := Int.eq_ofNat_of_zero_le ha
    obtain ⟨m, rfl⟩ := Int.eq_ofNat_of_zero_le (Int.le_of_lt hb)
    rfl
  rw [e, Nat.gcd_comm a.natAbs b.natAbs, Nat.gcd_rec b.natAbs a.natAbs, Nat.gcd_comm]
theorem gI_zero {a : Int} (ha : 0 ≤ a) : gI a 0 = a := by
  unfold gI
  rw [Int.gcd_zero_right]
  omega
theorem gI_abs (a b : Int) : gI (if a < 0 then -a else a) (if b < 0 then -b else b) = gI a b := by
  unfold gI Int.gcd
  have h : ∀ x : Int, (if x < 0 then -x else x).natAbs = x.natAbs := fun x => by split <;> omega
  rw [h, h]
theorem gI_nn (a b : Int) : 0 ≤ gI a b := Int.natCast_nonneg _
theorem gI_pos {a b : Int} (hb : b ≠ 0) : 0 < gI a b := by
  have : 0 < Int.gcd a b := Nat.pos_of_ne_zero fun h => hb (Int.gcd_eq_zero_iff.mp h).2
  unfold gI; omega
theorem gI_left (a b : Int) : gI a b ∣ a := Int.gcd_dvd_left a b
theorem gI_right (a b : Int) : gI a b ∣ b := Int.gcd_dvd_right a b
theorem gI_le {a b : Int} (hb : b ≠ 0) : (gI a b).natAbs ≤ b.natAbs := by
  have h : (gI a b).natAbs ∣ b.natAbs := Int.natAbs_dvd_natAbs.mpr (gI_right a b)
  exact Nat.le_of_dvd (by omega) h
/-- the divisor that lowest divides by -/
def dv (t b : Int) : Int := if b < 0 then -gI t b else gI t b
theorem dv_ne {t b : Int} (hb : b ≠ 0) : dv t b ≠ 0 := by
  have := gI_pos (a := t) hb
  unfold dv; split <;> omega
theorem dv_abs (t b : Int) : (dv t b).natAbs = (gI t b).natAbs := by unfold dv; split <;> omega
def lt (t b : Int) : Int := t.fdiv (dv t b)
def lb (t b : Int) : Int := b.fdiv (dv t b)
theorem fdiv_exact {a d q : Int} (hd : d ≠ 0) (h : a = d * q) : a.fdiv d = q := by
  rw [h]
  exact Int.mul_fdiv_cancel_left q hd
theorem dv_left (t b : Int) : dv t b ∣ t := by
  unfold dv; split
  · exact Int.neg_dvd.mpr (gI_left t b)
  · exact gI_left t b
theorem dv_right (t b : Int) : dv t b ∣ b := by
  unfold dv; split
  · exact Int.neg_dvd.mpr (gI_right t b)
  · exact gI_right t b
theorem lt_mul {t b : Int} (hb : b ≠ 0) : dv t b * lt t b = t := by
  obtain ⟨q, hq⟩ := dv_left t b
  have e : lt t b = q := fdiv_exact (dv_ne hb) hq
  rw [e]; exact hq.symm
theorem lb_mul {t b : Int} (hb : b ≠ 0) : dv t b * lb t b = b := by
  obtain ⟨q, hq⟩ := dv_right t b
  have e : lb t b = q := fdiv_exact (dv_ne hb) hq
  rw [e]; exact hq.symm
theorem lb_pos {t b : Int} (hb : b ≠ 0) : 1 ≤ lb t b := by
  have e := lb_mul (t := t) hb
  have g := gI_pos (a := t) hb
  by_cases h : lb t b ≤ 0
  · exfalso
    unfold dv at e
    split at e
    · have : 0 ≤ -gI t b * lb t b := Int.mul_nonneg_of_nonpos_of_nonpos (by omega) h
      omega
    · have : gI t b * lb t b ≤ 0 := Int.mul_nonpos_of_nonneg_of_nonpos (by omega) h
      omega
  · omega
theorem low_gcd {t b : Int} (hb : b ≠ 0) : gI (lt t b) (lb t b) = 1 := by
  have e1 := lt_mul (t := t) hb
  have e2 := lb_mul (t := t) hb
  have g := gI_pos (a := t) hb
  have q : gI t b = (dv t b).natAbs * gI (lt t b) (lb t b) := by
    have : Int.gcd (dv t b * lt t b) (dv t b * lb t b) = (dv t b).natAbs * Int.gcd (lt t b) (lb t b) := Int.gcd_mul_left ..
    rw [e1, e2] at this
    unfold gI
    rw [this]
    push_cast
    rfl
  have ed : ((dv t b).natAbs : Int) = gI t b := by rw [dv_abs]; have := gI_nn t b; omega
  rw [ed] at q
  have h : gI t b * gI (lt t b) (lb t b) = gI t b * 1 := by rw [Int.mul_one]; exact q.symm
  exact Int.eq_of_mul_eq_mul_left (by omega) h
theorem low_cross {t b : Int} (hb : b ≠ 0) : lt t b * b = t * lb t b := by
  have e1 := lt_mul (t := t) hb
  have e2 := lb_mul (t := t) hb
  calc lt t b * b = lt t b * (dv t b * lb t b) := by rw [e2]
    _ = (dv t b * lt t b) * lb t b := by rw [← Int.mul_assoc, Int.mul_comm (lt t b) (dv t b)]
    _ = t * lb t b := by rw [e1]
theorem lt_le {t b : Int} (hb : b ≠ 0) : (lt t b).natAbs ≤ t.natAbs := by
  have e := lt_mul (t := t) hb
  have h : (lt t b).natAbs ∣ t.natAbs := Int.natAbs_dvd_natAbs.mpr ⟨dv t b, by rw [Int.mul_comm]; exact e.symm⟩
  by_cases z : t = 0
  · have : lt t b = 0 := by
      have e' : dv t b * lt t b = 0 := e.trans z
      rcases Int.mul_eq_zero.mp e' with h | h
      · exact absurd h (dv_ne hb)
      · exact h
    rw [this]; exact Nat.zero_le _
  · exact Nat.le_of_dvd (by omega) h
theorem lb_le {t b : Int} (hb : b ≠ 0) : (lb t b).natAbs ≤ b.natAbs := by
  have e := lb_mul (t := t) hb
  have h : (lb t b).natAbs ∣ b.natAbs := Int.natAbs_dvd_natAbs.mpr ⟨dv t b, by rw [Int.mul_comm]; exact e.symm⟩
  exact Nat.le_of_dvd (by omega) h
theorem dvd_of_prime_to {q p s : Int} (c : Int.gcd p q = 1) (h : q ∣ p * s) : q ∣ s := by
  have h2 : q.natAbs ∣ p.natAbs * s.natAbs := by rw [← Int.natAbs_mul]; exact Int.natAbs_dvd_natAbs.mpr h
  have c2 : Nat.Coprime q.natAbs p.natAbs := by unfold Nat.Coprime; rw [Nat.gcd_comm]; exact c
  exact Int.natAbs_dvd_natAbs.mp (Nat.Coprime.dvd_of_dvd_mul_left c2 h2)
/-- two lowest fractions that are as great as one another are one -/
theorem low_unique {p q r s : Int} (hq : 1 ≤ q) (hs : 1 ≤ s) (g1 : gI p q = 1) (g2 : gI r s = 1) (h : p * s = r * q) : p = r ∧ q = s := by
  have c1 : Int.gcd p q = 1 := by unfold gI at g1; omega
  have c2 : Int.gcd r s = 1 := by unfold gI at g2; omega
  have d1 : q ∣ s := by
    have : q ∣ p * s := ⟨r, by rw [h, Int.mul_comm]⟩
    exact dvd_of_prime_to c1 this
  have d2 : s ∣ q := by
    have : s ∣ r * q := ⟨p, by rw [← h, Int.mul_comm]⟩
    exact dvd_of_prime_to c2 this
  have e : q = s := Int.dvd_antisymm (by omega) (by omega) d1 d2
  subst e
  exact ⟨Int.eq_of_mul_eq_mul_right (by omega) h, rfl⟩
end Hd
namespace Hd
theorem mul_lt {a b : Int} {m n : Nat} (ha : a.natAbs < 2 ^ m) (hb : b.natAbs < 2 ^ n) : (a * b).natAbs < 2 ^ (m + n) := by
  rw [Int.natAbs_mul, Nat.pow_add]
  exact Nat.mul_lt_mul'' ha hb
theorem add_lt {a b : Int} {m : Nat} (ha : a.natAbs < 2 ^ m) (hb : b.natAbs < 2 ^ m) : (a + b).natAbs < 2 ^ (m + 1) := by
  rw [Nat.pow_succ]
  omega
theorem lt_mono {n m k : Nat} (h : n < 2 ^ m) (hk : m ≤ k) : n < 2 ^ k := Nat.lt_of_lt_of_le h (Nat.pow_le_pow_right (by decide) hk)
/-- crosswise: what lowest tells of t over u is p over q, where t * q = p * u -/
theorem low_is {t u p q : Int} (hu : u ≠ 0) (hq : 1 ≤ q) (g : gI p q = 1) (h : t * q = p * u) : lt t u = p ∧ lb t u = q := by
  refine low_unique (lb_pos hu) hq (low_gcd hu) g ?_
  have e := low_cross (t := t) hu
  have e2 : lt t u * q * u = p * lb t u * u := by
    calc lt t u * q * u = lt t u * u * q := by rw [Int.mul_assoc, Int.mul_comm q u, ← Int.mul_assoc]
      _ = t * lb t u * q := by rw [e]
      _ = t * q * lb t u := by rw [Int.mul_assoc, Int.mul_comm (lb t u) q, ← Int.mul_assoc]
      _ = p * u * lb t u := by rw [h]
      _ = p * lb t u * u := by rw [Int.mul_assoc, Int.mul_comm u, ← Int.mul_assoc]
  exact Int.eq_of_mul_eq_mul_right hu e2
end Hd

set_option Elab.async false
set_option linter.all false
namespace Hd
/-! sums of fractions -/
abbrev Q2 := Int × Int
def Low (a : Q2) : Prop := 1 ≤ a.2 ∧ gI a.1 a.2 = 1
def plusF (a b : Q2) : Q2 := (lt (a.1 * b.2 + b.1 * a.2) (a.2 * b.2), lb (a.1 * b.2 + b.1 * a.2) (a.2 * b.2))
def tot (ds : List Q2) : Q2 := ds.foldl plusF (0, 1)
def den : List Q2 → Int
  | [] => 1
  | d :: ds => d.2 * den ds
def num : List Q2 → Int
  | [] => 0
  | d :: ds => d.1 * den ds + num ds * d.2
theorem den_pos : ∀ {ds : List Q2}, (∀ d ∈ ds, 1 ≤ d.2) → 1 ≤ den ds
  | [], _ => Int.le_refl _
  | d :: ds, h => by
    have h1 := h d List.mem_cons_self
    have h2 := den_pos fun e he => h e (List.mem_cons_of_mem _ he)
    have : 0 < d.2 * den ds := Int.mul_pos (by omega) (by omega)
    show 1 ≤ d.2 * den ds
    omega
/-- a fraction of the law's size -/
def Sm (d : Q2) : Prop := 1 ≤ d.2 ∧ d.2.natAbs < 2 ^ 10 ∧ d.1.natAbs < 2 ^ 97
end Hd

set_option Elab.async false
set_option linter.all false
set_option maxRecDepth 100000
set_option maxHeartbeats 4000000
namespace F
open PySem L2 Hd
@[simp] theorem szl : sizeLine = 16777216 := by decide
theorem map_toNat_inj : ∀ {a b : List Char}, a.map Char.toNat = b.map Char.toNat → a = b
  | [], [], _ => rfl
  | [], _ :: _, h => by simp at h
  | _ :: _, [], h => by simp at h
  | x :: a, y :: b, h => by
    have h' : x.toNat = y.toNat ∧ a.map Char.toNat = b.map Char.toNat := by simpa using h
    rw [Char.toNat_inj.mp h'.1, map_toNat_inj h'.2]
@[simp] theorem ofS_inj {a b : String} : (Str.ofString a = Str.ofString b) ↔ a = b := by
  constructor
  · intro h
    rw [Str.ofString_eq_toList, Str.ofString_eq_toList] at h
    have h2 : (a.toList.map Char.toNat).toArray = (b.toList.map Char.toNat).toArray := congrArg Str.cps h
    have h3 : a.toList.map Char.toNat = b.toList.map Char.toNat := by simpa using congrArg Array.toList h2
    exact String.toList_inj.mp (map_toNat_inj h3)
  · intro h; rw [h]
/-! ### == of data with itself -/
mutual
def okD : D → Bool
  | .non | .bl _ | .int _ => true
  | .str x => PyData.strOk x
  | .tup xs => okDs xs
  | .lst xs => okDs xs
  | .exc _ | .dct _ _ | .dcu _ _ | .dcf _ _ => false
def okDs : List D → Bool
  | [] => true
  | x :: xs => okD x && okDs xs
end
mutual
def depD : D → Nat
  | .non | .bl _ | .int _ | .str _ => 0
  | .tup xs => depDs xs + 1
  | .lst xs => depDs xs + 1
  | .exc _ | .dct _ _ | .dcu _ _ | .dcf _ _ => 0
def depDs : List D → Nat
  | [] => 0
  | x :: xs => max (depD x) (depDs xs)
end
@[simp] theorem gEq_int (i j : Int) : gEq (.int i) (.int j) = some (decide (i = j)) := rfl
@[simp] theorem gEq_str (i j : Str) : gEq (.str i) (.str j) = some (decide (i = j)) := rfl
@[simp] theorem gEq_bl (i j : Bool) : gEq (.bl i) (.bl j) = some (decide (i = j)) := rfl
@[simp] theorem gNe_int (i j : Int) : gNe (.int i) (.int j) = some (!decide (i = j)) := rfl
@[simp] theorem gNe_str (i j : Str) : gNe (.str i) (.str j) = some (!decide (i = j)) := rfl
@[simp] theorem gNe_bl (i j : Bool) : gNe (.bl i) (.bl j) = some (!decide (i = j)) := rfl
/-! ### loops and comprehensions, read -/
theorem loop_inv {h : D → Me → Option Me} {g : Me → Res (Fl × Me)} (P : Nat → Me → Prop) : ∀ (ds : List D) (i : Nat) (m : Me), P i m → (∀ j d m, ds[j]? = some d → P (i + j) m → ∃ m1 m2, h d m = some m1 ∧ g m1 = .ok (.nx, m2) ∧ P (i + j + 1) m2) →
    ∃ m', loopL h g ds m = .ok (.nx, m') ∧ P (i + ds.length) m'
  | [], i, m, p, _ => ⟨m, rfl, p⟩
  | d :: ds, i, m, p, st => by
    obtain ⟨m1, m2, e1, e2, p2⟩ := st 0 d m rfl p
    obtain ⟨m', e, q⟩ := loop_inv P ds (i + 1) m2 p2 fun j d m hj p => by
      have := st (j + 1) d m (by simpa using hj) (by rw [show i + (j + 1) = i + 1 + j by omega]; exact p)
      rw [show i + (j + 1) + 1 = i + 1 + j + 1 by omega] at this
      exact this
    refine ⟨m', ?_, by rw [show i + (d :: ds).length = i + 1 + ds.length by simp; omega]; exact q⟩
    unfold loopL
    rw [e1]
    simp only [e2]
    exact e
theorem comp_map {h : D → Me → Option Me} {ft : Me → Res Bool} {fe : Me → Res D} {m0 : Me} (φ : D → D) : ∀ ds : List D, (∀ d ∈ ds, ∃ m1, h d m0 = some m1 ∧ ft m1 = .ok true ∧ fe m1 = .ok (φ d)) → compL h ft fe m0 ds = .ok (ds.map φ)
  | [], _ => rfl
  | d :: ds, H => by
    obtain ⟨m1, e1, e2, e3⟩ := H d List.mem_cons_self
    have ih := comp_map φ ds fun d hd => H d (List.mem_cons_of_mem _ hd)
    unfold compL
    simp only [e1, e2, e3, ih, List.map_cons]
/-- .. by places -/
theorem comp_ex {h : D → Me → Option Me} {ft : Me → Res Bool} {fe : Me → Res D} {m0 : Me} (P : D → Prop) : ∀ ds : List D, (∀ d ∈ ds, ∃ m1 y, h d m0 = some m1 ∧ ft m1 = .ok true ∧ fe m1 = .ok y ∧ P y) → ∃ ys, compL h ft fe m0 ds = .ok ys ∧ ys.length = ds.length ∧ ∀ y ∈ ys, P y
  | [], _ => ⟨[], rfl, rfl, fun _ z => nomatch z⟩
  | d :: ds, H => by
    obtain ⟨m1, y, e1, e2, e3, p⟩ := H d List.mem_cons_self
    obtain ⟨ys, e, l, q⟩ := comp_ex P ds fun d hd => H d (List.mem_cons_of_mem _ hd)
    refine ⟨y :: ys, ?_, by simp [l], fun z hz => ?_⟩
    · unfold compL
      simp only [e1, e2, e3, e]
    · rcases List.mem_cons.mp hz with w | w
      · rw [w]; exact p
      · exact q z w

/-! ### games -/
def qD (d : Q2) : D := .tup [.int d.1, .int d.2]
mutual
inductive Gm where
  | fin (d : Q2)
  | deal (n : Str) (ws : Ws)
  | move (s : Int) (n : Str) (ws : Ws)
inductive Ws where
  | nil
  | cons (l : D) (g : Gm) (r : Ws)
end
mutual
def dG : Gm → D
  | .fin d => .tup [.str "end", qD d]
  | .deal n ws => .tup [.str "deal", .str n, .tup (dWs ws)]
  | .move s n ws => .tup [.str "move", .int s, .str n, .tup (dWs ws)]
def dWs : Ws → List D
  | .nil => []
  | .cons l g r => .tup [l, dG g] :: dWs r
end
mutual
def dp : Gm → Nat
  | .fin _ => 0
  | .deal _ ws => dpW ws + 1
  | .move _ _ ws => dpW ws + 1
def dpW : Ws → Nat
  | .nil => 0
  | .cons _ g r => max (dp g) (dpW r)
end
def lenW : Ws → Nat
  | .nil => 0
  | .cons _ _ r => lenW r + 1
mutual
def allG (F : Q2 → Prop) (N : Str → Prop) (S : D → Prop) (M : D → Prop) : Gm → Prop
  | .fin d => F d
  | .deal n ws => N n ∧ 1 ≤ lenW ws ∧ allW F N S M S ws
  | .move s n ws => (s = 1 ∨ s = 2) ∧ N n ∧ 1 ≤ lenW ws ∧ allW F N S M M ws
def allW (F : Q2 → Prop) (N : Str → Prop) (S : D → Prop) (M : D → Prop) (P : D → Prop) : Ws → Prop
  | .nil => True
  | .cons l g r => P l ∧ allG F N S M g ∧ allW F N S M P r
end
/-- a label that may stand within data -/
def Lab (d : D) : Prop := okD d = true ∧ depD d ≤ 1
def Nm (n : Str) : Prop := PyData.strOk n = true
/-! how many branches a place has at most -/
mutual
def lenG : Gm → Prop
  | .fin _ => True
  | .deal _ ws => lenW ws ≤ 100 ∧ lenWs ws
  | .move _ _ ws => lenW ws ≤ 100 ∧ lenWs ws
def lenWs : Ws → Prop
  | .nil => True
  | .cons _ g r => lenG g ∧ lenWs r
end
end F

set_option Elab.async false
set_option linter.all false
set_option maxRecDepth 100000
set_option maxHeartbeats 4000000
namespace F
open PySem L2 Hd
/-! ### texts put together -/
def catL (zs : List Str) : List Nat := zs.flatMap fun z => z.cps.toList
theorem empty_cps : (Str.ofString "").cps = #[] := by decide +kernel
theorem gl_fold : ∀ (zs : List Str) (acc : Array Nat), (zs.foldl (fun acc p => acc ++ (Str.ofString "").cps ++ p.cps) acc).toList = acc.toList ++ catL zs
  | [], acc => by simp [catL]
  | z :: zs, acc => by
    rw [List.foldl_cons, gl_fold zs, empty_cps]
    simp [catL]
theorem join_cps (zs : List Str) : (Txt.join (Str.ofString "") zs).cps.toList = catL zs := by
  show ((zs.drop 1).foldl (fun acc p => acc ++ (Str.ofString "").cps ++ p.cps) (zs.headD Str.empty).cps).toList = _
  rw [gl_fold]
  cases zs with
  | nil => simp [catL, Str.empty]
  | cons z zs => simp [catL]
theorem foldl_len : ∀ (zs : List Str) (n : Nat), zs.foldl (fun n z => n + z.length + (Str.ofString "").length) n = n + (catL zs).length
  | [], n => by simp [catL]
  | z :: zs, n => by
    rw [List.foldl_cons, foldl_len zs]
    have : (Str.ofString "").length = 0 := by decide +kernel
    rw [this]
    simp [catL, Str.length]
    omega
theorem joinOk_of {zs : List Str} (h : (catL zs).length ≤ 16777216) : JoinOk (Str.ofString "") zs = true := by
  unfold JoinOk
  rw [List.foldl_toArray, foldl_len]
  simp [Builtin.Str.tooLong]
  omega
/-- texts of one sign each -/
def One (P : Nat → Prop) (d : D) : Prop := ∃ c, P c ∧ d = .str ⟨#[c]⟩
theorem ones {P : Nat → Prop} : ∀ ys : List D, (∀ y ∈ ys, One P y) → ∃ cs : List Nat, strL ys = some (cs.map fun c => ⟨#[c]⟩) ∧ cs.length = ys.length ∧ ∀ c ∈ cs, P c
  | [], _ => ⟨[], rfl, rfl, fun _ z => nomatch z⟩
  | y :: ys, h => by
    obtain ⟨c, pc, rfl⟩ := h y List.mem_cons_self
    obtain ⟨cs, e, l, q⟩ := ones ys fun y hy => h y (List.mem_cons_of_mem _ hy)
    refine ⟨c :: cs, by simp [strL, e], by simp [l], fun d hd => ?_⟩
    rcases List.mem_cons.mp hd with w | w
    · rw [w]; exact pc
    · exact q d w
theorem catL_ones (cs : List Nat) : catL (cs.map fun c => (⟨#[c]⟩ : Str)) = cs := by
  induction cs with
  | nil => rfl
  | cons c cs ih => simp [catL] at ih ⊢; exact ih
/-- ''.join of texts of one sign each -/
theorem join_ones {P : Nat → Prop} {ys : List D} (h : ∀ y ∈ ys, One P y) (hl : ys.length ≤ 16777216) : ∃ cs : List Nat, gJoin (.str "") [.lst ys] = some (.str ⟨cs.toArray⟩) ∧ cs.length = ys.length ∧ ∀ c ∈ cs, P c := by
  obtain ⟨cs, e, l, q⟩ := ones ys h
  refine ⟨cs, ?_, l, q⟩
  have hj : JoinOk (Str.ofString "") (cs.map fun c => (⟨#[c]⟩ : Str)) = true := joinOk_of (by rw [catL_ones]; omega)
  have hc := join_cps (cs.map fun c => (⟨#[c]⟩ : Str))
  rw [catL_ones] at hc
  have : Txt.join (Str.ofString "") (cs.map fun c => (⟨#[c]⟩ : Str)) = ⟨cs.toArray⟩ := by
    rcases hz : Txt.join (Str.ofString "") (cs.map fun c => (⟨#[c]⟩ : Str)) with ⟨a⟩
    rw [hz] at hc
    have : a = cs.toArray := by rw [← hc]
    rw [this]
  simp [gJoin, e, hj, this]
/-- a sign of a written text -/
theorem sign_at {z : Str} {i : Int} {P : Nat → Prop} (hz : z.length ≤ 16777216) (hP : ∀ c ∈ z.cps.toList, P c) (h0 : 0 ≤ i) (h1 : i < z.cps.toList.length) : ∃ y, gIx (.str z) (.int i) = some y ∧ One P y := by
  have hi : i.toNat < z.cps.toList.length := by omega
  have e : atI z.cps.toList i = some (z.cps.toList[i.toNat]) := by
    unfold atI ixN
    rw [if_pos h0, if_pos (by omega)]
    simp [List.getElem?_eq_getElem hi]
  refine ⟨.str ⟨#[z.cps.toList[i.toNat]]⟩, ?_, _, hP _ (List.getElem_mem hi), rfl⟩
  simp only [gIx, szl, if_pos hz, e]
  rfl
/-! ### numbers that are not too great -/
theorem bg_small {i : Int} (h1 : -1000000000000000000000000000000 ≤ i) (h2 : i ≤ 1000000000000000000000000000000) : Bg i := by
  have : i.natAbs < 2 ^ 100 := by
    have e : (2 : Nat) ^ 100 = 1267650600228229401496703205376 := by decide
    omega
  exact lt_mono this (by decide)
theorem at_int {ns : List Int} {k : Int} (h0 : 0 ≤ k) (h : k < (ns.length : Int)) : ∃ c : Int, c ∈ ns ∧ atI (ns.map D.int) k = some (.int c) := by
  have hi : k.toNat < ns.length := by omega
  refine ⟨ns[k.toNat], List.getElem_mem hi, ?_⟩
  unfold atI ixN
  rw [if_pos h0, if_pos (by simpa using h)]
  simp [List.getElem?_eq_getElem hi]
theorem range_at {n j : Nat} {d : D} (h : ((List.range n).map fun (i : Nat) => D.int i)[j]? = some d) : j < n ∧ d = .int j := by
  have hj : j < n := by
    have := (List.getElem?_eq_some_iff.mp h).1
    rw [List.length_map, List.length_range] at this
    exact this
  rw [List.getElem?_map, List.getElem?_range hj] at h
  exact ⟨hj, (Option.some.inj h).symm⟩
theorem itR1 {f : Me → Res (List D)} {m : Me} {j : Int} (h : f m = .ok [.int j]) (h1 : -1000000000 ≤ j) (h2 : j ≤ 1000000000) : fItR1 f m = .ok ((List.range j.toNat).map fun (i : Nat) => D.int i) := by
  unfold fItR1
  rw [h]
  show (if -(2 ^ 62) ≤ j ∧ j < 2 ^ 62 then _ else _) = _
  rw [if_pos ⟨by omega, by omega⟩]
end F

set_option Elab.async false
set_option linter.all false
set_option maxRecDepth 100000
set_option maxHeartbeats 4000000
namespace F
open PySem L2 Hd
/-! ### fractions as rational numbers -/
def rq (r : Rat) : Q2 := (r.num, (r.den : Int))
def rD (r : Rat) : D := qD (rq r)
theorem rD_eq (r : Rat) : rD r = .tup [.int r.num, .int r.den] := rfl
theorem rq_pos (r : Rat) : 1 ≤ (r.den : Int) := by have := r.den_pos; omega
theorem rq_gcd (r : Rat) : gI r.num r.den = 1 := by
  unfold gI
  have := r.reduced
  unfold Nat.Coprime at this
  show ((Int.gcd r.num (r.den : Int) : Nat) : Int) = 1
  unfold Int.gcd
  simp [this]
theorem rq_inj {a b : Rat} (h : rq a = rq b) : a = b := by
  have h1 := congrArg Prod.fst h
  have h2 := congrArg Prod.snd h
  have h2 : (a.den : Int) = b.den := h2
  exact Rat.ext h1 (by omega)
theorem low_rq {t b : Int} (hb : b ≠ 0) : (lt t b, lb t b) = rq (Rat.divInt t b) := by
  have h := Rat.num_divInt_den (Rat.divInt t b)
  have hd : ((Rat.divInt t b).den : Int) ≠ 0 := by have := rq_pos (Rat.divInt t b); omega
  have h2 := (Rat.divInt_eq_divInt_iff hd hb).mp h
  obtain ⟨z1, z2⟩ := low_is hb (rq_pos (Rat.divInt t b)) (rq_gcd (Rat.divInt t b)) (t := t) h2.symm
  exact Prod.ext z1 z2
theorem rq_low (r : Rat) : Rat.divInt r.num r.den = r := Rat.num_divInt_den r
theorem r_add (a b : Rat) : Rat.divInt (a.num * b.den + b.num * a.den) (a.den * b.den) = a + b := by
  have ha := rq_pos a
  have hb := rq_pos b
  rw [← Rat.divInt_add_divInt _ _ (by omega) (by omega), rq_low, rq_low]
theorem r_mul (a b : Rat) : Rat.divInt (a.num * b.num) (a.den * b.den) = a * b := by
  rw [← Rat.divInt_mul_divInt, rq_low, rq_low]
/-- both parts below 2 ^ k -/
def Sz (k : Nat) (r : Rat) : Prop := r.num.natAbs < 2 ^ k ∧ r.den < 2 ^ k
theorem Sz.mono {k l : Nat} {r : Rat} (h : Sz k r) (e : k ≤ l) : Sz l r := ⟨lt_mono h.1 e, lt_mono h.2 e⟩
theorem sz_div {t b : Int} {k : Nat} (hb : b ≠ 0) (h1 : t.natAbs < 2 ^ k) (h2 : b.natAbs < 2 ^ k) : Sz k (Rat.divInt t b) := by
  have e := low_rq (t := t) hb
  have e1 := congrArg Prod.fst e
  have e2 := congrArg Prod.snd e
  have e1 : lt t b = (Rat.divInt t b).num := e1
  have e2 : lb t b = ((Rat.divInt t b).den : Int) := e2
  have l1 := lt_le (t := t) hb
  have l2 := lb_le (t := t) hb
  rw [e1] at l1
  rw [e2] at l2
  exact ⟨by omega, by omega⟩
theorem sz_add {a b : Rat} {k l : Nat} (ha : Sz k a) (hb : Sz l b) : Sz (k + l + 1) (a + b) := by
  rw [← r_add]
  have pa := rq_pos a
  have pb := rq_pos b
  have h1 : (a.num * b.den).natAbs < 2 ^ (k + l) := mul_lt ha.1 (by simpa using hb.2)
  have h2 : (b.num * a.den).natAbs < 2 ^ (k + l) := by rw [Nat.add_comm]; exact mul_lt hb.1 (by simpa using ha.2)
  have h3 : ((a.den : Int) * b.den).natAbs < 2 ^ (k + l) := mul_lt (by simpa using ha.2) (by simpa using hb.2)
  refine sz_div ?_ (add_lt h1 h2) (lt_mono h3 (by omega))
  exact Int.mul_ne_zero (by omega) (by omega)
theorem sz_mul {a b : Rat} {k l : Nat} (ha : Sz k a) (hb : Sz l b) : Sz (k + l) (a * b) := by
  rw [← r_mul]
  have pa := rq_pos a
  have pb := rq_pos b
  refine sz_div (Int.mul_ne_zero (by omega) (by omega)) (mul_lt ha.1 hb.1) (mul_lt (by simpa using ha.2) (by simpa using hb.2))
theorem sz_zero : Sz 1 0 := ⟨by decide, by decide⟩
theorem sz_one : Sz 1 1 := ⟨by decide, by decide⟩
theorem sz_bg {k : Nat} {r : Rat} (h : Sz k r) (hk : k ≤ 4000) : Bg r.num ∧ Bg (r.den : Int) := ⟨lt_mono h.1 hk, by unfold Bg; exact lt_mono (by simpa using h.2) hk⟩
theorem sz_bgm {k l : Nat} {a b : Rat} (h : Sz k a) (g : Sz l b) (hk : k + l ≤ 4000) : Bg ((a.den : Int) * b.den) := lt_mono (mul_lt (by simpa using h.2) (by simpa using g.2)) hk
theorem r_den_ne (a b : Rat) : (a.den : Int) * b.den ≠ 0 := Int.mul_ne_zero (by have := rq_pos a; omega) (by have := rq_pos b; omega)
end F

set_option Elab.async false
set_option linter.all false
set_option maxRecDepth 100000
set_option maxHeartbeats 4000000
namespace Pk
open PySem L2 Hd F
/-! ### fractions -/
theorem wh_step {t : Me → Res Bool} {b : Me → Res (Fl × Me)} {n : Nat} {m m' : Me} {r : Res (Fl × Me)} (h1 : t m = .ok true) (h2 : b m = .ok (.nx, m')) (h3 : wh t b n m' = some r) : wh t b (n + 1) m = some r := by
  unfold wh
  rw [h1, h2]
  exact h3
theorem wh_done {t : Me → Res Bool} {b : Me → Res (Fl × Me)} {m : Me} (h1 : t m = .ok false) : wh t b 1 m = some (.ok (.nx, m)) := by
  unfold wh
  rw [h1]
theorem cd_loop (x y : Sl) : ∀ (n : Nat) (a b : Int) (z : Sl), b.toNat = n → 0 ≤ a → 0 ≤ b → ∃ k z', wh T_common_divisor_1 B_common_divisor_2 k [x, y, .fz (.int a), .fz (.int b), z] =
    some (.ok (.nx, [x, y, .fz (.int (gI a b)), .fz (.int 0), z'])) := by
  intro n
  induction n using Nat.strongRecOn with
  | _ n ih =>
    intro a b z hn ha hb
    by_cases h0 : b = 0
    · subst h0
      refine ⟨1, z, ?_⟩
      rw [gI_zero ha]
      exact wh_done rfl
    · have hb' : 0 < b := by omega
      have hm := Int.emod_lt_of_pos a hb'
      have hm0 := Int.emod_nonneg a h0
      obtain ⟨k, z', e⟩ := ih (a % b).toNat (by omega) b (a % b) (.fz (.int (a % b))) rfl hb hm0
      rw [gI_step ha hb'] at e
      refine ⟨k + 1, z', wh_step (m' := [x, y, .fz (.int b), .fz (.int (a % b)), .fz (.int (a % b))]) ?_ ?_ e⟩
      · simp [T_common_divisor_1, fCmpT, fVarB, fC, h0]
      · simp [B_common_divisor_2, gSeq, gSet, fBin, fVarB, fVar, gMod, mdI, h0, hb']
theorem F_common_divisor_eq (a b : Int) : F_common_divisor [.int a, .int b] = .ok (false, .int (gI a b)) := by
  obtain ⟨k, z', e⟩ := cd_loop (.fz (.int a)) (.fz (.int b)) _ (if a < 0 then -a else a) (if b < 0 then -b else b) .un rfl (by split <;> omega) (by split <;> omega)
  rw [gI_abs] at e
  have e2 := gWhile_eq k e
  simp [F_common_divisor, runF, g_common_divisor, c_common_divisor, L_common_divisor_3, gSeq, gSet, fCall, fCons, fNil, fVarB, gAbs, e2, gRet, Me.let, Sl.let, fVar]
theorem F_lowest_eq {t b : Int} (hb : b ≠ 0) (hB : Bg b) : F_lowest [.int t, .int b] = .ok (false, .tup [.int (lt t b), .int (lb t b)]) := by
  have hd := dv_ne (t := t) hb
  have hB' : Bg (dv t b) := by
    have h1 := gI_le (a := t) hb
    have h2 := dv_abs t b
    unfold Bg at hB ⊢
    omega
  have e1 : dvI t (dv t b) = lt t b := by
    unfold dvI lt
    split
    · rw [Int.fdiv_eq_ediv_of_nonneg t (by omega)]
    · rfl
  have e2 : dvI b (dv t b) = lb t b := by
    unfold dvI lb
    split
    · rw [Int.fdiv_eq_ediv_of_nonneg b (by omega)]
    · rfl
  by_cases h : b < 0
  · have e : dv t b = -gI t b := if_pos h
    rw [e] at e1 e2 hd hB'
    have hg : gI t b ≠ 0 := by omega
    simp [hg, F_lowest, runF, g_lowest, c_lowest, gSeq, gSet, fFn, fCons, fNil, fVar, fVarB, F_common_divisor_eq, gIf, fCmpT, fC, gLt, h, fUn, gNeg, gRet, Me.let, Sl.let, fTup, fBin, gDiv, hB', e1, e2]

  · have e : dv t b = gI t b := if_neg h
    rw [e] at e1 e2 hd hB'
    have hg : gI t b ≠ 0 := by omega
    simp [hg, F_lowest, runF, g_lowest, c_lowest, gSeq, gSet, fFn, fCons, fNil, fVar, fVarB, F_common_divisor_eq, gIf, fCmpT, fC, gLt, h, gNx, gRet, Me.let, Sl.let, fTup, fBin, gDiv, hB', e1, e2, hd]

theorem ix0 {a b : D} : atI [a, b] 0 = some a := rfl
theorem ix1 {a b : D} : atI [a, b] 1 = some b := rfl
theorem F_lowest_r {t b : Int} (hb : b ≠ 0) (hB : Bg b) : F_lowest [.int t, .int b] = .ok (false, rD (Rat.divInt t b)) := by
  rw [F_lowest_eq hb hB]
  have e := low_rq (t := t) hb
  show _ = Res.ok (false, qD (rq (Rat.divInt t b)))
  rw [← e]
  rfl
theorem F_plus_r {a b : Rat} {k l : Nat} (ha : Sz k a) (hb : Sz l b) (hk : k + l ≤ 4000) : F_plus [rD a, rD b] = .ok (false, rD (a + b)) := by
  obtain ⟨a1, a2⟩ := sz_bg ha (by omega)
  obtain ⟨b1, b2⟩ := sz_bg hb (by omega)
  have e := F_lowest_r (t := a.num * b.den + b.num * a.den) (r_den_ne a b) (sz_bgm ha hb hk)
  rw [r_add] at e
  simp [F_plus, runF, g_plus, c_plus, gRet, Me.let, Sl.let, fFn, fCons, fNil, fBin, fVarB, fC, gIx, rD_eq, ix0, ix1, gMul, gAdd, a1, a2, b1, b2]
  rw [e]
  simp [rD_eq]
theorem F_times_r {a b : Rat} {k l : Nat} (ha : Sz k a) (hb : Sz l b) (hk : k + l ≤ 4000) : F_times [rD a, rD b] = .ok (false, rD (a * b)) := by
  obtain ⟨a1, a2⟩ := sz_bg ha (by omega)
  obtain ⟨b1, b2⟩ := sz_bg hb (by omega)
  have e := F_lowest_r (t := a.num * b.num) (r_den_ne a b) (sz_bgm ha hb hk)
  rw [r_mul] at e
  simp [F_times, runF, g_times, c_times, gRet, Me.let, Sl.let, fFn, fCons, fNil, fBin, fVarB, fC, gIx, rD_eq, ix0, ix1, gMul, a1, a2, b1, b2]
  rw [e]
  simp [rD_eq]
end Pk

set_option Elab.async false
set_option linter.all false
set_option maxRecDepth 100000
set_option maxHeartbeats 4000000
namespace F
open PySem L2 Hd
/-! ### shares put together by their stakes -/
abbrev As := List (Rat × Rat)
def apt : As → Rat → Rat → As
  | [], q, s => [(q, s)]
  | (p, t) :: r, q, s => if p = q then (p, t + s) :: r else (p, t) :: apt r q s
def agt : As → Rat → Rat
  | [], _ => 0
  | (p, t) :: r, q => if p = q then t else agt r q
def aal (A l : As) : As := l.foldl (fun A x => apt A x.1 x.2) A
def gath (l : As) : As := aal [] l
def asc (s : Rat) (l : As) : As := l.map fun x => (x.1, s * x.2)
def atot : As → Rat
  | [] => 0
  | x :: r => x.2 + atot r
theorem aal_nil (A : As) : aal A [] = A := rfl
theorem aal_cons (A : As) (x : Rat × Rat) (l : As) : aal A (x :: l) = aal (apt A x.1 x.2) l := rfl
theorem aal_app (A l m : As) : aal A (l ++ m) = aal (aal A l) m := by unfold aal; rw [List.foldl_append]
/-- a part that stands already is told once more -/
theorem apt_comm (q a b : Rat) : ∀ A : As, apt (apt A q a) q b = apt A q (a + b)
  | [] => by simp [apt]
  | (p, t) :: r => by
    by_cases h : p = q
    · simp [apt, h]; grind
    · simp [apt, h, apt_comm q a b r]
/-- p stands there -/
def ahas (A : As) (q : Rat) : Prop := ∃ t, (q, t) ∈ A
theorem ahas_nil (q : Rat) : ¬ ahas [] q := fun ⟨_, h⟩ => nomatch h
theorem ahas_cons {p t q : Rat} {r : As} : ahas ((p, t) :: r) q ↔ p = q ∨ ahas r q := by
  constructor
  · rintro ⟨u, h⟩
    rcases List.mem_cons.mp h with e | h
    · injection e with e1 e2; exact .inl e1.symm
    · exact .inr ⟨u, h⟩
  · rintro (rfl | ⟨u, h⟩)
    · exact ⟨t, List.mem_cons_self⟩
    · exact ⟨u, List.mem_cons_of_mem _ h⟩
theorem ahas_apt {q s p : Rat} : ∀ {A : As}, ahas (apt A q s) p ↔ ahas A p ∨ p = q
  | [] => by simp [apt, ahas, eq_comm]
  | (a, t) :: r => by
    by_cases h : a = q
    · simp only [apt, if_pos h]
      rw [ahas_cons, ahas_cons]
      subst h
      constructor
      · rintro (e | e)
        · exact .inl (.inl e)
        · exact .inl (.inr e)
      · rintro ((e | e) | e)
        · exact .inl e
        · exact .inr e
        · exact .inl e.symm
    · simp only [apt, if_neg h]
      rw [ahas_cons, ahas_cons, ahas_apt]
      constructor
      · rintro (e | e | e)
        · exact .inl (.inl e)
        · exact .inl (.inr e)
        · exact .inr e
      · rintro ((e | e) | e)
        · exact .inl e
        · exact .inr (.inl e)
        · exact .inr (.inr e)
theorem apt_new {q s : Rat} : ∀ {A : As}, ¬ ahas A q → apt A q s = A ++ [(q, s)]
  | [], _ => rfl
  | (p, t) :: r, h => by
    rw [ahas_cons] at h
    have h1 : ¬ p = q := fun e => h (.inl e)
    simp only [apt, if_neg h1]
    rw [apt_new fun e => h (.inr e)]
    rfl
/-- what is told of q and of another p may be told the other way about, where p stands -/
theorem apt_swap {q a p b : Rat} (h : q ≠ p) : ∀ {A : As}, ahas A p → apt (apt A q a) p b = apt (apt A p b) q a
  | [], e => (ahas_nil _ e).elim
  | (c, t) :: r, e => by
    by_cases h1 : c = q
    · subst h1
      simp [apt, h]
    · by_cases h2 : c = p
      · subst h2
        simp [apt, h1]
      · rw [ahas_cons] at e
        have e' : ahas r p := e.resolve_left h2
        simp [apt, h1, h2, apt_swap h e']
theorem apt_aal {q s : Rat} : ∀ {l A : As}, ahas A q → apt (aal A l) q s = aal (apt A q s) l
  | [], _, _ => rfl
  | x :: l, A, h => by
    rw [aal_cons, aal_cons, apt_aal (ahas_apt.mpr (.inl h))]
    by_cases e : x.1 = q
    · rw [e, apt_comm, apt_comm]; congr 2; grind
    · rw [apt_swap e h]
/-- told in one, or one by one -/
theorem aal_apt {q s : Rat} : ∀ {G A : As}, aal A (apt G q s) = apt (aal A G) q s
  | [], A => rfl
  | (p, t) :: r, A => by
    by_cases h : p = q
    · subst h
      simp only [apt, if_true]
      rw [aal_cons, aal_cons, apt_aal (ahas_apt.mpr (.inr rfl)), apt_comm]
    · simp only [apt, if_neg h]
      rw [aal_cons, aal_cons, aal_apt]
theorem aal_aal {A : As} : ∀ {l G : As}, aal A (aal G l) = aal (aal A G) l
  | [], _ => rfl
  | x :: l, G => by rw [aal_cons, aal_cons, aal_aal, aal_apt]
theorem aal_gath (A l : As) : aal A (gath l) = aal A l := aal_aal
theorem asc_apt {s q x : Rat} : ∀ {A : As}, asc s (apt A q x) = apt (asc s A) q (s * x)
  | [] => rfl
  | (p, t) :: r => by
    by_cases h : p = q
    · simp [apt, asc, h]; grind
    · have := asc_apt (s := s) (q := q) (x := x) (A := r)
      simp only [asc] at this
      simp [apt, asc, h, this]
theorem asc_aal {s : Rat} : ∀ {l A : As}, asc s (aal A l) = aal (asc s A) (asc s l)
  | [], _ => rfl
  | x :: l, A => by rw [aal_cons, asc_aal, asc_apt]; rfl
theorem asc_gath (s : Rat) (l : As) : asc s (gath l) = gath (asc s l) := asc_aal
theorem atot_apt {q s : Rat} : ∀ {A : As}, atot (apt A q s) = atot A + s
  | [] => by simp [apt, atot]; grind
  | (p, t) :: r => by
    by_cases h : p = q
    · simp [apt, atot, h]; grind
    · simp [apt, atot, h, atot_apt]; grind
theorem atot_aal : ∀ {l A : As}, atot (aal A l) = atot A + atot l
  | [], A => by simp [aal_nil, atot]; grind
  | x :: l, A => by rw [aal_cons, atot_aal, atot_apt]; simp [atot]; grind
theorem atot_gath (l : As) : atot (gath l) = atot l := by unfold gath; rw [atot_aal]; simp [atot]; grind
theorem atot_app : ∀ l m : As, atot (l ++ m) = atot l + atot m
  | [], m => by simp [atot]; grind
  | x :: l, m => by simp [atot, atot_app l m]; grind
/-- keys that differ -/
def And (A : As) : Prop := (A.map (·.1)).Nodup
theorem and_apt {q s : Rat} : ∀ {A : As}, And A → And (apt A q s)
  | [], _ => by simp [apt, And]
  | (p, t) :: r, h => by
    have h' : (∀ u, (p, u) ∉ r) ∧ And r := by
      unfold And at h ⊢
      rw [List.map_cons, List.nodup_cons] at h
      exact ⟨fun u hu => h.1 (List.mem_map.mpr ⟨_, hu, rfl⟩), h.2⟩
    by_cases e : p = q
    · simp only [apt, if_pos e]
      unfold And at h ⊢
      exact h
    · simp only [apt, if_neg e]
      have ih := and_apt (q := q) (s := s) h'.2
      unfold And at ih ⊢
      rw [List.map_cons, List.nodup_cons]
      refine ⟨fun z => ?_, ih⟩
      obtain ⟨y, hy, ey⟩ := List.mem_map.mp z
      have : ahas (apt r q s) p := ⟨y.2, by obtain ⟨y1, y2⟩ := y; cases ey; exact hy⟩
      rcases ahas_apt.mp this with ⟨u, hu⟩ | e'
      · exact h'.1 u hu
      · exact e e'
theorem and_aal : ∀ {l A : As}, And A → And (aal A l)
  | [], _, h => h
  | x :: l, A, h => by rw [aal_cons]; exact and_aal (and_apt h)
theorem and_gath (l : As) : And (gath l) := and_aal (by simp [And])
/-- of keys that differ nothing is put together -/
theorem aal_new : ∀ {l A : As}, And (A ++ l) → aal A l = A ++ l
  | [], A, _ => by simp [aal_nil]
  | x :: l, A, h => by
    have n : ¬ ahas A x.1 := by
      rintro ⟨t, ht⟩
      unfold And at h
      rw [List.map_append, List.map_cons] at h
      have := (List.nodup_append.mp h).2.2 x.1 (List.mem_map.mpr ⟨_, ht, rfl⟩) x.1 List.mem_cons_self
      exact this rfl
    rw [aal_cons, apt_new n]
    have e : A ++ x :: l = (A ++ [(x.1, x.2)]) ++ l := by simp
    rw [e] at h ⊢
    exact aal_new h
theorem gath_new {l : As} (h : And l) : gath l = l := by
  have := aal_new (A := []) (l := l) (by simpa using h)
  simpa [gath] using this
theorem agt_apt {q s p : Rat} : ∀ {A : As}, agt (apt A q s) p = if p = q then agt A q + s else agt A p
  | [] => by
    by_cases h : p = q
    · simp [apt, agt, h]; grind
    · have h' : ¬ q = p := fun e => h e.symm
      simp [apt, agt, h, h']
  | (a, t) :: r => by
    by_cases h : a = q
    · subst h
      by_cases h2 : p = a
      · simp [apt, agt, h2]
      · have h3 : ¬ a = p := fun e => h2 e.symm
        simp [apt, agt, h2, h3]
    · by_cases h2 : a = p
      · subst h2
        simp [apt, agt, h]
      · simp [apt, agt, h, h2, agt_apt]
theorem agt_not {q : Rat} : ∀ {A : As}, ¬ ahas A q → agt A q = 0
  | [], _ => rfl
  | (p, t) :: r, h => by
    rw [ahas_cons] at h
    simp [agt, show ¬ p = q from fun e => h (.inl e), agt_not fun e => h (.inr e)]
theorem agt_mem {q t : Rat} : ∀ {A : As}, And A → (q, t) ∈ A → agt A q = t
  | (p, u) :: r, hn, h => by
    unfold And at hn
    rw [List.map_cons, List.nodup_cons] at hn
    rcases List.mem_cons.mp h with e | h
    · cases e; simp [agt]
    · have : ¬ p = q := fun e => hn.1 (List.mem_map.mpr ⟨_, h, e.symm⟩)
      simp [agt, this, agt_mem hn.2 h]
theorem len_apt {q s : Rat} : ∀ {A : As}, (apt A q s).length ≤ A.length + 1
  | [] => by simp [apt]
  | (p, t) :: r => by
    by_cases h : p = q
    · simp [apt, h]
    · have := len_apt (q := q) (s := s) (A := r); simp [apt, h]; exact this
theorem len_aal : ∀ {l A : As}, (aal A l).length ≤ A.length + l.length
  | [], A => by simp [aal_nil]
  | x :: l, A => by
    have h1 := len_aal (l := l) (A := apt A x.1 x.2)
    have h2 := len_apt (q := x.1) (s := x.2) (A := A)
    rw [aal_cons, List.length_cons]
    omega
theorem apt_ne {q s : Rat} {A : As} : apt A q s ≠ [] := by
  cases A with
  | nil => simp [apt]
  | cons x r => obtain ⟨p, t⟩ := x; unfold apt; split <;> simp
theorem aal_ne : ∀ {l A : As}, A ≠ [] → aal A l ≠ []
  | [], _, h => h
  | x :: l, A, h => by rw [aal_cons]; exact aal_ne apt_ne
theorem gath_ne {l : As} (h : l ≠ []) : gath l ≠ [] := by
  cases l with
  | nil => exact absurd rfl h
  | cons x l =>
    show aal (apt [] x.1 x.2) l ≠ []
    exact aal_ne apt_ne
/-- the sizes of what is put together: each part at most k, the whole by their number -/
theorem agt_size {k : Nat} {l : As} (h : ∀ x ∈ l, Sz k x.2) : ∀ q, Sz (l.length * (k + 1) + 1) (agt (gath l) q) := by
  have go : ∀ (l A : As) (c : Nat), (∀ x ∈ l, Sz k x.2) → (∀ q, Sz c (agt A q)) → ∀ q, Sz (l.length * (k + 1) + c) (agt (aal A l) q) := by
    intro l
    induction l with
    | nil => intro A c _ h q; simpa [aal_nil] using h q
    | cons x l ih =>
      intro A c h1 h2 q
      rw [aal_cons]
      have := ih (apt A x.1 x.2) (c + k + 1) (fun y hy => h1 y (List.mem_cons_of_mem _ hy)) (fun p => by
        rw [agt_apt]
        split
        · exact sz_add (h2 _) (h1 x List.mem_cons_self)
        · exact (h2 p).mono (by omega)) q
      refine this.mono ?_
      rw [List.length_cons, Nat.succ_mul]
      omega
  exact go l [] 1 h fun q => by simp [agt]; exact sz_zero
/-! ### the same as a dict whose keys are ends -/
def kq (q : Rat) : List Kt := [.k (.inr "end"), .t [.k (.inl q.num), .k (.inl q.den)]]
def dE (q : Rat) : D := .tup [.str "end", rD q]
theorem keyT_dE (q : Rat) : keyT (dE q) = some (kq q) := by simp [dE, keyT, ktsWith, ktD, rD_eq, kq]
theorem tupK_kq (q : Rat) : tupK (kq q) = dE q := by simp [tupK, kq, ktVs, ktV, keyV, dE, rD_eq]
theorem kq_inj {a b : Rat} (h : kq a = kq b) : a = b := by
  unfold kq at h
  injection h with _ h
  injection h with h _
  injection h with h
  injection h with h1 h
  injection h with h2 _
  injection h1 with h1
  injection h2 with h2
  injection h1 with h1
  injection h2 with h2
  exact rq_inj (Prod.ext h1 h2)
def aks (A : As) : List (List Kt) := A.map fun x => kq x.1
def avs (A : As) : List D := A.map fun x => rD x.2
theorem valU_as (q : Rat) (d : D) : ∀ A : As, (valU (aks A) (avs A) (kq q)).getD (rD 0) = rD (agt A q)
  | [] => by simp [aks, avs, valU, agt]
  | (p, t) :: r => by
    have ih := valU_as q d r
    simp only [aks, avs] at ih
    by_cases h : p = q
    · subst h; simp [aks, avs, valU, agt]
    · have h' : ¬ kq p = kq q := fun e => h (kq_inj e)
      simp [aks, avs, valU, agt, h, h', ih]
theorem valU_in (q : Rat) : ∀ A : As, ahas A q → valU (aks A) (avs A) (kq q) = some (rD (agt A q))
  | [], h => (ahas_nil _ h).elim
  | (p, t) :: r, h => by
    by_cases e : p = q
    · subst e; simp [aks, avs, valU, agt]
    · have h' : ¬ kq p = kq q := fun z => e (kq_inj z)
      have ih := valU_in q r ((ahas_cons.mp h).resolve_left e)
      simp only [aks, avs] at ih
      simp [aks, avs, valU, agt, e, h', ih]
theorem replU_as (q s : Rat) : ∀ A : As, And A → ahas A q → replU (aks A) (avs A) (kq q) (rD (agt A q + s)) = avs (apt A q s)
  | [], _, h => (ahas_nil _ h).elim
  | (p, t) :: r, hn, h => by
    unfold And at hn
    rw [List.map_cons, List.nodup_cons] at hn
    by_cases e : p = q
    · subst e
      have nr : ∀ x ∈ r, ¬ kq x.1 = kq p := fun x hx z => hn.1 (List.mem_map.mpr ⟨x, hx, kq_inj z⟩)
      have : ∀ (r : As) (d : D), (∀ x ∈ r, ¬ kq x.1 = kq p) → replU (aks r) (avs r) (kq p) d = avs r := by
        intro r d
        induction r with
        | nil => intro _; rfl
        | cons x r ih =>
          intro h
          have ih := ih fun y hy => h y (List.mem_cons_of_mem _ hy)
          simp only [aks, avs] at ih
          simp [aks, avs, replU, h x List.mem_cons_self, ih]
      have e2 := this r (rD (t + s)) nr
      simp only [aks, avs] at e2
      simp [aks, avs, replU, agt, apt, e2]
    · have h' : ¬ kq p = kq q := fun z => e (kq_inj z)
      have ih := replU_as q s r hn.2 ((ahas_cons.mp h).resolve_left e)
      simp only [aks, avs] at ih
      simp [aks, avs, replU, agt, apt, e, h', ih]
theorem aks_any (q : Rat) : ∀ A : As, ((aks A).any fun x => decide (x = kq q)) = true ↔ ahas A q
  | [] => by simp [aks, ahas]
  | (p, t) :: r => by
    have ih := aks_any q r
    simp only [aks] at ih
    rw [ahas_cons, ← ih]
    simp only [aks, List.map_cons, List.any_cons, Bool.or_eq_true, decide_eq_true_eq]
    constructor
    · rintro (e | e)
      · exact .inl (kq_inj e)
      · exact .inr e
    · rintro (e | e)
      · exact .inl (by rw [e])
      · exact .inr e
theorem aks_apt {q s : Rat} : ∀ {A : As}, ahas A q → aks (apt A q s) = aks A
  | [], h => (ahas_nil _ h).elim
  | (p, t) :: r, h => by
    by_cases e : p = q
    · simp [aks, apt, e]
    · have ih := aks_apt (s := s) ((ahas_cons.mp h).resolve_left e)
      simp only [aks] at ih
      simp [aks, apt, e, ih]
theorem putU_as {A : As} (hn : And A) (q s : Rat) : putU (aks A) (avs A) (kq q) (rD (agt A q + s)) = (aks (apt A q s), avs (apt A q s)) := by
  unfold putU
  by_cases h : ahas A q
  · rw [if_pos ((aks_any q A).mpr h), replU_as q s A hn h, aks_apt h]
  · rw [if_neg fun z => h ((aks_any q A).mp z), apt_new h, agt_not h]
    simp [aks, avs]
    grind
end F

set_option Elab.async false
set_option linter.all false
set_option maxRecDepth 100000
set_option maxHeartbeats 4000000
namespace Pk
open PySem L2 Hd F
theorem let_fz (d : D) : Sl.let (.fz d) = .fz d := rfl
theorem let_ow (d : D) : Sl.let (.ow d) = .fz d := rfl
theorem let_un : Sl.let .un = .un := rfl
def wD (x : Rat × Rat) : D := .tup [rD x.2, dE x.1]
/-- a game folded: an end where there is one stake alone -/
def dF (n : Str) (A : As) : D := match A with
  | [x] => dE x.1
  | _ => .tup [.str "deal", .str n, .tup (A.map wD)]
theorem rD_zero : rD 0 = .tup [.int 0, .int 1] := rfl
theorem put_step {A : As} {q s : Rat} {a b : Nat} {s0 : Sl} (hn : And A) (ha : Sz a (agt A q)) (hb : Sz b s) (hab : a + b ≤ 4000) (hl : A.length < 16777216) :
    B_put_together_1 [s0, .ow (.dcu (aks A) (avs A)), .fz (rD s), .fz (dE q)] = .ok (.nx, [s0, .ow (.dcu (aks (apt A q s)) (avs (apt A q s))), .fz (rD s), .fz (dE q)]) := by
  have e1 := F_plus_r ha hb hab
  have e2 := valU_as q (rD 0) A
  have e3 := putU_as hn q s
  have e4 : (aks A).length < 16777216 := by simpa [aks] using hl
  rw [rD_zero] at e2
  simp [B_put_together_1, gUPut, fFn, fCons, fNil, fUGet2, fVarB, fVar, fC, dcK, keyT_dE, e2, e1, ownU, e4, putMU, e3]
theorem put_together_eq {l : As} (hl : l.length ≤ 1000) (h : ∀ (i : Nat) (x : Rat × Rat), l[i]? = some x → ∃ a b, Sz a (agt (gath (l.take i)) x.1) ∧ Sz b x.2 ∧ a + b ≤ 4000) :
    F_put_together [.lst (l.map wD)] = .ok (true, .lst ((gath l).map wD)) := by
  have lp : ∃ m', L_put_together_2 [.fz (.lst (l.map wD)), .ow (.dcu [] []), .un, .un] = .ok (.nx, m') ∧ ∃ s2 s3, m' = [.fz (.lst (l.map wD)), .ow (.dcu (aks (gath l)) (avs (gath l))), s2, s3] := by
    have := loop_inv (h := hTup 2 (hCons (hName 2) (hCons (hName 3) hNil))) (g := B_put_together_1) (fun i m => ∃ s2 s3, m = [.fz (.lst (l.map wD)), .ow (.dcu (aks (gath (l.take i))) (avs (gath (l.take i)))), s2, s3]) (l.map wD) 0 [.fz (.lst (l.map wD)), .ow (.dcu [] []), .un, .un] ⟨.un, .un, rfl⟩ (by
      rintro j d m hj ⟨s2, s3, rfl⟩
      rw [List.getElem?_map] at hj
      obtain ⟨x, hx, rfl⟩ := Option.map_eq_some_iff.mp hj
      obtain ⟨a, b, h1, h2, h3⟩ := h j x hx
      simp only [Nat.zero_add]
      have hlt : j < l.length := (List.getElem?_eq_some_iff.mp hx).1
      have hlen : (gath (l.take j)).length < 16777216 := by
        have := len_aal (l := l.take j) (A := [])
        unfold gath
        simp at this
        omega
      have tk : l.take (j + 1) = l.take j ++ [x] := by rw [List.take_succ, hx]; rfl
      refine ⟨[.fz (.lst (l.map wD)), .ow (.dcu (aks (gath (l.take j))) (avs (gath (l.take j)))), .fz (rD x.2), .fz (dE x.1)], _, by simp [hTup, hCons, hName, hNil, wD], put_step (and_gath _) h1 h2 h3 hlen, .fz (rD x.2), .fz (dE x.1), ?_⟩
      rw [tk]
      unfold gath
      rw [aal_app]
      rfl)
    obtain ⟨m', e, s2, s3, rfl⟩ := this
    refine ⟨_, ?_, s2, s3, rfl⟩
    rw [Nat.zero_add, List.length_map, List.take_length] at e
    unfold L_put_together_2 gFor
    simp only [fItL, fVar, List.getElem?_cons_zero, Res.bind_ok]
    exact e
  obtain ⟨m', e1, s2, s3, rfl⟩ := lp
  have it : ∀ A : As, itemsD (aks A) (avs A) = A.map fun x => D.tup [dE x.1, rD x.2] := by
    intro A
    induction A with
    | nil => rfl
    | cons x A ih => simp only [aks, avs] at ih; simp [aks, avs, itemsD, tupK_kq, ih]
  have cl : compL (hTup 2 (hCons (hName 0) (hCons (hName 1) hNil))) fAll E_put_together_3 [.un, .un] ((gath l).map fun x => D.tup [dE x.1, rD x.2]) = .ok ((gath l).map wD) := by
    have : ∀ A : As, compL (hTup 2 (hCons (hName 0) (hCons (hName 1) hNil))) fAll E_put_together_3 [.un, .un] (A.map fun x => D.tup [dE x.1, rD x.2]) = .ok (A.map wD) := by
      intro A
      induction A with
      | nil => rfl
      | cons x A ih =>
        have ee : E_put_together_3 [.fz (dE x.1), .fz (rD x.2)] = .ok (wD x) := by simp [E_put_together_3, fTup, fCons, fNil, fVar, wD]
        rw [List.map_cons]
        unfold compL
        simp [hTup, hCons, hName, hNil, fAll, ee, ih]
    exact this _
  have hlen : (gath l).length ≤ 16777216 := by
    have := len_aal (l := l) (A := [])
    unfold gath
    simp at this
    omega
  have q4 : Q_put_together_4 [.fz (.lst (l.map wD)), .fz (.dcf (aks (gath l)) (avs (gath l))), s2.let, s3.let] = .ok (.lst ((gath l).map wD)) := by
    simp [Q_put_together_4, fComp, fItI, fVar, it, cMe, hlen, cl]
  simp [F_put_together, runF, g_put_together, c_put_together, gSeq, gOwn, fUNew, e1, gFrz, gRetN, Me.let, let_fz, q4]
/-- of one deal's way: what is behind it, its share taken along -/
theorem opened_eq {n : Str} {A : As} {s : Rat} {a b : Nat} (h1 : ∀ x, A = [x] → x.2 = 1) (hs : Sz a s) (hA : ∀ x ∈ A, Sz b x.2) (hab : a + b ≤ 4000) (hl : A.length ≤ 1000) :
    F_opened_out [rD s, dF n A] = .ok (true, .lst ((asc s A).map wD)) := by
  match A, h1, hA, hl with
  | [x], h1, _, _ =>
    have e : x.2 = 1 := h1 x rfl
    have e2 : (asc s [x]).map wD = [.tup [rD s, dE x.1]] := by simp [asc, wD, e]
    rw [e2]
    simp [F_opened_out, runF, g_opened_out, c_opened_out, gSeq, gIf, fCmpT, fBin, fVarB, fC, gIx, dF, dE, ix0, gRetN, Me.let, Sl.let, fLst, fTup, fCons, fNil, fVar]
  | [], _, _, _ =>
    simp [F_opened_out, runF, g_opened_out, c_opened_out, gSeq, gIf, fCmpT, fBin, fVarB, fC, gIx, dF, gRetN, gNx, Me.let, Sl.let, Q_opened_out_2, fComp, fItT, cMe, compL, asc, show atI [D.str "deal", D.str n, D.tup []] 0 = some (.str "deal") from rfl, show atI [D.str "deal", D.str n, D.tup []] 2 = some (.tup []) from rfl]
  | x :: y :: r, _, hA, hl =>
    generalize hB : x :: y :: r = B at hA hl
    have ed : dF n B = .tup [.str "deal", .str n, .tup (B.map wD)] := by rw [← hB]; rfl
    have cl : ∀ C : As, (∀ x ∈ C, Sz b x.2) → compL (hTup 2 (hCons (hName 0) (hCons (hName 1) hNil))) fAll E_opened_out_1 [.un, .un, .fz (rD s)] (C.map wD) = .ok ((asc s C).map wD) := by
      intro C
      induction C with
      | nil => intro _; rfl
      | cons x C ih =>
        intro h
        have et := F_times_r hs (h x List.mem_cons_self) hab
        have ih := ih fun y hy => h y (List.mem_cons_of_mem _ hy)
        have ee : E_opened_out_1 [.fz (rD x.2), .fz (dE x.1), .fz (rD s)] = .ok (wD (x.1, s * x.2)) := by simp [E_opened_out_1, fTup, fCons, fNil, fVar, fFn, et, wD]
        have ea : asc s (x :: C) = (x.1, s * x.2) :: asc s C := rfl
        rw [List.map_cons, ea, List.map_cons]
        unfold compL
        have hh : hTup 2 (hCons (hName 0) (hCons (hName 1) hNil)) (wD x) [.un, .un, .fz (rD s)] = some [.fz (rD x.2), .fz (dE x.1), .fz (rD s)] := by simp [hTup, hCons, hName, hNil, wD]
        rw [hh]
        simp only [fAll, ee, ih]
    have cl := cl B hA
    have hz : (B.map wD).length ≤ 16777216 := by rw [List.length_map]; omega
    rw [ed]
    have q2 : Q_opened_out_2 [.fz (rD s), .fz (.tup [.str "deal", .str n, .tup (B.map wD)])] = .ok (.lst ((asc s B).map wD)) := by
      unfold Q_opened_out_2 fComp
      simp only [fItT, fBin, fVarB, fC, List.getElem?_cons_succ, List.getElem?_cons_zero, Res.bind_ok, gIx, show atI [D.str "deal", D.str n, D.tup (B.map wD)] 2 = some (.tup (B.map wD)) from rfl, Option.map_some, Option.bind_some, ofO_some]
      rw [if_pos (by rw [szl]; exact hz)]
      have : cMe 2 [0] [Sl.fz (rD s), .fz (.tup [.str "deal", .str n, .tup (B.map wD)])] = [.un, .un, .fz (rD s)] := rfl
      rw [this, cl]
    have i0 : gIx (.tup [.str "deal", .str n, .tup (B.map wD)]) (.int 0) = some (.str "deal") := rfl
    simp [F_opened_out, runF, g_opened_out, c_opened_out, gSeq, gIf, fCmpT, fBin, fVarB, fC, i0, gRetN, gNx, Me.let, Sl.let, q2]
/-! a deal folded: its ways w = (share, what is behind it as it is written, its name, its stakes) -/
structure Wy where
  s : Rat
  d : D
  n : Str
  A : As
def wyD (w : Wy) : D := .tup [rD w.s, w.d]
def wyF (w : Wy) : D := .tup [rD w.s, dF w.n w.A]
def wyA (ws : List Wy) : As := ws.flatMap fun w => asc w.s w.A
structure WyOk (a b : Nat) (w : Wy) : Prop where
  one : ∀ x, w.A = [x] → x.2 = 1
  hs : Sz a w.s
  hA : ∀ x ∈ w.A, Sz b x.2
  len : w.A.length ≤ 1000
theorem with_ways_eq {n : Str} {ds : List D} {x : D} (hl : ds.length ≤ 16777216) : F_with_ways [.tup [.str "deal", .str n, x], .lst ds] = .ok (false, .tup [.str "deal", .str n, .tup ds]) := by
  have e : gSl (.tup [.str "deal", .str n, x]) none (some (-1)) = some (.tup [.str "deal", .str n]) := rfl
  simp [F_with_ways, runF, g_with_ways, c_with_ways, gRet, Me.let, Sl.let, fBin, fSl, fVarB, fO0, fO1, fC, fUn, gNeg, e, fTup, fCons, fNil, fCall, gTuple, gAdd]
theorem folded_deal_eq {n : Str} {ws : List Wy} {a b : Nat} (hab : a + b ≤ 4000) (hw : ∀ w ∈ ws, WyOk a b w) (hl : (wyA ws).length ≤ 1000)
    (h : ∀ (i : Nat) (x : Rat × Rat), (wyA ws)[i]? = some x → ∃ a b, Sz a (agt (gath ((wyA ws).take i)) x.1) ∧ Sz b x.2 ∧ a + b ≤ 4000) :
    F_folded_deal [.tup [.str "deal", .str n, .tup (ws.map wyF)]] = .ok (false, dF n (gath (wyA ws))) := by
  generalize hd : D.tup [.str "deal", .str n, .tup (ws.map wyF)] = dd
  have lp : ∀ (us vs : List Wy) (s2 s3 : Sl), ws = us ++ vs → ∃ s2' s3', loopL (hTup 2 (hCons (hName 2) (hCons (hName 3) hNil))) B_folded_deal_1 (vs.map wyF) [.fz dd, .ow (.lst ((wyA us).map wD)), s2, s3] = .ok (.nx, [.fz dd, .ow (.lst ((wyA ws).map wD)), s2', s3']) := by
    intro us vs
    induction vs generalizing us with
    | nil => intro s2 s3 e; rw [List.append_nil] at e; subst e; exact ⟨s2, s3, rfl⟩
    | cons w vs ih =>
      intro s2 s3 e
      have e' : ws = (us ++ [w]) ++ vs := by rw [e]; simp
      obtain ⟨z2, z3, ih⟩ := ih (us ++ [w]) (.fz (rD w.s)) (.fz (dF w.n w.A)) e'
      refine ⟨z2, z3, ?_⟩
      have ok := hw w (by rw [e]; simp)
      have eo := opened_eq (n := w.n) ok.one ok.hs ok.hA hab ok.len
      have ea : wyA (us ++ [w]) = wyA us ++ asc w.s w.A := by simp [wyA]
      have eb : (wyA us).length + (asc w.s w.A).length ≤ 16777216 := by
        have : wyA ws = wyA us ++ asc w.s w.A ++ wyA vs := by rw [e]; simp [wyA]
        rw [this] at hl
        simp at hl
        omega
      rw [ea, List.map_append] at ih
      rw [List.map_cons]
      unfold loopL
      have st : B_folded_deal_1 [.fz dd, .ow (.lst ((wyA us).map wD)), .fz (rD w.s), .fz (dF w.n w.A)] = .ok (.nx, [.fz dd, .ow (.lst ((wyA us).map wD ++ (asc w.s w.A).map wD)), .fz (rD w.s), .fz (dF w.n w.A)]) := by
        have eb' : ((wyA us).map wD).length + ((asc w.s w.A).map wD).length ≤ 16777216 := by simpa using eb
        simp only [B_folded_deal_1, gExtend, fFnN, fCons, fNil, fVar, List.getElem?_cons_succ, List.getElem?_cons_zero, Res.bind_ok, eo, ownL, ofO_some, if_true, szl]
        rw [if_pos eb']
        rfl
      have hh : hTup 2 (hCons (hName 2) (hCons (hName 3) hNil)) (wyF w) [.fz dd, .ow (.lst ((wyA us).map wD)), s2, s3] = some [.fz dd, .ow (.lst ((wyA us).map wD)), .fz (rD w.s), .fz (dF w.n w.A)] := by simp [hTup, hCons, hName, hNil, wyF]
      rw [hh]
      simp only [st]
      exact ih
  obtain ⟨s2, s3, lp⟩ := lp [] ws .un .un rfl
  have lp : L_folded_deal_2 [.fz dd, .ow (.lst []), .un, .un] = .ok (.nx, [.fz dd, .ow (.lst ((wyA ws).map wD)), s2, s3]) := by
    unfold L_folded_deal_2 gFor
    have ei : fItT (fBin gIx (fVarB 0) (fC (.int 2))) [.fz dd, .ow (.lst []), .un, .un] = .ok (ws.map wyF) := by rw [← hd]; rfl
    rw [ei]
    exact lp
  have pt := put_together_eq hl h
  have hlen : (gath (wyA ws)).length ≤ 1000 := by
    have := len_aal (l := wyA ws) (A := [])
    unfold gath
    simp at this
    omega
  generalize hG : gath (wyA ws) = G at pt hlen ⊢
  have key : ∀ (m : Me), m = [.fz dd, .fz (.lst (G.map wD)), s2.let, s3.let] → fIf (fCmpT gEq (fCall gLen (fCons (fVarB 1) fNil)) (fC (.int 1))) (fBin gIx (fBin gIx (fVarB 1) (fC (.int 0))) (fC (.int 1))) (fFn F_with_ways (fCons (fVar 0) (fCons (fVar 1) fNil))) m = .ok (dF n G) := by
    rintro m rfl
    match G, hlen with
    | [x], _ =>
      have e : gIx (D.lst [wD x]) (.int 0) = some (wD x) := rfl
      have e' : gIx (wD x) (.int 1) = some (dE x.1) := rfl
      simp [fIf, fCmpT, fCall, fCons, fNil, fVarB, fC, gLen, fBin, e, e', dF]
    | [], _ =>
      have ew := with_ways_eq (n := n) (ds := []) (x := .tup (ws.map wyF)) (by decide)
      rw [hd] at ew
      simp [fIf, fCmpT, fCall, fCons, fNil, fVarB, fVar, fC, gLen, fFn, dF, ew]
    | x :: y :: r, hlen =>
      have ew := with_ways_eq (n := n) (ds := (x :: y :: r).map wD) (x := .tup (ws.map wyF)) (by rw [List.length_map]; omega)
      rw [hd] at ew
      have e1 : gLen [D.lst ((x :: y :: r).map wD)] = some (.int (((x :: y :: r).map wD).length : Nat)) := rfl
      have e2 : ¬ ((((x :: y :: r).map wD).length : Int) = 1) := by simp; omega
      have e3 : dF n (x :: y :: r) = .tup [.str "deal", .str n, .tup ((x :: y :: r).map wD)] := rfl
      generalize (x :: y :: r).map wD = L at ew e1 e2 e3
      simp only [fIf, fCmpT, fCall, fCons, fNil, fVarB, fVar, fC, fFn, List.getElem?_cons_succ, List.getElem?_cons_zero, Res.bind_ok, e1, ofO_some, gEq_int, e2, decide_false, Bool.false_eq_true, if_false, ew, e3]
  have kk := key _ rfl
  simp [F_folded_deal, runF, g_folded_deal, c_folded_deal, gSeq, gOwn, fLst, fNil, lp, gLet, fFnN, fCons, fVar, pt, gRet, Me.let, let_fz, let_ow, kk]
theorem folded_end (k : Nat) (q : Rat) : F_folded (k + 1) [dE q] = .ok (false, dE q) := by
  have i0 : gIx (dE q) (.int 0) = some (.str "end") := rfl
  simp [F_folded, runF, c_folded, gSeq, gIf, fCmpT, fBin, fVarB, fC, i0, gRet, Me.let, Sl.let, fVar]
theorem folded_step {k : Nat} {n : Str} {ws : List Wy} {a b : Nat} (hab : a + b ≤ 4000) (hw : ∀ w ∈ ws, WyOk a b w) (hn : ws.length ≤ 1000) (hl : (wyA ws).length ≤ 1000)
    (h : ∀ (i : Nat) (x : Rat × Rat), (wyA ws)[i]? = some x → ∃ a b, Sz a (agt (gath ((wyA ws).take i)) x.1) ∧ Sz b x.2 ∧ a + b ≤ 4000)
    (hf : ∀ w ∈ ws, F_folded k [w.d] = .ok (false, dF w.n w.A)) :
    F_folded (k + 1) [.tup [.str "deal", .str n, .tup (ws.map wyD)]] = .ok (false, dF n (gath (wyA ws))) := by
  have cl : ∀ us : List Wy, (∀ w ∈ us, F_folded k [w.d] = .ok (false, dF w.n w.A)) → compL (hTup 2 (hCons (hName 0) (hCons (hName 1) hNil))) fAll (E_folded_1 (F_folded k)) [.un, .un] (us.map wyD) = .ok (us.map wyF) := by
    intro us
    induction us with
    | nil => intro _; rfl
    | cons w us ih =>
      intro h
      have ih := ih fun y hy => h y (List.mem_cons_of_mem _ hy)
      have ee : E_folded_1 (F_folded k) [.fz (rD w.s), .fz w.d] = .ok (wyF w) := by simp [E_folded_1, fTup, fCons, fNil, fVar, fFn, h w List.mem_cons_self, wyF]
      rw [List.map_cons]
      unfold compL
      have hh : hTup 2 (hCons (hName 0) (hCons (hName 1) hNil)) (wyD w) [.un, .un] = some [.fz (rD w.s), .fz w.d] := by simp [hTup, hCons, hName, hNil, wyD]
      rw [hh]
      simp [fAll, ee, ih]
  have cl := cl ws hf
  generalize hd : D.tup [.str "deal", .str n, .tup (ws.map wyD)] = dd
  have q2 : Q_folded_2 (F_folded k) [.fz dd, .un] = .ok (.lst (ws.map wyF)) := by
    unfold Q_folded_2 fComp
    have ei : fItT (fBin gIx (fVarB 0) (fUn gNeg (fC (.int 1)))) [.fz dd, .un] = .ok (ws.map wyD) := by rw [← hd]; rfl
    rw [ei]
    simp only [Res.bind_ok]
    rw [if_pos (by rw [szl, List.length_map]; omega)]
    rw [show cMe 2 [] [Sl.fz dd, .un] = [.un, .un] from rfl, cl]
  have ew := with_ways_eq (n := n) (ds := ws.map wyF) (x := .tup (ws.map wyD)) (by rw [List.length_map]; omega)
  rw [hd] at ew
  have ef := folded_deal_eq (n := n) hab hw hl h
  have i0 : gIx dd (.int 0) = some (.str "deal") := by rw [← hd]; rfl
  simp [F_folded, runF, c_folded, gSeq, gIf, fCmpT, fBin, fVarB, fC, i0, gRet, Me.let, let_fz, fVar, gNx, gSet, fFn, fCons, fNil, q2, ew, fIf, ef]
end Pk

set_option Elab.async false
set_option linter.all false
set_option maxRecDepth 100000
set_option maxHeartbeats 4000000
namespace K47
open PySem Hd F Pk
open L2 (atI ixN)
/-! ### the law's own fractions -/
theorem gI_step' {a b : Int} (hb : 0 < b) : gI b (a % b) = gI a b := by
  unfold gI
  have h1 : Int.gcd b (a % b) ∣ Int.gcd a b := by
    refine Int.dvd_gcd ?_ (Int.gcd_dvd_left _ _)
    have e := Int.emod_add_mul_ediv a b
    have d1 := Int.gcd_dvd_right b (a % b)
    have d2 := Int.dvd_mul_of_dvd_left (c := a / b) (Int.gcd_dvd_left b (a % b))
    have := Int.dvd_add d1 d2
    rw [e] at this
    exact this
  have h2 : Int.gcd a b ∣ Int.gcd b (a % b) := by
    refine Int.dvd_gcd (Int.gcd_dvd_right _ _) ?_
    have e : a % b = a - b * (a / b) := by have := Int.emod_add_mul_ediv a b; omega
    rw [e]
    exact Int.dvd_sub (Int.gcd_dvd_left a b) (Int.dvd_mul_of_dvd_left (c := a / b) (Int.gcd_dvd_right a b))
  rw [Nat.dvd_antisymm h1 h2]
theorem gI_zero' (a : Int) : gI a 0 = if a < 0 then -a else a := by
  unfold gI
  rw [Int.gcd_zero_right]
  split <;> omega
theorem dv_loop : ∀ (n : Nat) (a b : Int), b.toNat = n → 0 ≤ b → ∃ k c, wh T__law_divisor_1 B__law_divisor_2 k [.fz (.int a), .fz (.int b)] = some (.ok (.nx, [.fz (.int c), .fz (.int 0)])) ∧ (if c < 0 then -c else c) = gI a b := by
  intro n
  induction n using Nat.strongRecOn with
  | _ n ih =>
    intro a b hn hb
    by_cases h0 : b = 0
    · subst h0
      exact ⟨1, a, wh_done rfl, (gI_zero' a).symm⟩
    · have hb' : 0 < b := by omega
      have hm := Int.emod_lt_of_pos a hb'
      have hm0 := Int.emod_nonneg a h0
      obtain ⟨k, c, e, g⟩ := ih (a % b).toNat (by omega) b (a % b) rfl hm0
      rw [gI_step' hb'] at g
      refine ⟨k + 1, c, wh_step (m' := [.fz (.int b), .fz (.int (a % b))]) ?_ ?_ e, g⟩
      · simp [T__law_divisor_1, fCmpT, fVarB, fC, h0]
      · simp [B__law_divisor_2, gPar, fCons, fNil, fBin, fVarB, fVar, gMod, mdI, h0, hb']
theorem divisor_eq (a b : Int) (hb : 0 ≤ b) : F__law_divisor [.int a, .int b] = .ok (false, .int (gI a b)) := by
  obtain ⟨k, c, e, g⟩ := dv_loop _ a b rfl hb
  have e2 := gWhile_eq k e
  simp [F__law_divisor, runF, g__law_divisor, c__law_divisor, L__law_divisor_3, gSeq, e2, gRet, Me.let, Sl.let, fCall, fCons, fNil, fVarB, gAbs, g]
theorem lowest_eq {t b : Int} (hb : 1 ≤ b) (hB : Bg b) : F__law_lowest [.int t, .int b] = .ok (false, rD (Rat.divInt t b)) := by
  have h0 : b ≠ 0 := by omega
  have e : dv t b = gI t b := if_neg (by omega)
  have hd := dv_ne (t := t) h0
  have hB' : Bg (dv t b) := by
    have h1 := gI_le (a := t) h0
    have h2 := dv_abs t b
    unfold Bg at hB ⊢
    omega
  have e1 : dvI t (dv t b) = lt t b := by
    unfold dvI lt
    split
    · rw [Int.fdiv_eq_ediv_of_nonneg t (by omega)]
    · rfl
  have e2 : dvI b (dv t b) = lb t b := by
    unfold dvI lb
    split
    · rw [Int.fdiv_eq_ediv_of_nonneg b (by omega)]
    · rfl
  rw [e] at e1 e2 hd hB'
  have er := low_rq (t := t) h0
  have r1 : lt t b = (Rat.divInt t b).num := congrArg Prod.fst er
  have r2 : lb t b = ((Rat.divInt t b).den : Int) := congrArg Prod.snd er
  simp [F__law_lowest, runF, g__law_lowest, c__law_lowest, gSeq, gSet, fFn, fCons, fNil, fVar, fVarB, divisor_eq t b (by omega), gRet, Me.let, Sl.let, fTup, fBin, gDiv, hB', hd, e1, e2, rD_eq, r1, r2]
theorem plus_r {a b : Rat} {k l : Nat} (ha : Sz k a) (hb : Sz l b) (hk : k + l ≤ 4000) : F__law_plus [rD a, rD b] = .ok (false, rD (a + b)) := by
  obtain ⟨a1, a2⟩ := sz_bg ha (by omega)
  obtain ⟨b1, b2⟩ := sz_bg hb (by omega)
  have hp : 1 ≤ (a.den : Int) * b.den := by
    have h1 := rq_pos a
    have h2 := rq_pos b
    have := Int.mul_pos (show 0 < (a.den : Int) by omega) (show 0 < (b.den : Int) by omega)
    omega
  have e := lowest_eq (t := a.num * b.den + b.num * a.den) hp (sz_bgm ha hb hk)
  rw [r_add] at e
  simp [F__law_plus, runF, g__law_plus, c__law_plus, gRet, Me.let, Sl.let, fFn, fCons, fNil, fBin, fVarB, fC, gIx, rD_eq, ix0, ix1, gMul, gAdd, a1, a2, b1, b2]
  rw [e]
  simp [rD_eq]
theorem times_r {a b : Rat} {k l : Nat} (ha : Sz k a) (hb : Sz l b) (hk : k + l ≤ 4000) : F__law_times [rD a, rD b] = .ok (false, rD (a * b)) := by
  obtain ⟨a1, a2⟩ := sz_bg ha (by omega)
  obtain ⟨b1, b2⟩ := sz_bg hb (by omega)
  have hp : 1 ≤ (a.den : Int) * b.den := by
    have h1 := rq_pos a
    have h2 := rq_pos b
    have := Int.mul_pos (show 0 < (a.den : Int) by omega) (show 0 < (b.den : Int) by omega)
    omega
  have e := lowest_eq (t := a.num * b.num) hp (sz_bgm ha hb hk)
  rw [r_mul] at e
  simp [F__law_times, runF, g__law_times, c__law_times, gRet, Me.let, Sl.let, fFn, fCons, fNil, fBin, fVarB, fC, gIx, rD_eq, ix0, ix1, gMul, a1, a2, b1, b2]
  rw [e]
  simp [rD_eq]
theorem cell_eq (ns : List Int) {k : Int} (h : 0 ≤ k) : ∃ c : Int, F__law_cell_at [.lst (ns.map D.int), .int k] = .ok (false, .int c) := by
  by_cases hk : k < (ns.length : Int)
  · obtain ⟨c, _, e⟩ := at_int (ns := ns) h hk
    exact ⟨c, by simp [F__law_cell_at, runF, g__law_cell_at, c__law_cell_at, gSeq, gIf, fCmpT, fVarB, fCall, fCons, fNil, gLen, gLt, hk, gRet, Me.let, Sl.let, fBin, gIx, e]⟩
  · exact ⟨0, by simp [F__law_cell_at, runF, g__law_cell_at, c__law_cell_at, gSeq, gIf, fCmpT, fVarB, fCall, fCons, fNil, gLen, gLt, hk, gNx, gRet, Me.let, Sl.let, fC]⟩
/-! ### the game -/
mutual
inductive Tr where
  | fin (q : Rat) | deal (n : Str) (ws : Tw)
inductive Tw where
  | nil | cons (s : Rat) (t : Tr) (r : Tw)
end
mutual
def dT : Tr → D
  | .fin q => dE q
  | .deal n ws => .tup [.str "deal", .str n, .tup (dTw ws)]
def dTw : Tw → List D
  | .nil => []
  | .cons s t r => .tup [rD s, dT t] :: dTw r
end
def lenT : Tw → Nat
  | .nil => 0
  | .cons _ _ r => lenT r + 1
def totT : Tw → Rat
  | .nil => 0
  | .cons s _ r => s + totT r
mutual
def okT : Nat → Tr → Prop
  | _, .fin _ => True
  | 0, .deal _ _ => False
  | h + 1, .deal _ ws => okW h ws ∧ lenT ws ≤ h + 2 ∧ totT ws = 1
def okW : Nat → Tw → Prop
  | _, .nil => True
  | h, .cons s t r => Sz 6 s ∧ okT h t ∧ okW h r
end
theorem signs_ok : ∀ c ∈ (Str.ofString "abcdefghijklmnopqrstuvwxyz0123456789").cps.toList, c < 128 := by decide +kernel
theorem signs_len : (Str.ofString "abcdefghijklmnopqrstuvwxyz0123456789").cps.toList.length = 36 := by decide +kernel
theorem name_eq {x : Int} (h0 : 0 ≤ x) (h1 : x < 10000000000) : ∃ s, F__law_name [.int x] = .ok (false, .str s) := by
  have hm := Int.emod_nonneg x (show (8 : Int) ≠ 0 by decide)
  have hm2 := Int.emod_lt_of_pos x (show (0 : Int) < 8 by decide)
  have hr : (-4611686018427387904 : Int) ≤ 1 + x % 8 := by omega
  have hr2 : 1 + x % 8 < 4611686018427387904 := by omega
  obtain ⟨ys, e, hl, hy⟩ := comp_ex (h := hName 0) (ft := fAll) (fe := E__law_name_1)
    (m0 := [.un, .fz (.str "abcdefghijklmnopqrstuvwxyz0123456789"), .fz (.int x)]) (One (· < 128)) ((List.range (1 + x % 8).toNat).map fun (i : Nat) => D.int i) (by
      intro d hd
      obtain ⟨j, hj, rfl⟩ := List.mem_map.mp hd
      have hj' : j < (1 + x % 8).toNat := List.mem_range.mp hj
      have hjj : (j : Int) * j ≤ 8 * 8 := Int.mul_le_mul (by omega) (by omega) (by omega) (by decide)
      have hjj0 : (0 : Int) ≤ j * j := Int.mul_nonneg (by omega) (by omega)
      have b2 : Bg (j : Int) := bg_small (by omega) (by omega)
      have b3 : Bg ((j : Int) * j + 8) := bg_small (by omega) (by omega)
      have n1 : ¬ ((j : Int) * j + 8 = 0) := by omega
      obtain ⟨y, ey, oy⟩ := sign_at (z := "abcdefghijklmnopqrstuvwxyz0123456789") (i := (dvI x (j * j + 8) + j) % 36) (P := (· < 128)) (by decide +kernel) signs_ok (Int.emod_nonneg _ (by decide)) (by rw [signs_len]; exact Int.emod_lt_of_pos _ (by decide))
      refine ⟨_, y, rfl, rfl, ?_, oy⟩
      simp [E__law_name_1, fBin, fVarB, fC, gMod, mdI, gAdd, gDiv, gMul, b2, b3, n1, ey])
  have hl' : ys.length ≤ 16777216 := by rw [hl]; simp; omega
  obtain ⟨cs, ej, _, hc⟩ := join_ones hy hl'
  refine ⟨⟨cs.toArray⟩, ?_⟩
  have hz : (1 + x % 8).toNat ≤ 16777216 := by omega
  simp [F__law_name, runF, g__law_name, c__law_name, Q__law_name_2, gSeq, gSet, fC, gRet, Me.let, Sl.let, fMeth, tyD, fCons, fNil, fComp, fItR1, fBin, fVarB, gAdd, gMod, mdI, hr, hr2, hz, cMe, Sl.bor, e, ej]
theorem stake_eq (ns : List Int) {x : Int} (h0 : 0 ≤ x) : ∃ q, F__law_stake [.lst (ns.map D.int), .int x] = .ok (false, dE q) := by
  obtain ⟨c0, e0⟩ := cell_eq ns (k := 0) (by decide)
  obtain ⟨c1, e1⟩ := cell_eq ns (k := 1) (by decide)
  obtain ⟨c2, e2⟩ := cell_eq ns (k := 2) (by decide)
  have m5 := Int.emod_nonneg c0 (show (5 : Int) ≠ 0 by decide)
  have m5' := Int.emod_lt_of_pos c0 (show (0 : Int) < 5 by decide)
  have n1 : ¬ (1 + c0 % 5 = 0) := by omega
  have p1 : 0 < 1 + c0 % 5 := by omega
  generalize ht : x % (1 + c0 % 5) = t
  have t0 : 0 ≤ t := by rw [← ht]; exact Int.emod_nonneg _ n1
  have t1 : t < 5 := by have := Int.emod_lt_of_pos x p1; omega
  have hm : mdI x (1 + c0 % 5) = t := by unfold mdI; rw [if_pos p1, ht]
  have tt : t * t ≤ 4 * 4 := Int.mul_le_mul (by omega) (by omega) (by omega) (by decide)
  have tt0 : 0 ≤ t * t := Int.mul_nonneg t0 t0
  have b1 : Bg t := bg_small (by omega) (by omega)
  have b2 : Bg (t * t) := bg_small (by omega) (by omega)
  have b3 : Bg 48271 := bg_small (by decide) (by decide)
  have b4 : Bg 5 := bg_small (by decide) (by decide)
  have m3 := Int.emod_nonneg c2 (show (3 : Int) ≠ 0 by decide)
  have m3' := Int.emod_lt_of_pos c2 (show (0 : Int) < 3 by decide)
  have b5 : Bg (c2 % 3) := bg_small (by omega) (by omega)
  have k1 : c2 % 3 * t ≤ 2 * 4 := Int.mul_le_mul (by omega) (by omega) (by omega) (by decide)
  have k0 : 0 ≤ c2 % 3 * t := Int.mul_nonneg m3 t0
  have el := lowest_eq (t := (c1 + t * t * 48271 + 5 * t) % 1000003 - 500000) (b := 1 + c2 % 3 * t) (by omega) (bg_small (by omega) (by omega))
  refine ⟨Rat.divInt ((c1 + t * t * 48271 + 5 * t) % 1000003 - 500000) (1 + c2 % 3 * t), ?_⟩
  simp [F__law_stake, runF, g__law_stake, c__law_stake, gSeq, gSet, fBin, fVarB, fVar, fFn, fCons, fNil, fC, e0, e1, e2, gMod, gAdd, n1, hm, gMul, b1, b2, b3, b4, b5, F.gSub, gRet, Me.let, Sl.let, fTup, show ∀ a : Int, mdI a 5 = a % 5 from fun a => rfl, show ∀ a : Int, mdI a 3 = a % 3 from fun a => rfl, show ∀ a : Int, mdI a 1000003 = a % 1000003 from fun a => rfl, el, dE]
/-! the tree, by its ways as a list -/
def pD (x : Rat × Tr) : D := .tup [rD x.1, dT x.2]
def twOf : List (Rat × Tr) → Tw
  | [] => .nil
  | x :: l => .cons x.1 x.2 (twOf l)
theorem twOf_d : ∀ l, dTw (twOf l) = l.map pD
  | [] => by simp [twOf, dTw]
  | x :: l => by simp [twOf, dTw, twOf_d l, pD]
theorem twOf_len : ∀ l, lenT (twOf l) = l.length
  | [] => rfl
  | x :: l => by simp [twOf, lenT, twOf_len l]
theorem twOf_ok {h : Nat} : ∀ {l : List (Rat × Tr)}, (∀ x ∈ l, Sz 6 x.1 ∧ okT h x.2) → okW h (twOf l)
  | [], _ => by simp [twOf, okW]
  | x :: l, H => by
    have h1 := H x List.mem_cons_self
    have h2 := twOf_ok fun y hy => H y (List.mem_cons_of_mem _ hy)
    unfold twOf okW
    exact ⟨h1.1, h1.2, h2⟩
def rsum : List Rat → Rat
  | [] => 0
  | x :: l => x + rsum l
theorem twOf_tot : ∀ l, totT (twOf l) = rsum (l.map (·.1))
  | [] => rfl
  | x :: l => by simp [twOf, totT, rsum, twOf_tot l]
theorem rsum_div {S : Int} (hS : S ≠ 0) : ∀ vs : List Int, rsum (vs.map fun v => Rat.divInt v S) = Rat.divInt vs.sum S
  | [] => by simp [rsum]
  | v :: vs => by
    rw [List.map_cons, rsum, rsum_div hS vs, List.sum_cons, Rat.divInt_add_divInt _ _ hS hS, Rat.divInt_eq_divInt_iff (Int.mul_ne_zero hS hS) hS]
    grind
theorem div_self {S : Int} (hS : S ≠ 0) : Rat.divInt S S = 1 := by
  have : Rat.divInt S S = Rat.divInt 1 1 := (Rat.divInt_eq_divInt_iff hS (by decide)).mpr (by omega)
  rw [this]
  rfl
theorem ints_of {P : Int → Prop} : ∀ ys : List D, (∀ y ∈ ys, ∃ w, y = .int w ∧ P w) → ∃ vs : List Int, ys = vs.map D.int ∧ ∀ w ∈ vs, P w
  | [], _ => ⟨[], rfl, fun _ z => nomatch z⟩
  | y :: ys, h => by
    obtain ⟨w, e, p⟩ := h y List.mem_cons_self
    obtain ⟨vs, e2, q⟩ := ints_of ys fun z hz => h z (List.mem_cons_of_mem _ hz)
    refine ⟨w :: vs, by rw [e, e2]; rfl, fun z hz => ?_⟩
    rcases List.mem_cons.mp hz with r | r
    · rw [r]; exact p
    · exact q z r
theorem intL_map : ∀ vs : List Int, intL (vs.map D.int) = some vs
  | [] => rfl
  | v :: vs => by simp [intL, intL_map vs]
theorem sum_bounds : ∀ vs : List Int, (∀ w ∈ vs, 1 ≤ w ∧ w ≤ 9) → (vs.length : Int) ≤ vs.sum ∧ vs.sum ≤ 9 * vs.length
  | [], _ => by simp
  | v :: vs, h => by
    have h1 := h v List.mem_cons_self
    have h2 := sum_bounds vs fun w hw => h w (List.mem_cons_of_mem _ hw)
    rw [List.sum_cons, List.length_cons]
    omega
theorem weights_eq {Φ : List D → Res (Bool × D)} {x : Int} {n : Nat} (h0 : 0 ≤ x) (hn : n ≤ 4) {s0 s1 s2 s5 s6 s7 : Sl} :
    ∃ vs : List Int, Q__law_tree_2 Φ [s0, s1, s2, .fz (.int x), .fz (.int n), s5, s6, s7] = .ok (.lst (vs.map D.int)) ∧ vs.length = n ∧ ∀ w ∈ vs, 1 ≤ w ∧ w ≤ 9 := by
  obtain ⟨ys, e, hl, hy⟩ := comp_ex (h := hName 0) (ft := fAll) (fe := E__law_tree_1 Φ) (m0 := [.un, .fz (.int x)]) (fun y => ∃ w, y = D.int w ∧ (1 ≤ w ∧ w ≤ 9)) ((List.range n).map fun (i : Nat) => D.int i) (by
    intro d hd
    obtain ⟨j, hj, rfl⟩ := List.mem_map.mp hd
    have hj' : j < n := List.mem_range.mp hj
    have hjj : 9 * (j : Int) * j ≤ 36 * 4 := Int.mul_le_mul (by omega) (by omega) (by omega) (by decide)
    have hjj0 : (0 : Int) ≤ 9 * j * j := Int.mul_nonneg (by omega) (by omega)
    have b1 : Bg 9 := bg_small (by decide) (by decide)
    have b2 : Bg (j : Int) := bg_small (by omega) (by omega)
    have b4 : Bg (9 * (j : Int)) := bg_small (by omega) (by omega)
    have b3 : Bg (16 + 9 * (j : Int) * j) := bg_small (by omega) (by omega)
    have n1 : ¬ (16 + 9 * (j : Int) * j = 0) := by omega
    generalize hz : dvI x (16 + 9 * (j : Int) * j) = z
    have z0 := Int.emod_nonneg z (show (9 : Int) ≠ 0 by decide)
    have z1 := Int.emod_lt_of_pos z (show (0 : Int) < 9 by decide)
    refine ⟨_, .int (1 + z % 9), rfl, rfl, ?_, _, rfl, by omega, by omega⟩
    simp [E__law_tree_1, fBin, fVarB, fC, gMod, mdI, gAdd, gDiv, gMul, b1, b2, b3, b4, n1, hz])
  obtain ⟨vs, rfl, hv⟩ := ints_of ys hy
  refine ⟨vs, ?_, by simpa using hl, hv⟩
  have hi := itR1 (f := fCons (fVarB 4) fNil) (m := [s0, s1, s2, .fz (.int x), .fz (.int n), s5, s6, s7]) (j := n) rfl (by omega) (by omega)
  rw [Int.toNat_natCast] at hi
  unfold Q__law_tree_2 fComp
  rw [hi]
  simp only [Res.bind_ok]
  rw [if_pos (by rw [szl]; simp; omega)]
  rw [show cMe 1 [3] [s0, s1, s2, Sl.fz (.int x), .fz (.int n), s5, s6, s7] = [.un, .fz (.int x)] from rfl, e]
theorem grown {ns : List Int} {h : Nat} {a dpt x : Int} (Φ : List D → Res (Bool × D)) (vs : List Int) (hv : ∀ w ∈ vs, 1 ≤ w ∧ w ≤ 9) (hl : vs.length ≤ 4) (h1 : vs ≠ []) (ha : 0 ≤ a) (ha' : a ≤ 10000)
    (hΦ : ∀ k : Int, 0 ≤ k → k < 4 → ∃ t, okT h t ∧ ∃ b, Φ [.lst (ns.map D.int), .int (4 * a + k + 1), .int (dpt + 1)] = .ok (b, dT t)) {s7 : Sl} :
    ∃ (l : List (Rat × Tr)) (s' : Sl), L__law_tree_4 Φ [.fz (.lst (ns.map D.int)), .fz (.int a), .fz (.int dpt), .fz (.int x), .fz (.int vs.length), .fz (.lst (vs.map D.int)), .ow (.lst []), s7] =
      .ok (.nx, [.fz (.lst (ns.map D.int)), .fz (.int a), .fz (.int dpt), .fz (.int x), .fz (.int vs.length), .fz (.lst (vs.map D.int)), .ow (.lst (l.map pD)), s']) ∧ l.length = vs.length ∧ (∀ x ∈ l, Sz 6 x.1 ∧ okT h x.2) ∧ rsum (l.map (·.1)) = 1 := by
  obtain ⟨sb1, sb2⟩ := sum_bounds vs hv
  have hlen : 1 ≤ vs.length := by cases vs with | nil => exact absurd rfl h1 | cons _ _ => simp
  have hS : vs.sum ≠ 0 := by omega
  generalize hm : [Sl.fz (.lst (ns.map D.int)), .fz (.int a), .fz (.int dpt), .fz (.int x), .fz (.int vs.length), .fz (.lst (vs.map D.int))] = m0
  have lp := loop_inv (h := hName 7) (g := B__law_tree_3 Φ) (fun i m => ∃ (l : List (Rat × Tr)) (s' : Sl), m = m0 ++ [.ow (.lst (l.map pD)), s'] ∧ l.map (·.1) = (vs.take i).map (fun v => Rat.divInt v vs.sum) ∧ ∀ x ∈ l, okT h x.2)
    ((List.range vs.length).map fun (i : Nat) => D.int i) 0 (m0 ++ [.ow (.lst []), s7]) ⟨[], s7, rfl, rfl, fun _ z => nomatch z⟩ (by
      rintro j d m hj ⟨l, s', rfl, el, hl'⟩
      obtain ⟨hj', rfl⟩ := range_at hj
      obtain ⟨t, ht, b, eΦ⟩ := hΦ j (by omega) (by omega)
      obtain ⟨v, ev⟩ : ∃ v, vs[j]? = some v := ⟨vs[j], by simp [hj']⟩
      have hv' := hv v (List.mem_of_getElem? ev)
      have eat : atI (vs.map D.int) (j : Int) = some (.int v) := by
        unfold atI ixN
        rw [if_pos (by omega), if_pos (by simp; omega)]
        simp [ev]
      have elo := lowest_eq (t := v) (b := vs.sum) (by omega) (bg_small (by omega) (by omega))
      have b1 : Bg 4 := bg_small (by decide) (by decide)
      have b2 : Bg a := bg_small (by omega) (by omega)
      have ll : l.length ≤ 4 := by
        have := congrArg List.length el
        simp at this
        omega
      refine ⟨m0 ++ [.ow (.lst (l.map pD)), .fz (.int j)], m0 ++ [.ow (.lst ((l ++ [(Rat.divInt v vs.sum, t)]).map pD)), .fz (.int j)], ?_, ?_, l ++ [(Rat.divInt v vs.sum, t)], .fz (.int j), rfl, ?_, ?_⟩
      · rw [← hm]; rfl
      · have hz : (l.map pD).length < 16777216 := by simp; omega
        rw [← hm]
        simp [B__law_tree_3, gAppend, ownL, fTup, fCons, fNil, fFn, fBin, fVarB, fVar, gIx, eat, fCall, gSum, intL_map, elo, gAdd, gMul, b1, b2, fC, eΦ, hz, putL, pD]
        omega
      · rw [List.map_append, el]
        simp only [Nat.zero_add]
        rw [List.take_succ, ev]
        simp
      · intro y hy
        rcases List.mem_append.mp hy with w | w
        · exact hl' y w
        · rw [List.mem_singleton.mp w]; exact ht)
  obtain ⟨m', e, l, s', rfl, el, hl'⟩ := lp
  rw [List.length_map, List.length_range, Nat.zero_add, List.take_length] at el
  refine ⟨l, s', ?_, ?_, ?_, ?_⟩
  · have hi := itR1 (f := fCons (fVarB 4) fNil) (m := m0 ++ [.ow (.lst []), s7]) (j := vs.length) (by rw [← hm]; rfl) (by omega) (by omega)
    rw [Int.toNat_natCast] at hi
    have e2 : L__law_tree_4 Φ (m0 ++ [.ow (.lst []), s7]) = .ok (.nx, m0 ++ [.ow (.lst (l.map pD)), s']) := by
      unfold L__law_tree_4 gFor
      rw [hi]
      exact e
    rw [← hm] at e2
    exact e2
  · have := congrArg List.length el; simpa using this
  · intro y hy
    refine ⟨?_, hl' y hy⟩
    have : y.1 ∈ l.map (·.1) := List.mem_map.mpr ⟨y, hy, rfl⟩
    rw [el] at this
    obtain ⟨v, hv1, hv2⟩ := List.mem_map.mp this
    have hb := hv v hv1
    rw [← hv2]
    exact sz_div hS (show v.natAbs < 2 ^ 6 by omega) (show vs.sum.natAbs < 2 ^ 6 by omega)
  · rw [el, rsum_div hS, div_self hS]
theorem tree_deal {φc φn φs : List D → Res (Bool × D)} {l2 : Me → Res D} {l4 : Me → Res (Fl × Me)} {S W : D} {a dp c c2 x M : Int} {ds : List D} {nm : Str} {s' : Sl}
    (ec : φc [S, .int (3 + a)] = .ok (false, .int c)) (e2 : φc [S, .int 2] = .ok (false, .int c2)) (b1 : Bg a) (b2 : Bg (a * a)) (hx : (c * 48271 + a * a * 7919 + c2) % 2147483647 = x) (d3 : dp < 3) (cond : dp = 0 ∨ x % 2 = 0)
    (hM : 1 + x / 2 % (4 - dp) = M) (ew : l2 [.fz S, .fz (.int a), .fz (.int dp), .fz (.int x), .fz (.int M), .un, .un, .un] = .ok W)
    (eg : l4 [.fz S, .fz (.int a), .fz (.int dp), .fz (.int x), .fz (.int M), .fz W, .ow (.lst []), .un] = .ok (.nx, [.fz S, .fz (.int a), .fz (.int dp), .fz (.int x), .fz (.int M), .fz W, .ow (.lst ds), s']))
    (en : φn [.int (x / 7)] = .ok (false, .str nm)) : runF 8 3 (c__law_tree φc φn φs l2 l4) [S, .int a, .int dp] = .ok (false, .tup [.str "deal", .str nm, .tup ds]) := by
  have b3 : Bg 7919 := bg_small (by decide) (by decide)
  have b4 : Bg 2 := bg_small (by decide) (by decide)
  have b7 : Bg 7 := bg_small (by decide) (by decide)
  have p1 : 0 < 4 - dp := by omega
  have n1 : ¬ (4 - dp = 0) := by omega
  have em : mdI (x / 2) (4 - dp) = x / 2 % (4 - dp) := by unfold mdI; rw [if_pos p1]
  have ct : fOrT (fCmpT gEq (fVarB 2) (fC (.int 0))) (fCmpT gEq (fBin gMod (fVarB 3) (fC (.int 2))) (fC (.int 0))) [.fz S, .fz (.int a), .fz (.int dp), .fz (.int x), .un, .un, .un, .un] = .ok true := by
    by_cases zz : dp = 0
    · simp [fOrT, fCmpT, fVarB, fC, zz]
    · have z := cond.resolve_left zz
      simp [fOrT, fCmpT, fVarB, fC, zz, fBin, gMod, show mdI x 2 = x % 2 from rfl, z]
  generalize hC : fOrT (fCmpT gEq (fVarB 2) (fC (.int 0))) (fCmpT gEq (fBin gMod (fVarB 3) (fC (.int 2))) (fC (.int 0))) = C at ct
  unfold c__law_tree
  rw [hC]
  simp [runF, gSeq, gSet, fBin, fVarB, fVar, fFn, fCons, fNil, fC, ec, e2, gAdd, gMulZ, gMul, b1, b2, b3, b4, b7, gMod, show ∀ a : Int, mdI a 2147483647 = a % 2147483647 from fun a => rfl, hx, gIf, fAndT, fCmpT, gLt, d3, ct, gDiv, show dvI x 2 = x / 2 from rfl, F.gSub, n1, em, hM, ew, gOwn, fLst, eg, gRet, Me.let, let_fz, let_ow, fTup, show dvI x 7 = x / 7 from rfl, en, fCall, gTuple]
theorem tree_end {φc φn φs : List D → Res (Bool × D)} {l2 : Me → Res D} {l4 : Me → Res (Fl × Me)} {S r : D} {a dp c c2 x : Int}
    (ec : φc [S, .int (3 + a)] = .ok (false, .int c)) (e2 : φc [S, .int 2] = .ok (false, .int c2)) (b1 : Bg a) (b2 : Bg (a * a)) (hx : (c * 48271 + a * a * 7919 + c2) % 2147483647 = x) (cond : ¬ (dp < 3 ∧ (dp = 0 ∨ x % 2 = 0)))
    (es : φs [S, .int (x / 2)] = .ok (false, r)) : runF 8 3 (c__law_tree φc φn φs l2 l4) [S, .int a, .int dp] = .ok (false, r) := by
  have b3 : Bg 7919 := bg_small (by decide) (by decide)
  have b4 : Bg 2 := bg_small (by decide) (by decide)
  have ct : fAndT (fCmpT gLt (fVarB 2) (fC (.int 3))) (fOrT (fCmpT gEq (fVarB 2) (fC (.int 0))) (fCmpT gEq (fBin gMod (fVarB 3) (fC (.int 2))) (fC (.int 0)))) [.fz S, .fz (.int a), .fz (.int dp), .fz (.int x), .un, .un, .un, .un] = .ok false := by
    by_cases z3 : dp < 3
    · have z : ¬ (dp = 0 ∨ x % 2 = 0) := fun w => cond ⟨z3, w⟩
      have za : ¬ dp = 0 := fun w => z (.inl w)
      have zb : ¬ x % 2 = 0 := fun w => z (.inr w)
      simp [fAndT, fOrT, fCmpT, fVarB, fC, gLt, z3, za, fBin, gMod, show mdI x 2 = x % 2 from rfl, zb]
    · simp [fAndT, fCmpT, fVarB, fC, gLt, z3]
  generalize hC : fAndT (fCmpT gLt (fVarB 2) (fC (.int 3))) (fOrT (fCmpT gEq (fVarB 2) (fC (.int 0))) (fCmpT gEq (fBin gMod (fVarB 3) (fC (.int 2))) (fC (.int 0)))) = C at ct
  unfold c__law_tree
  rw [hC]
  simp [runF, gSeq, gSet, fBin, fVarB, fVar, fFn, fCons, fNil, fC, ec, e2, gAdd, gMulZ, gMul, b1, b2, b3, b4, gMod, show ∀ a : Int, mdI a 2147483647 = a % 2147483647 from fun a => rfl, hx, gIf, ct, gNx, gDiv, show dvI x 2 = x / 2 from rfl, gRet, Me.let, let_fz, let_un, es]
theorem tree_eq (ns : List Int) : ∀ (h k : Nat) (a : Int), h ≤ 3 → h < k → 0 ≤ a → a ≤ 10 ^ (4 - h) → ∃ t, okT h t ∧ F__law_tree k [.lst (ns.map D.int), .int a, .int (3 - h : Int)] = .ok (false, dT t) := by
  intro h
  induction h with
  | zero =>
    intro k a _ hk h0 h1
    obtain ⟨k, rfl⟩ : ∃ j, k = j + 1 := ⟨k - 1, by omega⟩
    obtain ⟨c, ec⟩ := cell_eq ns (k := 3 + a) (by omega)
    obtain ⟨c2, e2⟩ := cell_eq ns (k := 2) (by decide)
    have aa : a * a ≤ 10 ^ 4 * 10 ^ 4 := Int.mul_le_mul h1 h1 h0 (by decide)
    have aa0 : 0 ≤ a * a := Int.mul_nonneg h0 h0
    have b1 : Bg a := bg_small (by omega) (by omega)
    have b2 : Bg (a * a) := bg_small (by omega) (by omega)
    have b3 : Bg 7919 := bg_small (by decide) (by decide)
    generalize hx : (c * 48271 + a * a * 7919 + c2) % 2147483647 = x
    have x0 : 0 ≤ x := by rw [← hx]; exact Int.emod_nonneg _ (by decide)
    obtain ⟨q, eq⟩ := stake_eq ns (x := x / 2) (by omega)
    refine ⟨.fin q, by simp [okT], ?_⟩
    have b4 : Bg 2 := bg_small (by decide) (by decide)
    exact tree_end (dp := 3 - ((0 : Nat) : Int)) ec e2 b1 b2 hx (by omega) eq
  | succ h ih =>
    intro k a hh hk h0 h1
    obtain ⟨k, rfl⟩ : ∃ j, k = j + 1 := ⟨k - 1, by omega⟩
    obtain ⟨c, ec⟩ := cell_eq ns (k := 3 + a) (by omega)
    obtain ⟨c2, e2⟩ := cell_eq ns (k := 2) (by decide)
    have ha4 : a ≤ 1000 := by
      have : (10 : Int) ^ (4 - (h + 1)) ≤ 1000 := by
        rcases (show h = 0 ∨ h = 1 ∨ h = 2 by omega) with rfl | rfl | rfl <;> decide
      omega
    have aa : a * a ≤ 1000 * 1000 := Int.mul_le_mul ha4 ha4 h0 (by decide)
    have aa0 : 0 ≤ a * a := Int.mul_nonneg h0 h0
    have b1 : Bg a := bg_small (by omega) (by omega)
    have b2 : Bg (a * a) := bg_small (by omega) (by omega)
    have b3 : Bg 7919 := bg_small (by decide) (by decide)
    have b4 : Bg 2 := bg_small (by decide) (by decide)
    have b7 : Bg 7 := bg_small (by decide) (by decide)
    generalize hx : (c * 48271 + a * a * 7919 + c2) % 2147483647 = x
    have x0 : 0 ≤ x := by rw [← hx]; exact Int.emod_nonneg _ (by decide)
    have x1 : x < 2147483647 := by rw [← hx]; exact Int.emod_lt_of_pos _ (by decide)
    have eF : F__law_tree (k + 1) = runF 8 3 (c__law_tree F__law_cell_at F__law_name F__law_stake (Q__law_tree_2 (F__law_tree k)) (L__law_tree_4 (F__law_tree k))) := rfl
    have d3 : (3 - ((h + 1 : Nat) : Int)) < 3 := by omega
    by_cases cond : (3 - ((h + 1 : Nat) : Int)) = 0 ∨ x % 2 = 0
    · -- a deal
      have p1 : 0 < 4 - (3 - ((h + 1 : Nat) : Int)) := by omega
      have n1 : ¬ (4 - (3 - ((h + 1 : Nat) : Int)) = 0) := by omega
      generalize hM : 1 + x / 2 % (4 - (3 - ((h + 1 : Nat) : Int))) = M
      have M0 : 1 ≤ M := by have := Int.emod_nonneg (x / 2) n1; omega
      have M1 : M ≤ h + 2 := by have := Int.emod_lt_of_pos (x / 2) p1; omega
      obtain ⟨N, rfl⟩ : ∃ N : Nat, M = N := ⟨M.toNat, by omega⟩
      obtain ⟨vs, ew, hvl, hv⟩ := weights_eq (Φ := F__law_tree k) (x := x) (n := N) x0 (by omega) (s0 := .fz (.lst (ns.map D.int))) (s1 := .fz (.int a)) (s2 := .fz (.int (3 - ((h + 1 : Nat) : Int)))) (s5 := .un) (s6 := .un) (s7 := .un)
      obtain ⟨l, s', eg, ll, lok, lsum⟩ := grown (ns := ns) (h := h) (a := a) (dpt := 3 - ((h + 1 : Nat) : Int)) (x := x) (F__law_tree k) vs hv (by omega) (by intro z; rw [z] at hvl; simp at hvl; omega) h0 (by omega) (by
        intro j j0 j1
        have pw : (10 : Int) ^ (4 - h) = 10 * 10 ^ (4 - (h + 1)) := by
          rcases (show h = 0 ∨ h = 1 ∨ h = 2 by omega) with rfl | rfl | rfl <;> decide
        have pw1 : (1 : Int) ≤ 10 ^ (4 - (h + 1)) := by
          rcases (show h = 0 ∨ h = 1 ∨ h = 2 by omega) with rfl | rfl | rfl <;> decide
        obtain ⟨t, ht, et⟩ := ih k (4 * a + j + 1) (by omega) (by omega) (by omega) (by rw [pw]; omega)
        refine ⟨t, ht, false, ?_⟩
        rw [show (3 - ((h + 1 : Nat) : Int)) + 1 = 3 - (h : Int) by omega]
        exact et) (s7 := .un)
      rw [hvl] at eg
      obtain ⟨nm, en⟩ := name_eq (x := x / 7) (by omega) (by omega)
      refine ⟨.deal nm (twOf l), ⟨twOf_ok lok, by rw [twOf_len, ll, hvl]; omega, by rw [twOf_tot]; exact lsum⟩, ?_⟩
      have := tree_deal (φs := F__law_stake) ec e2 b1 b2 hx d3 cond hM ew eg en
      rw [← twOf_d] at this
      exact this
    · obtain ⟨q, eq⟩ := stake_eq ns (x := x / 2) (by omega)
      exact ⟨.fin q, by simp [okT], tree_end (dp := 3 - ((h + 1 : Nat) : Int)) ec e2 b1 b2 hx (fun z => cond z.2) eq⟩
end K47

set_option Elab.async false
set_option linter.all false
set_option maxRecDepth 100000
set_option maxHeartbeats 4000000
namespace K47
open PySem Hd F Pk
open L2 (atI ixN)
/-! ### all ends with their shares -/
mutual
def flT (s : Rat) : Tr → As
  | .fin q => [(q, s)]
  | .deal _ ws => flW s ws
def flW (s : Rat) : Tw → As
  | .nil => []
  | .cons p t r => flT (s * p) t ++ flW s r
end
def Lm : Nat → Nat
  | 0 => 1
  | h + 1 => (h + 2) * Lm h
mutual
theorem flT_asc (a s : Rat) : ∀ t, asc a (flT s t) = flT (a * s) t
  | .fin q => by simp [flT, asc]
  | .deal _ ws => by simp only [flT]; exact flW_asc a s ws
theorem flW_asc (a s : Rat) : ∀ ws, asc a (flW s ws) = flW (a * s) ws
  | .nil => by simp [flW, asc]
  | .cons p t r => by
    have h1 := flT_asc a (s * p) t
    have h2 := flW_asc a s r
    simp only [asc] at h1 h2
    simp only [flW, asc, List.map_append, h1, h2]
    rw [show a * (s * p) = a * s * p by grind]
end
mutual
theorem flT_tot (s : Rat) : ∀ (h : Nat) (t : Tr), okT h t → atot (flT s t) = s
  | _, .fin q, _ => by simp [flT, atot]; grind
  | 0, .deal _ ws, h => by simp [okT] at h
  | h + 1, .deal _ ws, ok => by
    unfold okT at ok
    simp only [flT]
    rw [flW_tot s h ws ok.1, ok.2.2]
    grind
theorem flW_tot (s : Rat) : ∀ (h : Nat) (ws : Tw), okW h ws → atot (flW s ws) = s * totT ws
  | _, .nil, _ => by simp [flW, atot, totT]
  | h, .cons p t r, ok => by
    unfold okW at ok
    simp only [flW, totT]
    rw [atot_app, flT_tot _ h t ok.2.1, flW_tot s h r ok.2.2]
    grind
end
mutual
theorem flT_len (s : Rat) : ∀ (h : Nat) (t : Tr), okT h t → (flT s t).length ≤ Lm h
  | 0, .fin q, _ => by simp [flT, Lm]
  | h + 1, .fin q, _ => by
    have : 1 ≤ Lm h := by
      have := flT_len s h (.fin q) (by cases h <;> simp [okT])
      simpa [flT] using this
    simp only [flT, Lm, List.length_singleton]
    have := Nat.mul_le_mul (show 1 ≤ h + 2 by omega) this
    omega
  | 0, .deal _ ws, h => by simp [okT] at h
  | h + 1, .deal _ ws, ok => by
    unfold okT at ok
    simp only [flT, Lm]
    exact Nat.le_trans (flW_len s h ws ok.1) (Nat.mul_le_mul_right _ ok.2.1)
theorem flW_len (s : Rat) : ∀ (h : Nat) (ws : Tw), okW h ws → (flW s ws).length ≤ lenT ws * Lm h
  | _, .nil, _ => by simp [flW]
  | h, .cons p t r, ok => by
    unfold okW at ok
    have h1 := flT_len (s * p) h t ok.2.1
    have h2 := flW_len s h r ok.2.2
    simp only [flW, lenT, List.length_append]
    rw [Nat.succ_mul]
    omega
end
mutual
theorem flT_sz {k : Nat} {s : Rat} (hs : Sz k s) : ∀ (h : Nat) (t : Tr), okT h t → ∀ x ∈ flT s t, Sz (k + 6 * h) x.2
  | h, .fin q, _, x, hx => by
    simp only [flT, List.mem_singleton] at hx
    rw [hx]
    exact hs.mono (by omega)
  | 0, .deal _ ws, h, _, _ => by simp [okT] at h
  | h + 1, .deal _ ws, ok, x, hx => by
    unfold okT at ok
    simp only [flT] at hx
    exact (flW_sz hs h ws ok.1 x hx).mono (by omega)
theorem flW_sz {k : Nat} {s : Rat} (hs : Sz k s) : ∀ (h : Nat) (ws : Tw), okW h ws → ∀ x ∈ flW s ws, Sz (k + 6 + 6 * h) x.2
  | _, .nil, _, x, hx => by simp [flW] at hx
  | h, .cons p t r, ok, x, hx => by
    unfold okW at ok
    simp only [flW] at hx
    rcases List.mem_append.mp hx with w | w
    · exact flT_sz (sz_mul hs ok.1) h t ok.2.1 x w
    · exact flW_sz hs h r ok.2.2 x w
end
theorem fl_ne (s : Rat) : ∀ (h : Nat) (t : Tr), okT h t → flT s t ≠ [] := by
  intro h t ok e
  have := flT_tot 1 h t ok
  have e2 := flT_asc 1 1 t
  have : (flT s t).length = (flT 1 t).length := by
    have h1 := flT_asc s 1 t
    rw [show s * 1 = s by grind] at h1
    rw [← h1]
    simp [asc]
  rw [e] at this
  have : flT 1 t = [] := List.length_eq_zero_iff.mp this.symm
  have h3 := flT_tot 1 h t ok
  rw [this] at h3
  simp [atot] at h3
/-! ### the game folded -/
def nmT : Tr → Str
  | .fin _ => ""
  | .deal n _ => n
def wys : Tw → List Wy
  | .nil => []
  | .cons s t r => ⟨s, dT t, nmT t, gath (flT 1 t)⟩ :: wys r
theorem wys_d : ∀ ws, dTw ws = (wys ws).map wyD
  | .nil => by simp [dTw, wys]
  | .cons s t r => by simp [dTw, wys, wyD, wys_d r]
theorem wys_len : ∀ ws, (wys ws).length = lenT ws
  | .nil => rfl
  | .cons s t r => by simp [wys, lenT, wys_len r]
theorem wys_aal : ∀ (ws : Tw) (A : As), aal A (wyA (wys ws)) = aal A (flW 1 ws)
  | .nil, A => by simp [wys, wyA, flW]
  | .cons s t r, A => by
    have e : wyA (wys (.cons s t r)) = asc s (gath (flT 1 t)) ++ wyA (wys r) := by simp [wys, wyA]
    rw [e, aal_app, asc_gath, aal_gath, flT_asc, wys_aal r]
    simp only [flW]
    rw [aal_app]
    rw [show s * 1 = 1 * s by grind]
theorem len_gath (l : As) : (gath l).length ≤ l.length := by
  have := len_aal (l := l) (A := [])
  simpa [gath] using this
theorem wys_alen : ∀ (h : Nat) (ws : Tw), okW h ws → (wyA (wys ws)).length ≤ lenT ws * Lm h
  | _, .nil, _ => by simp [wys, wyA]
  | h, .cons s t r, ok => by
    unfold okW at ok
    have h1 := flT_len 1 h t ok.2.1
    have h2 := wys_alen h r ok.2.2
    have h3 := len_gath (flT 1 t)
    have e : wyA (wys (.cons s t r)) = asc s (gath (flT 1 t)) ++ wyA (wys r) := by simp [wys, wyA]
    rw [e, List.length_append]
    simp only [lenT]
    rw [Nat.succ_mul]
    have : (asc s (gath (flT 1 t))).length = (gath (flT 1 t)).length := by simp [asc]
    omega
theorem Lm3 {h : Nat} (hh : h ≤ 3) : 1 ≤ Lm h ∧ Lm h ≤ 24 := by
  rcases (show h = 0 ∨ h = 1 ∨ h = 2 ∨ h = 3 by omega) with rfl | rfl | rfl | rfl <;> decide
theorem gath_sz {h : Nat} {t : Tr} (hh : h ≤ 3) (ok : okT h t) : ∀ x ∈ gath (flT 1 t), Sz 500 x.2 := by
  intro x hx
  have h1 := agt_size (k := 1 + 6 * h) (l := flT 1 t) (fun y hy => flT_sz sz_one h t ok y hy) x.1
  have e : agt (gath (flT 1 t)) x.1 = x.2 := agt_mem (and_gath _) hx
  rw [e] at h1
  refine h1.mono ?_
  have l1 := flT_len 1 h t ok
  have l2 := (Lm3 hh).2
  have : (flT 1 t).length * (1 + 6 * h + 1) ≤ 24 * 20 := Nat.mul_le_mul (by omega) (by omega)
  omega
/-- .. in games of two moves at most -/
theorem gath_sz2 {h : Nat} {t : Tr} (hh : h ≤ 2) (ok : okT h t) : ∀ x ∈ gath (flT 1 t), Sz 85 x.2 := by
  intro x hx
  have h1 := agt_size (k := 1 + 6 * h) (l := flT 1 t) (fun y hy => flT_sz sz_one h t ok y hy) x.1
  have e : agt (gath (flT 1 t)) x.1 = x.2 := agt_mem (and_gath _) hx
  rw [e] at h1
  refine h1.mono ?_
  have l1 := flT_len 1 h t ok
  have l2 : Lm h ≤ 6 := by rcases (show h = 0 ∨ h = 1 ∨ h = 2 by omega) with rfl | rfl | rfl <;> decide
  have : (flT 1 t).length * (1 + 6 * h + 1) ≤ 6 * 14 := Nat.mul_le_mul (by omega) (by omega)
  omega
theorem gath_one {h : Nat} {t : Tr} (ok : okT h t) : ∀ x, gath (flT 1 t) = [x] → x.2 = 1 := by
  intro x e
  have h1 := atot_gath (flT 1 t)
  rw [e, flT_tot 1 h t ok] at h1
  simp [atot] at h1
  grind
theorem wys_ok : ∀ (h : Nat) (ws : Tw), h ≤ 2 → okW h ws → ∀ w ∈ wys ws, WyOk 6 85 w
  | _, .nil, _, _, w, hw => by simp [wys] at hw
  | h, .cons s t r, hh, ok, w, hw => by
    unfold okW at ok
    simp only [wys, List.mem_cons] at hw
    rcases hw with rfl | hw
    · refine ⟨gath_one ok.2.1, ok.1, gath_sz2 hh ok.2.1, ?_⟩
      have h1 := flT_len 1 h t ok.2.1
      have h2 := (Lm3 (show h ≤ 3 by omega)).2
      have h3 := len_gath (flT 1 t)
      show (gath (flT 1 t)).length ≤ 1000
      omega
    · exact wys_ok h r hh ok.2.2 w hw
theorem wyA_sz {a b : Nat} {ws : List Wy} (h : ∀ w ∈ ws, WyOk a b w) : ∀ x ∈ wyA ws, Sz (a + b) x.2 := by
  intro x hx
  obtain ⟨w, hw, hx⟩ := List.mem_flatMap.mp hx
  obtain ⟨y, hy, rfl⟩ := List.mem_map.mp hx
  exact sz_mul (h w hw).hs ((h w hw).hA y hy)
mutual
theorem folded_eq : ∀ (h k : Nat) (t : Tr), h ≤ 3 → h < k → okT h t → F_folded k [dT t] = .ok (false, dF (nmT t) (gath (flT 1 t)))
  | h, 0, _, _, hk, _ => absurd hk (Nat.not_lt_zero _)
  | h, k + 1, .fin q, _, _, _ => folded_end k q
  | 0, k + 1, .deal _ ws, _, _, ok => by simp [okT] at ok
  | h + 1, k + 1, .deal n ws, hh, hk, ok => by
    unfold okT at ok
    have wok := wys_ok h ws (by omega) ok.1
    have al := wys_alen h ws ok.1
    have l24 : lenT ws * Lm h ≤ 24 := by
      have := Nat.mul_le_mul_right (Lm h) ok.2.1
      have e : (h + 2) * Lm h = Lm (h + 1) := rfl
      have := (Lm3 hh).2
      omega
    have ll : lenT ws ≤ 24 := by omega
    have st := folded_step (k := k) (n := n) (ws := wys ws) (a := 6) (b := 85) (by decide) wok (by rw [wys_len]; omega) (by omega) (by
      intro i x hx
      refine ⟨24 * 92 + 1, 91, ?_, wyA_sz wok x (List.mem_of_getElem? hx), by decide⟩
      refine (agt_size (k := 91) (l := (wyA (wys ws)).take i) (fun y hy => wyA_sz wok y (List.mem_of_mem_take hy)) x.1).mono ?_
      have : ((wyA (wys ws)).take i).length * (91 + 1) ≤ 24 * 92 := Nat.mul_le_mul (by rw [List.length_take]; omega) (by decide)
      omega) (foldedW_eq h k ws (by omega) (by omega) ok.1)
    rw [← wys_d] at st
    have e : gath (wyA (wys ws)) = gath (flW 1 ws) := wys_aal ws []
    rw [e] at st
    simp only [dT, nmT, flT]
    exact st
theorem foldedW_eq : ∀ (h k : Nat) (ws : Tw), h ≤ 3 → h < k → okW h ws → ∀ w ∈ wys ws, F_folded k [w.d] = .ok (false, dF w.n w.A)
  | _, _, .nil, _, _, _, w, hw => by simp [wys] at hw
  | h, k, .cons s t r, hh, hk, ok, w, hw => by
    unfold okW at ok
    simp only [wys, List.mem_cons] at hw
    rcases hw with rfl | hw
    · exact folded_eq h k t hh hk ok.2.1
    · exact foldedW_eq h k r hh hk ok.2.2 w hw
end
/-- folded again it stays -/
theorem folded_again {n : Str} {A : As} (k : Nat) (hn : And A) (hl : A.length ≤ 24) (hA : ∀ x ∈ A, Sz 500 x.2) (h1 : ∀ x, A = [x] → x.2 = 1) : F_folded (k + 2) [dF n A] = .ok (false, dF n A) := by
  match A, hn, hl, hA, h1 with
  | [x], _, _, _, _ => exact folded_end (k + 1) x.1
  | [], _, _, _, _ =>
    have := folded_step (k := k + 1) (n := n) (ws := []) (a := 6) (b := 85) (by decide) (fun _ z => nomatch z) (by decide) (by decide) (fun i x z => by simp [wyA] at z) (fun _ z => nomatch z)
    exact this
  | x :: y :: r, hn, hl, hA, _ =>
    generalize hB : x :: y :: r = B at hn hl hA
    have ed : dF n B = .tup [.str "deal", .str n, .tup (B.map wD)] := by rw [← hB]; rfl
    let ws : List Wy := B.map fun x => ⟨x.2, dE x.1, "", [(x.1, 1)]⟩
    have eA : wyA ws = B := by
      show (B.map _).flatMap _ = B
      clear hB hn hl hA ed
      induction B with
      | nil => rfl
      | cons z B ih =>
        rw [List.map_cons, List.flatMap_cons, ih]
        simp [asc]
    have eD : ws.map wyD = B.map wD := by simp [ws, wyD, wD]
    have st := folded_step (k := k + 1) (n := n) (ws := ws) (a := 500) (b := 1) (by decide) (by
      intro w hw
      obtain ⟨z, hz, rfl⟩ := List.mem_map.mp hw
      exact ⟨fun x e => by cases e; rfl, hA z hz, fun x hx => by rw [List.mem_singleton.mp hx]; exact sz_one, by simp⟩) (by simp [ws]; omega) (by rw [eA]; omega) (by
      intro i z hz
      rw [eA] at hz ⊢
      refine ⟨1, 500, ?_, hA z (List.mem_of_getElem? hz), by decide⟩
      have hi : i < B.length := (List.getElem?_eq_some_iff.mp hz).1
      have ntk : And (B.take i) := by
        unfold F.And at hn ⊢
        rw [List.map_take]
        exact hn.sublist (List.take_sublist _ _)
      rw [gath_new ntk, agt_not]
      · exact sz_zero
      · rintro ⟨t, ht⟩
        obtain ⟨j, hj, ej⟩ := List.mem_iff_getElem.mp ht
        have hj' : j < i := by rw [List.length_take] at hj; omega
        rw [List.getElem_take] at ej
        unfold F.And at hn
        have e1 : (B.map (·.1))[j]? = some z.1 := by rw [List.getElem?_map, List.getElem?_eq_getElem (by omega), ej]; rfl
        have e2 : (B.map (·.1))[i]? = some z.1 := by rw [List.getElem?_map, hz]; rfl
        have := (List.getElem?_inj (by simp; omega) hn).mp (e1.trans e2.symm)
        omega) (by
      intro w hw
      obtain ⟨z, hz, rfl⟩ := List.mem_map.mp hw
      exact folded_end k z.1)
    rw [eA, eD, gath_new hn] at st
    rw [ed] at st ⊢
    exact st
end K47

set_option Elab.async false
set_option linter.all false
set_option maxRecDepth 100000
set_option maxHeartbeats 4000000
namespace K47
open PySem Hd F Pk
open L2 (atI ixN)
/-! ### the law's ends -/
def dA (A : As) : D := .dcu (aks A) (avs A)
theorem ends_fin {φp : List D → Res (Bool × D)} {l2 : Me → Res (Fl × Me)} {A : As} {q s : Rat} (hn : F.And A) (hl : A.length < 16777216) (ep : φp [rD (agt A q), rD s] = .ok (false, rD (agt A q + s))) :
    runIOp 2 5 3 (c__law_ends φp l2) [dE q, rD s] (dA A) = .ok (.non, dA (apt A q s)) := by
  have e2 := valU_as q (rD 0) A
  have e3 := putU_as hn q s
  have e4 : (aks A).length < 16777216 := by simpa [aks] using hl
  have i0 : gIx (dE q) (.int 0) = some (.str "end") := rfl
  rw [rD_zero] at e2
  simp [runIOp, insP, c__law_ends, gSeq, gIf, fCmpT, fBin, fVarB, fVar, fC, i0, gUPut, fFn, fCons, fNil, fUGet2, fTup, dA, dcK, keyT_dE, e2, ep, ownU, e4, putMU, e3, gRet0, Me.let, Sl.let, ioAtP]
theorem ends_deal {φp : List D → Res (Bool × D)} {l2 : Me → Res (Fl × Me)} {A B : As} {n : Str} {ds : List D} {s : Rat} {s3 s4 : Sl}
    (el : l2 [.fz (.tup [.str "deal", .str n, .tup ds]), .fz (rD s), .io (dA A), .un, .un] = .ok (.nx, [.fz (.tup [.str "deal", .str n, .tup ds]), .fz (rD s), .io (dA B), s3, s4])) :
    runIOp 2 5 3 (c__law_ends φp l2) [.tup [.str "deal", .str n, .tup ds], rD s] (dA A) = .ok (.non, dA B) := by
  have i0 : gIx (.tup [.str "deal", .str n, .tup ds]) (.int 0) = some (.str "deal") := rfl
  generalize D.tup [.str "deal", .str n, .tup ds] = g at *
  simp [runIOp, insP, c__law_ends, gSeq, gIf, fCmpT, fBin, fVarB, fC, i0, gNx, el, ioAtP]
theorem agt_aal {k : Nat} {l : As} : ∀ {A : As} {c : Nat}, (∀ x ∈ l, Sz k x.2) → (∀ q, Sz c (agt A q)) → ∀ q, Sz (l.length * (k + 1) + c) (agt (aal A l) q) := by
  induction l with
  | nil => intro A c _ h q; simpa [aal_nil] using h q
  | cons x l ih =>
    intro A c h1 h2 q
    rw [aal_cons]
    have := ih (A := apt A x.1 x.2) (c := c + k + 1) (fun y hy => h1 y (List.mem_cons_of_mem _ hy)) (fun p => by
      rw [agt_apt]
      split
      · exact sz_add (h2 _) (h1 x List.mem_cons_self)
      · exact (h2 p).mono (by omega)) q
    refine this.mono ?_
    rw [List.length_cons, Nat.succ_mul]
    omega
mutual
theorem ends_eq : ∀ (h k : Nat) (t : Tr) (s : Rat) (A : As) (c j : Nat), h ≤ 3 → h < k → okT h t → F.And A → Sz j s → j + 6 * h ≤ 20 → (∀ q, Sz c (agt A q)) → c + 21 * Lm h ≤ 3000 → A.length + Lm h ≤ 1000 →
    F__law_ends k [dT t, rD s] (dA A) = .ok (.non, dA (aal A (flT s t)))
  | h, 0, _, _, _, _, _, _, hk, _, _, _, _, _, _, _ => absurd hk (Nat.not_lt_zero _)
  | h, k + 1, .fin q, s, A, c, j, hh, hk, ok, hn, hj, hj2, hc, hc2, hl => by
    have l1 := (Lm3 hh).1
    have ep := plus_r (hc q) hj (by omega)
    exact ends_fin hn (by omega) ep
  | 0, k + 1, .deal _ ws, _, _, _, _, _, _, ok, _, _, _, _, _, _ => by simp [okT] at ok
  | h + 1, k + 1, .deal n ws, s, A, c, j, hh, hk, ok, hn, hj, hj2, hc, hc2, hl => by
    unfold okT at ok
    have e : Lm (h + 1) = (h + 2) * Lm h := rfl
    have lm := Nat.mul_le_mul_right (Lm h) ok.2.1
    obtain ⟨s3, s4, lp⟩ := endsW_eq h k ws s A c j (.tup [.str "deal", .str n, .tup (dTw ws)]) .un .un (by omega) (by omega) ok.1 hn hj (by omega) hc (by omega) (by omega)
    have : L__law_ends_2 (F__law_ends k) [.fz (.tup [.str "deal", .str n, .tup (dTw ws)]), .fz (rD s), .io (dA A), .un, .un] = .ok (.nx, [.fz (.tup [.str "deal", .str n, .tup (dTw ws)]), .fz (rD s), .io (dA (aal A (flW s ws))), s3, s4]) := by
      unfold L__law_ends_2 gFor
      rw [show fItT (fBin gIx (fVarB 0) (fC (.int 2))) [Sl.fz (.tup [.str "deal", .str n, .tup (dTw ws)]), .fz (rD s), .io (dA A), .un, .un] = .ok (dTw ws) from rfl]
      exact lp
    simp only [dT, flT]
    exact ends_deal this
theorem endsW_eq : ∀ (h k : Nat) (ws : Tw) (s : Rat) (A : As) (c j : Nat) (g : D) (s3 s4 : Sl), h ≤ 2 → h < k → okW h ws → F.And A → Sz j s → j + 6 + 6 * h ≤ 20 → (∀ q, Sz c (agt A q)) → c + 21 * (lenT ws * Lm h) ≤ 3000 → A.length + lenT ws * Lm h ≤ 1000 →
    ∃ s3' s4', loopL (hTup 2 (hCons (hName 3) (hCons (hName 4) hNil))) (B__law_ends_1 (F__law_ends k)) (dTw ws) [.fz g, .fz (rD s), .io (dA A), s3, s4] = .ok (.nx, [.fz g, .fz (rD s), .io (dA (aal A (flW s ws))), s3', s4'])
  | _, _, .nil, _, _, _, _, _, s3, s4, _, _, _, _, _, _, _, _, _ => ⟨s3, s4, by simp only [dTw, flW, loopL, aal_nil]⟩
  | h, k, .cons p t r, s, A, c, j, g, s3, s4, hh, hk, ok, hn, hj, hj2, hc, hc2, hl => by
    unfold okW at ok
    have el : lenT (.cons p t r) * Lm h = lenT r * Lm h + Lm h := by rw [lenT, Nat.succ_mul]
    rw [el] at hc2 hl
    have hsp := sz_mul hj ok.1
    have l1 := flT_len (s * p) h t ok.2.1
    have et := times_r hj ok.1 (by omega)
    have e1 := ends_eq h k t (s * p) A c (j + 6) (by omega) hk ok.2.1 hn hsp (by omega) hc (by omega) (by omega)
    have hsz : ∀ q, Sz (c + 21 * Lm h) (agt (aal A (flT (s * p) t)) q) := fun q => by
      refine (agt_aal (k := 20) (c := c) (fun x hx => (flT_sz hsp h t ok.2.1 x hx).mono (by omega)) hc q).mono ?_
      have : (flT (s * p) t).length * (20 + 1) ≤ Lm h * 21 := Nat.mul_le_mul l1 (Nat.le_refl _)
      omega
    have hlen := len_aal (l := flT (s * p) t) (A := A)
    obtain ⟨z3, z4, e2⟩ := endsW_eq h k r s (aal A (flT (s * p) t)) (c + 21 * Lm h) j g (.fz (rD p)) (.fz (dT t)) hh hk ok.2.2 (and_aal hn) hj hj2 hsz (by omega) (by omega)
    refine ⟨z3, z4, ?_⟩
    have st : B__law_ends_1 (F__law_ends k) [.fz g, .fz (rD s), .io (dA A), .fz (rD p), .fz (dT t)] = .ok (.nx, [.fz g, .fz (rD s), .io (dA (aal A (flT (s * p) t))), .fz (rD p), .fz (dT t)]) := by
      simp [B__law_ends_1, gExX, fxIOp, ownA, fCons, fNil, fVar, fFn, et, e1, putA]
    simp only [dTw, flW]
    rw [aal_app]
    unfold loopL
    rw [show hTup 2 (hCons (hName 3) (hCons (hName 4) hNil)) (D.tup [rD p, dT t]) [.fz g, .fz (rD s), .io (dA A), s3, s4] = some [.fz g, .fz (rD s), .io (dA A), .fz (rD p), .fz (dT t)] by simp [hTup, hCons, hName, hNil]]
    simp only [st]
    exact e2
end
/-! ### alike -/
mutual
def plD : D → Bool
  | .int _ | .str _ => true
  | .tup ds => plDs ds && decide (ds.length ≤ 1000)
  | _ => false
def plDs : List D → Bool
  | [] => true
  | d :: ds => plD d && plDs ds
end
mutual
def hD : D → Nat
  | .tup ds => hDs ds + 1
  | _ => 0
def hDs : List D → Nat
  | [] => 0
  | d :: ds => max (hD d) (hDs ds)
end
theorem plDs_at : ∀ {ds : List D} {i : Nat} {d : D}, plDs ds = true → ds[i]? = some d → plD d = true ∧ hD d ≤ hDs ds
  | [], _, _, _, e => by simp at e
  | x :: ds, 0, d, h, e => by
    simp at e; subst e
    simp only [plDs, Bool.and_eq_true] at h
    exact ⟨h.1, by simp only [hDs]; omega⟩
  | x :: ds, i + 1, d, h, e => by
    simp only [plDs, Bool.and_eq_true] at h
    obtain ⟨a, b⟩ := plDs_at (i := i) h.2 (by simpa using e)
    exact ⟨a, by simp only [hDs]; omega⟩
theorem boolL_true : ∀ l : List D, boolL (l.map fun _ => D.bl true) = some (l.map fun _ => true)
  | [] => rfl
  | x :: l => by simp [boolL, boolL_true l]
theorem all_true (l : List D) : gAll [.lst (l.map fun _ => D.bl true)] = some (.bl true) := by
  simp [gAll, boolL_true]
theorem alike_tup {l2 : Me → Res D} {ds ys : List D} (q2 : l2 [.fz (.tup ds), .fz (.tup ds)] = .ok (.lst ys)) (ga : gAll [.lst ys] = some (.bl true)) : runF 2 2 (c__law_alike l2) [.tup ds, .tup ds] = .ok (false, .bl true) := by
  simp [runF, c__law_alike, gSeq, gIf, fTv, fIsi, fVarB, kindD, subT, gNx, gRet, Me.let, Sl.let, fOrT, fNotT, fCmpT, fCall, fCons, fNil, gLen, q2, ga]
theorem alike_eq : ∀ (k : Nat) (d : D), plD d = true → hD d < k → F__law_alike k [d, d] = .ok (false, .bl true)
  | 0, _, _, h => absurd h (Nat.not_lt_zero _)
  | k + 1, .int i, _, _ => by
    simp [F__law_alike, runF, c__law_alike, gSeq, gIf, fTv, fIsi, fVarB, kindD, subT, gNx, gRet, Me.let, Sl.let, fAnd, fNot, fCmp]
  | k + 1, .str i, _, _ => by
    simp [F__law_alike, runF, c__law_alike, gSeq, gIf, fTv, fIsi, fVarB, kindD, subT, gNx, gRet, Me.let, Sl.let, fAnd, fNot, fCmp]
  | k + 1, .tup ds, h, hd => by
    simp only [plD, Bool.and_eq_true, decide_eq_true_eq] at h
    have hd' : hDs ds + 1 < k + 1 := by simpa only [hD] using hd
    have cl : compL (hName 0) fAll (E__law_alike_1 (F__law_alike k)) [.un, .fz (.tup ds), .fz (.tup ds)] ((List.range ds.length).map fun (i : Nat) => D.int i) = .ok (((List.range ds.length).map fun (i : Nat) => D.int i).map fun _ => D.bl true) := comp_map (fun _ => D.bl true) _ (by
      intro d hd
      obtain ⟨j, hj, rfl⟩ := List.mem_map.mp hd
      have hj' : j < ds.length := List.mem_range.mp hj
      have ej : ds[j]? = some ds[j] := List.getElem?_eq_getElem hj'
      obtain ⟨p1, p2⟩ := plDs_at h.1 ej
      have eat : atI ds (j : Int) = some ds[j] := by
        unfold atI ixN
        rw [if_pos (by omega), if_pos (by omega)]
        simp [hj']
      have ea := alike_eq k ds[j] p1 (by omega)
      refine ⟨_, rfl, rfl, ?_⟩
      simp [E__law_alike_1, fFn, fCons, fNil, fBin, fVarB, gIx, eat, ea])
    have hi := itR1 (f := fCons (fCall gLen (fCons (fVarB 1) fNil)) fNil) (m := [Sl.fz (.tup ds), .fz (.tup ds)]) (j := ds.length) (by simp [fCons, fCall, fVarB, fNil, gLen]) (by omega) (by omega)
    rw [Int.toNat_natCast] at hi
    have q2 : Q__law_alike_2 (F__law_alike k) [.fz (.tup ds), .fz (.tup ds)] = .ok (.lst (((List.range ds.length).map fun (i : Nat) => D.int i).map fun _ => D.bl true)) := by
      unfold Q__law_alike_2 fComp
      rw [hi]
      simp only [Res.bind_ok]
      rw [if_pos (by rw [szl]; simp; omega)]
      rw [show cMe 1 [0, 1] [Sl.fz (.tup ds), .fz (.tup ds)] = [.un, .fz (.tup ds), .fz (.tup ds)] from rfl, cl]
    have ga : gAll [.lst (((List.range ds.length).map fun (i : Nat) => D.int i).map fun _ => D.bl true)] = some (.bl true) := all_true _
    exact alike_tup q2 ga
  | k + 1, .non, h, _ => by simp [plD] at h
  | k + 1, .bl _, h, _ => by simp [plD] at h
  | k + 1, .exc _, h, _ => by simp [plD] at h
  | k + 1, .lst _, h, _ => by simp [plD] at h
  | k + 1, .dct _ _, h, _ => by simp [plD] at h
  | k + 1, .dcu _ _, h, _ => by simp [plD] at h
  | k + 1, .dcf _ _, h, _ => by simp [plD] at h
/-! ### the law -/
theorem rD_pl (r : Rat) : plD (rD r) = true ∧ hD (rD r) = 1 := by simp [rD_eq, plD, plDs, hD, hDs]
theorem dE_pl (q : Rat) : plD (dE q) = true ∧ hD (dE q) = 2 := by
  have := rD_pl q
  simp [dE, plD, plDs, hD, hDs, this.1, this.2]
theorem wDs_pl : ∀ A : As, plDs (A.map wD) = true ∧ hDs (A.map wD) ≤ 3
  | [] => by simp [plDs, hDs]
  | x :: A => by
    have h1 := rD_pl x.2
    have h2 := dE_pl x.1
    have h3 := wDs_pl A
    rw [List.map_cons]
    simp only [plDs, hDs, wD, plD, hD, h1.1, h1.2, h2.1, h2.2]
    refine ⟨by simp [h3.1, show plDs (A.map fun x => D.tup [rD x.2, dE x.1]) = true from h3.1], ?_⟩
    have := h3.2
    simp
    omega
theorem dF_pl {n : Str} {A : As} (hl : A.length ≤ 24) : plD (dF n A) = true ∧ hD (dF n A) ≤ 5 := by
  match A, hl with
  | [x], _ => have := dE_pl x.1; exact ⟨this.1, by show hD (dE x.1) ≤ 5; omega⟩
  | [], _ => simp [dF, plD, plDs, hD, hDs]
  | x :: y :: r, hl =>
    generalize hB : x :: y :: r = B at hl
    have ed : dF n B = .tup [.str "deal", .str n, .tup (B.map wD)] := by rw [← hB]; rfl
    have h3 := wDs_pl B
    rw [ed]
    simp only [plD, plDs, hD, hDs, h3.1]
    refine ⟨by simp; omega, by simp; omega⟩
theorem dF_due {n : Str} {x : Rat × Rat} {A : As} : dF n (x :: A) = if A = [] then dE x.1 else .tup [.str "deal", .str n, .tup ((x :: A).map wD)] := by
  cases A with
  | nil => rfl
  | cons y r => rfl
theorem runF_ret {N n : Nat} {G : Me → Res (Fl × Me)} {ds : List D} {fr : Bool} {d : D} {m : Me} (hl : ds.length = n) (h : G (ds.map Sl.fz ++ List.replicate (N - n) Sl.un) = .ok (.rt fr d, m)) : runF N n G ds = .ok (fr, d) := by
  unfold runF
  rw [if_pos hl, h]
theorem law_run {φf φt φa : List D → Res (Bool × D)} {φe : List D → D → Res (D × D)} {l2 l4 : Me → Res D} {S g due : D} {A : As} {x : Rat × Rat} {n : Str} {ys : List D} {r0 : D}
    (et : φt [S, .int 0, .int 0] = .ok (false, g)) (eg : gIx g (.int 1) = some r0) (ee : φe [g, .tup [.int 1, .int 1]] (.dcu [] []) = .ok (.non, dA (x :: A)))
    (e2 : A ≠ [] → l2 [.fz S, .fz g, .fz (.dcf (aks (x :: A)) (avs (x :: A))), .fz (dE x.1)] = .ok (.lst ((x :: A).map wD)))
    (hdue : due = if A = [] then dE x.1 else .tup [.str "deal", r0, .tup ((x :: A).map wD)])
    (f1 : φf [g] = .ok (false, due)) (f2 : φf [due] = .ok (false, due)) (a1 : φa [due, due] = .ok (false, .bl true))
    (e4 : l4 [.fz S, .fz g, .fz (.dcf (aks (x :: A)) (avs (x :: A))), .fz due] = .ok (.lst ys)) (ga : gAll [.lst ys] = some (.bl true)) :
    runF 4 1 (c_law φf φt φe φa l2 l4) [S] = .ok (false, .bl true) := by
  have k0 : gIx (.lst ((aks (x :: A)).map tupK)) (.int 0) = some (dE x.1) := by
    show atI _ 0 = _
    simp [aks, atI, ixN, tupK_kq]
  have kl : gLenU [.dcf (aks (x :: A)) (avs (x :: A))] = some (.int (A.length + 1 : Nat)) := by simp [gLenU, dcK, aks]
  have q1 : gSet 1 (fFn φt (fCons (fVar 0) (fCons (fC (.int 0)) (fCons (fC (.int 0)) fNil)))) [.fz S, .un, .un, .un] = .ok (.nx, [.fz S, .fz g, .un, .un]) := by simp [gSet, fFn, fCons, fNil, fVar, fC, et]
  have q2 : gExX (fxIOp φe 2 2 (fCons (fVar 1) (fCons (fTup (fCons (fC (.int 1)) (fCons (fC (.int 1)) fNil))) fNil))) [.fz S, .fz g, .ow (.dcu [] []), .un] = .ok (.nx, [.fz S, .fz g, .ow (dA (x :: A)), .un]) := by
    simp [gExX, fxIOp, ownA, fCons, fNil, fVar, fTup, fC, ee, putA]
  generalize hK : aks (x :: A) = K at *
  generalize hV : avs (x :: A) = V at *
  have q3 : gIf (fCmpT gGt (fCall gLenU (fCons (fVarB 2) fNil)) (fC (.int 1))) (gSet 3 (fTup (fCons (fC (.str "deal")) (fCons (fBin gIx (fVarB 1) (fC (.int 1))) (fCons (fCall gTuple (fCons l2 fNil)) fNil))))) gNx [.fz S, .fz g, .fz (.dcf K V), .fz (dE x.1)] = .ok (.nx, [.fz S, .fz g, .fz (.dcf K V), .fz due]) := by
    by_cases hA : A = []
    · subst hA
      rw [if_pos rfl] at hdue
      subst hdue
      have : gLenU [.dcf K V] = some (.int 1) := kl
      simp [gIf, fCmpT, fCall, fCons, fNil, fVarB, fC, this, gGt, gNx]
    · rw [if_neg hA] at hdue
      have e2 := e2 hA
      have hlen : ¬ ((A.length + 1 : Nat) : Int) ≤ 1 := by
        have : A.length ≠ 0 := fun z => hA (List.length_eq_zero_iff.mp z)
        omega
      generalize (x :: A).map wD = W at *
      have c1 : fCmpT gGt (fCall gLenU (fCons (fVarB 2) fNil)) (fC (.int 1)) [.fz S, .fz g, .fz (.dcf K V), .fz (dE x.1)] = .ok true := by
        simp only [fCmpT, fCall, fCons, fNil, fVarB, fC, List.getElem?_cons_succ, List.getElem?_cons_zero, Res.bind_ok, kl, ofO_some]
        simp [gGt]
        omega
      simp [gIf, c1, gSet, fTup, fCons, fNil, fC, fBin, fVarB, eg, fCall, e2, gTuple, hdue]
  have qo : gOwn 2 fUNew [.fz S, .fz g, .un, .un] = .ok (.nx, [.fz S, .fz g, .ow (.dcu [] []), .un]) := rfl
  have qk : gSet 3 (fBin gIx (fLKeys (fVar 2)) (fC (.int 0))) [.fz S, .fz g, .fz (.dcf K V), .un] = .ok (.nx, [.fz S, .fz g, .fz (.dcf K V), .fz (dE x.1)]) := by simp [gSet, fBin, fLKeys, fVar, fC, k0]
  have q5 : gIf (fOrT (fNotT (fTv (fFn φa (fCons (fFn φf (fCons (fVar 1) fNil)) (fCons (fVar 3) fNil))))) (fNotT (fTv (fFn φa (fCons (fFn φf (fCons (fVar 3) fNil)) (fCons (fVar 3) fNil)))))) (gRet (fC (.bl false))) gNx [.fz S, .fz g, .fz (.dcf K V), .fz due] = .ok (.nx, [.fz S, .fz g, .fz (.dcf K V), .fz due]) := by
    simp [gIf, fOrT, fNotT, fTv, fFn, fCons, fNil, fVar, f1, f2, a1, gNx]
  have q6 : gRet (fCall gAll (fCons l4 fNil)) [.fz S, .fz g, .fz (.dcf K V), .fz due] = .ok (.rt false (.bl true), [.fz S, .fz g, .fz (.dcf K V), .fz due]) := by
    simp [gRet, Me.let, let_fz, fCall, fCons, fNil, e4, ga]
  have qd : dA (x :: A) = .dcu K V := by unfold dA; rw [hK, hV]
  rw [qd] at q2
  refine runF_ret rfl (m := [.fz S, .fz g, .fz (.dcf K V), .fz due]) ?_
  show c_law φf φt φe φa l2 l4 [.fz S, .un, .un, .un] = _
  unfold c_law
  simp only [gSeq, q1, qo, q2]
  simp only [gFrz, List.getElem?_cons_succ, List.getElem?_cons_zero, show ([Sl.fz S, .fz g, .ow (.dcu K V), .un] : Me).set 2 (.fz (.dcf K V)) = [.fz S, .fz g, .fz (.dcf K V), .un] from rfl]
  simp only [gSeq, qk, q3, q5, q6]
theorem comp_dF {A : As} (hn : F.And A) : compL (hName 0) fAll E_law_1 [.un, .fz (.dcf (aks A) (avs A))] ((aks A).map tupK) = .ok (A.map wD) := by
  have : ∀ B : As, (∀ x ∈ B, x ∈ A) → compL (hName 0) fAll E_law_1 [.un, .fz (.dcf (aks A) (avs A))] ((aks B).map tupK) = .ok (B.map wD) := by
    intro B
    induction B with
    | nil => intro _; rfl
    | cons x B ih =>
      intro h
      have ih := ih fun y hy => h y (List.mem_cons_of_mem _ hy)
      have hx := h x List.mem_cons_self
      have ev := valU_in x.1 A ⟨x.2, hx⟩
      rw [agt_mem hn hx] at ev
      have ee : E_law_1 [.fz (dE x.1), .fz (.dcf (aks A) (avs A))] = .ok (wD x) := by
        simp [E_law_1, fTup, fCons, fNil, fBin, fVarB, fVar, gUGet, dcK, keyT_dE, ev, wD]
      have e2 : (aks (x :: B)).map tupK = dE x.1 :: (aks B).map tupK := by simp [aks, tupK_kq]
      rw [e2, List.map_cons]
      unfold compL
      rw [show hName 0 (dE x.1) [.un, .fz (.dcf (aks A) (avs A))] = some [.fz (dE x.1), .fz (.dcf (aks A) (avs A))] from rfl]
      simp only [fAll, ee, ih]
  exact this A fun _ z => z
theorem comp_ends {A : As} : compL (hName 0) fAll E_law_3 [.un] ((aks A).map tupK) = .ok (((aks A).map tupK).map fun _ => D.bl true) := comp_map (fun _ => D.bl true) _ (by
  intro d hd
  obtain ⟨k, hk, rfl⟩ := List.mem_map.mp hd
  obtain ⟨x, hx, rfl⟩ := List.mem_map.mp hk
  have e1 := folded_end 11 x.1
  have e2 := alike_eq 30 (dE x.1) (dE_pl x.1).1 (by rw [(dE_pl x.1).2]; decide)
  refine ⟨_, rfl, rfl, ?_⟩
  rw [tupK_kq]
  simp only [E_law_3, fFn, fCons, fNil, fVar, List.set_cons_zero, List.getElem?_cons_zero, Res.bind_ok, e1, e2])
theorem law_true : ∀ ns : List Int, ns.length ≤ 63 → ∃ fr, F_law [.lst (ns.map D.int)] = .ok (fr, .bl true) := by
  intro ns _
  obtain ⟨t, ok, et⟩ := tree_eq ns 3 8 0 (by decide) (by decide) (by decide) (by decide)
  have hne := gath_ne (fl_ne 1 3 t ok)
  have hand := and_gath (flT 1 t)
  have hlen : (gath (flT 1 t)).length ≤ 24 := Nat.le_trans (len_gath _) (Nat.le_trans (flT_len 1 3 t ok) (by decide))
  have hsz := gath_sz (by decide) ok
  have hone := gath_one ok
  have ee := ends_eq 3 8 t 1 [] 1 1 (by decide) (by decide) ok (by simp [F.And]) sz_one (by decide) (fun q => by simp [agt]; exact sz_zero) (by decide) (by decide)
  have ef := folded_eq 3 12 t (by decide) (by decide) ok
  have ee : F__law_ends 8 [dT t, rD 1] (.dcu [] []) = .ok (.non, dA (gath (flT 1 t))) := ee
  generalize hA : gath (flT 1 t) = A at *
  match A, hne with
  | x :: B, _ =>
    have fa := folded_again (n := nmT t) 10 hand hlen hsz hone
    have pl := dF_pl (n := nmT t) hlen
    have al := alike_eq 30 _ pl.1 (by omega)
    have r0 : ∃ r0, gIx (dT t) (.int 1) = some r0 ∧ (B ≠ [] → r0 = .str (nmT t)) := by
      cases t with
      | fin q =>
        refine ⟨rD q, rfl, fun hB => ?_⟩
        have : gath [(q, (1 : Rat))] = x :: B := hA
        have e : gath [(q, (1 : Rat))] = [(q, 1)] := rfl
        rw [e] at this
        injection this with _ h2
        exact absurd h2.symm hB
      | deal n ws => exact ⟨.str n, rfl, fun _ => rfl⟩
    obtain ⟨r0, er0, er1⟩ := r0
    have hd : dF (nmT t) (x :: B) = if B = [] then dE x.1 else .tup [.str "deal", r0, .tup ((x :: B).map wD)] := by
      rw [dF_due]
      by_cases hB : B = []
      · rw [if_pos hB, if_pos hB]
      · rw [if_neg hB, if_neg hB, er1 hB]
    have kl : ((aks (x :: B)).map tupK).length ≤ 16777216 := by rw [List.length_map, aks, List.length_map]; omega
    refine ⟨false, law_run (φf := F_folded 12) (φt := F__law_tree 8) (φa := F__law_alike 30) (φe := F__law_ends 8) (g := dT t) (x := x) (A := B) (r0 := r0) (due := dF (nmT t) (x :: B)) (n := nmT t) et er0 ee (fun _ => ?_) hd ef fa al (ys := ((aks (x :: B)).map tupK).map fun _ => D.bl true) ?_ (all_true _)⟩
    · unfold Q_law_2 fComp
      rw [show fItK (fVar 2) [.fz (D.lst (ns.map D.int)), .fz (dT t), .fz (.dcf (aks (x :: B)) (avs (x :: B))), .fz (dE x.1)] = .ok ((aks (x :: B)).map tupK) from rfl]
      simp only [Res.bind_ok]
      rw [if_pos (by rw [szl]; exact kl)]
      rw [show cMe 1 [2] [Sl.fz (D.lst (ns.map D.int)), .fz (dT t), .fz (.dcf (aks (x :: B)) (avs (x :: B))), .fz (dE x.1)] = [.un, .fz (.dcf (aks (x :: B)) (avs (x :: B)))] from rfl, comp_dF hand]
    · unfold Q_law_4 fComp
      rw [show fItK (fVar 2) [.fz (D.lst (ns.map D.int)), .fz (dT t), .fz (.dcf (aks (x :: B)) (avs (x :: B))), .fz (dF (nmT t) (x :: B))] = .ok ((aks (x :: B)).map tupK) from rfl]
      simp only [Res.bind_ok]
      rw [if_pos (by rw [szl]; exact kl)]
      rw [show cMe 1 [] [Sl.fz (D.lst (ns.map D.int)), .fz (dT t), .fz (.dcf (aks (x :: B)) (avs (x :: B))), .fz (dF (nmT t) (x :: B))] = [.un] from rfl, comp_ends]
end K47

set_option Elab.async false
set_option linter.all false
set_option maxRecDepth 100000
set_option maxHeartbeats 4000000
namespace K47
open PySem L2 Hd F Pk
def top (i : Nat) : Stmt := PySem.Challenge.pw_hushduel_k47_deals_in_deals.main.body.getD i (.Pass ⟨0, 0, 0, 0⟩)
theorem bt_abs : bootBuiltins "abs" = some (.builtin "abs") := by decide +kernel
theorem bt_all : bootBuiltins "all" = some (.builtin "all") := by decide +kernel
theorem bt_bool : bootBuiltins "bool" = some (.type "bool") := by decide +kernel
theorem bt_int : bootBuiltins "int" = some (.type "int") := by decide +kernel
theorem bt_isinstance : bootBuiltins "isinstance" = some (.builtin "isinstance") := by decide +kernel
theorem bt_len : bootBuiltins "len" = some (.builtin "len") := by decide +kernel
theorem bt_list : bootBuiltins "list" = some (.type "list") := by decide +kernel
theorem bt_str : bootBuiltins "str" = some (.type "str") := by decide +kernel
theorem bt_sum : bootBuiltins "sum" = some (.builtin "sum") := by decide +kernel
theorem bt_tuple : bootBuiltins "tuple" = some (.type "tuple") := by decide +kernel
structure Bt (mg : Str → Option Value) : Prop where
  abs : mg "abs" = none
  all : mg "all" = none
  bool : mg "bool" = none
  int : mg "int" = none
  isinstance : mg "isinstance" = none
  len : mg "len" = none
  list : mg "list" = none
  range : mg "range" = none
  str : mg "str" = none
  sum : mg "sum" = none
  tuple : mg "tuple" = none
structure CnT (K : PySem.W.Frag) (mg : Str → Option Value) : Prop where
  NOUGHT : ∃ v u, mg "NOUGHT" = some u ∧ RelV v u ∧ ∀ O H, DV ⟨K, mg⟩ O H v (.tup [(.int 0), (.int 1)])
theorem cn_NOUGHT {X : Cx} {E : XK} {pos : Pos} (Cn : CnT X.K X.mg) (hg : Gl X "NOUGHT") : FE X E (.Name "NOUGHT" pos) (fC (.tup [(.int 0), (.int 1)])) := by
  obtain ⟨v, u, h1, h2, h3⟩ := Cn.NOUGHT
  exact fe_glob hg h1 h2 h3
abbrev stcommon_divisor : Stmt := top 2
theorem sccommon_divisor : FnScope ["first", "second", "great", "small", "rest"] ["first", "second"] (defScope stcommon_divisor) := ⟨rfl, rfl, rfl, by decide +kernel, rfl, by decide +kernel, by decide +kernel⟩
abbrev stlowest : Stmt := top 3
theorem sclowest : FnScope ["top", "bottom", "divisor"] ["top", "bottom"] (defScope stlowest) := ⟨rfl, rfl, rfl, by decide +kernel, rfl, by decide +kernel, by decide +kernel⟩
abbrev stplus : Stmt := top 4
theorem scplus : FnScope ["first", "second"] ["first", "second"] (defScope stplus) := ⟨rfl, rfl, rfl, by decide +kernel, rfl, by decide +kernel, by decide +kernel⟩
abbrev sttimes : Stmt := top 5
theorem sctimes : FnScope ["first", "second"] ["first", "second"] (defScope sttimes) := ⟨rfl, rfl, rfl, by decide +kernel, rfl, by decide +kernel, by decide +kernel⟩
abbrev stwith_ways : Stmt := top 7
theorem scwith_ways : FnScope ["game", "ways"] ["game", "ways"] (defScope stwith_ways) := ⟨rfl, rfl, rfl, by decide +kernel, rfl, by decide +kernel, by decide +kernel⟩
abbrev stopened_out : Stmt := top 9
theorem scopened_out : FnScope ["share", "branch"] ["share", "branch"] (defScope stopened_out) := ⟨rfl, rfl, rfl, by decide +kernel, rfl, by decide +kernel, by decide +kernel⟩
abbrev stput_together : Stmt := top 10
theorem scput_together : FnScope ["ways", "shares", "share", "branch"] ["ways"] (defScope stput_together) := ⟨rfl, rfl, rfl, by decide +kernel, rfl, by decide +kernel, by decide +kernel⟩
abbrev stfolded_deal : Stmt := top 11
theorem scfolded_deal : FnScope ["deal", "ways", "share", "branch"] ["deal"] (defScope stfolded_deal) := ⟨rfl, rfl, rfl, by decide +kernel, rfl, by decide +kernel, by decide +kernel⟩
abbrev stfolded : Stmt := top 12
theorem scfolded : FnScope ["game", "result"] ["game"] (defScope stfolded) := ⟨rfl, rfl, rfl, by decide +kernel, rfl, by decide +kernel, by decide +kernel⟩
abbrev st_law_cell_at : Stmt := top 14
theorem sc_law_cell_at : FnScope ["_law_script", "_law_k"] ["_law_script", "_law_k"] (defScope st_law_cell_at) := ⟨rfl, rfl, rfl, by decide +kernel, rfl, by decide +kernel, by decide +kernel⟩
abbrev st_law_divisor : Stmt := top 15
theorem sc_law_divisor : FnScope ["_law_one", "_law_other"] ["_law_one", "_law_other"] (defScope st_law_divisor) := ⟨rfl, rfl, rfl, by decide +kernel, rfl, by decide +kernel, by decide +kernel⟩
abbrev st_law_lowest : Stmt := top 16
theorem sc_law_lowest : FnScope ["_law_top", "_law_bottom", "_law_by"] ["_law_top", "_law_bottom"] (defScope st_law_lowest) := ⟨rfl, rfl, rfl, by decide +kernel, rfl, by decide +kernel, by decide +kernel⟩
abbrev st_law_times : Stmt := top 17
theorem sc_law_times : FnScope ["_law_one", "_law_other"] ["_law_one", "_law_other"] (defScope st_law_times) := ⟨rfl, rfl, rfl, by decide +kernel, rfl, by decide +kernel, by decide +kernel⟩
abbrev st_law_plus : Stmt := top 18
theorem sc_law_plus : FnScope ["_law_one", "_law_other"] ["_law_one", "_law_other"] (defScope st_law_plus) := ⟨rfl, rfl, rfl, by decide +kernel, rfl, by decide +kernel, by decide +kernel⟩
abbrev st_law_name : Stmt := top 19
theorem sc_law_name : FnScope ["_law_cell", "_law_signs"] ["_law_cell"] (defScope st_law_name) := ⟨rfl, rfl, rfl, by decide +kernel, rfl, by decide +kernel, by decide +kernel⟩
abbrev st_law_stake : Stmt := top 20
theorem sc_law_stake : FnScope ["_law_script", "_law_cell", "_law_turn", "_law_top"] ["_law_script", "_law_cell"] (defScope st_law_stake) := ⟨rfl, rfl, rfl, by decide +kernel, rfl, by decide +kernel, by decide +kernel⟩
abbrev st_law_tree : Stmt := top 21
theorem sc_law_tree : FnScope ["_law_script", "_law_at", "_law_depth", "_law_cell", "_law_many", "_law_weights", "_law_ways", "_law_k"] ["_law_script", "_law_at", "_law_depth"] (defScope st_law_tree) := ⟨rfl, rfl, rfl, by decide +kernel, rfl, by decide +kernel, by decide +kernel⟩
abbrev st_law_ends : Stmt := top 22
theorem sc_law_ends : FnScope ["_law_game", "_law_share", "_law_found", "_law_more", "_law_part"] ["_law_game", "_law_share", "_law_found"] (defScope st_law_ends) := ⟨rfl, rfl, rfl, by decide +kernel, rfl, by decide +kernel, by decide +kernel⟩
abbrev st_law_alike : Stmt := top 23
theorem sc_law_alike : FnScope ["_law_found", "_law_due"] ["_law_found", "_law_due"] (defScope st_law_alike) := ⟨rfl, rfl, rfl, by decide +kernel, rfl, by decide +kernel, by decide +kernel⟩
abbrev stlaw : Stmt := top 24
theorem sclaw : FnScope ["_law_script", "_law_game", "_law_ends_here", "_law_due"] ["_law_script"] (defScope stlaw) := ⟨rfl, rfl, rfl, by decide +kernel, rfl, by decide +kernel, by decide +kernel⟩
theorem ok_common_divisor {P : Program} {w : World} {K : PySem.W.Frag} {mg : Str → Option Value} {base : Heap} {f : Addr} {fd : FuncData} (B : Bt mg) (Fu : Fun K "common_divisor" "common_divisor" stcommon_divisor f fd)  :
    FnOk P w K mg base (CX1 P w) 1 f fd ["first", "second"] (spF ⟨K, mg⟩ F_common_divisor) :=
  fun_okF Fu sccommon_divisor fun cdv A outer s H E hr => by
  have hu := hr.units
  unfold g_common_divisor c_common_divisor
  exact (fss_cons (fs_set (i := 2) sccommon_divisor.nd rfl (Or.inl rfl) (fe_callB call_gAbs rfl B.abs bt_abs (fab_cons (fb_var 0) fab_nil)))
    (fss_cons (fs_set (i := 3) sccommon_divisor.nd rfl (Or.inl rfl) (fe_callB call_gAbs rfl B.abs bt_abs (fab_cons (fb_var 1) fab_nil)))
    (fss_cons (fs_while PassesOwn.leaving (ft_cmp (op_gNe hu) (fb_var 3) (fb_of fe_int) (nomark _))
    (fss_cons (fs_set (i := 4) sccommon_divisor.nd rfl (Or.inl rfl) (fe_bin op_gMod (fb_var 2) (fb_var 3)))
    (fss_cons (fs_set (i := 2) sccommon_divisor.nd rfl (Or.inl rfl) (fe_var 3))
    (fss_one (fs_set (i := 3) sccommon_divisor.nd rfl (Or.inl rfl) (fe_var 4))))))
    (fss_one (fs_ret (fe_var 2))))))
theorem ok_lowest {P : Program} {w : World} {K : PySem.W.Frag} {mg : Str → Option Value} {base : Heap} {f : Addr} {fd : FuncData} (B : Bt mg) (Fu : Fun K "lowest" "lowest" stlowest f fd) (Gcommon_divisor : FF P w K mg base 1 "common_divisor" ["first", "second"] F_common_divisor) :
    FnOk P w K mg base (CX1 P w) 2 f fd ["top", "bottom"] (spF ⟨K, mg⟩ F_lowest) :=
  fun_okF Fu sclowest fun cdv A outer s H E hr => by
  have hu := hr.units
  unfold g_lowest c_lowest
  exact (fss_cons (fs_set (i := 2) sclowest.nd rfl (Or.inl rfl) (fe_fn Gcommon_divisor hr cx_pass (fae_cons (fe_var 0) (fae_cons (fe_var 1) fae_nil))))
    (fss_cons (fs_if (ft_cmp (op_gLt hu) (fb_var 1) (fb_of fe_int) (nomark _))
    (fss_one (fs_set (i := 2) sclowest.nd rfl (Or.inl rfl) (fe_un un_gNeg (fb_var 2))))
    fss_nil)
    (fss_one (fs_ret (fe_tup (fae_cons (fe_bin op_gDiv (fb_var 0) (fb_var 2)) (fae_cons (fe_bin op_gDiv (fb_var 1) (fb_var 2)) fae_nil)))))))
theorem ok_plus {P : Program} {w : World} {K : PySem.W.Frag} {mg : Str → Option Value} {base : Heap} {f : Addr} {fd : FuncData} (B : Bt mg) (Fu : Fun K "plus" "plus" stplus f fd) (Glowest : FF P w K mg base 2 "lowest" ["top", "bottom"] F_lowest) :
    FnOk P w K mg base (CX1 P w) 3 f fd ["first", "second"] (spF ⟨K, mg⟩ F_plus) :=
  fun_okF Fu scplus fun cdv A outer s H E hr => by
  have hu := hr.units
  unfold g_plus c_plus
  exact (fss_one (fs_ret (fe_fn Glowest hr cx_pass (fae_cons (fe_bin op_gAdd (fb_of (fe_bin op_gMul (fb_of (fe_ix ix_g (fb_var 0) (fb_of fe_int) (fun _ _ => rfl))) (fb_of (fe_ix ix_g (fb_var 1) (fb_of fe_int) (fun _ _ => rfl))))) (fb_of (fe_bin op_gMul (fb_of (fe_ix ix_g (fb_var 1) (fb_of fe_int) (fun _ _ => rfl))) (fb_of (fe_ix ix_g (fb_var 0) (fb_of fe_int) (fun _ _ => rfl)))))) (fae_cons (fe_bin op_gMul (fb_of (fe_ix ix_g (fb_var 0) (fb_of fe_int) (fun _ _ => rfl))) (fb_of (fe_ix ix_g (fb_var 1) (fb_of fe_int) (fun _ _ => rfl)))) fae_nil)))))
theorem ok_times {P : Program} {w : World} {K : PySem.W.Frag} {mg : Str → Option Value} {base : Heap} {f : Addr} {fd : FuncData} (B : Bt mg) (Fu : Fun K "times" "times" sttimes f fd) (Glowest : FF P w K mg base 2 "lowest" ["top", "bottom"] F_lowest) :
    FnOk P w K mg base (CX1 P w) 3 f fd ["first", "second"] (spF ⟨K, mg⟩ F_times) :=
  fun_okF Fu sctimes fun cdv A outer s H E hr => by
  have hu := hr.units
  unfold g_times c_times
  exact (fss_one (fs_ret (fe_fn Glowest hr cx_pass (fae_cons (fe_bin op_gMul (fb_of (fe_ix ix_g (fb_var 0) (fb_of fe_int) (fun _ _ => rfl))) (fb_of (fe_ix ix_g (fb_var 1) (fb_of fe_int) (fun _ _ => rfl)))) (fae_cons (fe_bin op_gMul (fb_of (fe_ix ix_g (fb_var 0) (fb_of fe_int) (fun _ _ => rfl))) (fb_of (fe_ix ix_g (fb_var 1) (fb_of fe_int) (fun _ _ => rfl)))) fae_nil)))))
theorem ok_with_ways {P : Program} {w : World} {K : PySem.W.Frag} {mg : Str → Option Value} {base : Heap} {f : Addr} {fd : FuncData} (B : Bt mg) (Fu : Fun K "with_ways" "with_ways" stwith_ways f fd)  :
    FnOk P w K mg base (CX1 P w) 1 f fd ["game", "ways"] (spF ⟨K, mg⟩ F_with_ways) :=
  fun_okF Fu scwith_ways fun cdv A outer s H E hr => by
  have hu := hr.units
  unfold g_with_ways c_with_ways
  exact (fss_one (fs_ret (fe_bin op_gAdd (fb_of (fe_slice (fb_var 0) fo_none (fo_some (fb_of (fe_un un_gNeg (fb_of fe_int)))))) (fb_of (fe_tup (fae_cons (fe_callTy call_gTuple rfl B.tuple bt_tuple (fab_cons (fb_var 1) fab_nil)) fae_nil))))))
theorem ok_opened_out {P : Program} {w : World} {K : PySem.W.Frag} {mg : Str → Option Value} {base : Heap} {f : Addr} {fd : FuncData} (B : Bt mg) (Fu : Fun K "opened_out" "opened_out" stopened_out f fd) (Gtimes : FF P w K mg base 3 "times" ["first", "second"] F_times) :
    FnOk P w K mg base (CX1 P w) 4 f fd ["share", "branch"] (spF ⟨K, mg⟩ F_opened_out) :=
  fun_okF Fu scopened_out fun cdv A outer s H E hr => by
  have hu := hr.units
  unfold g_opened_out c_opened_out
  exact (fss_cons (fs_if (ft_cmp (op_gNe hu) (fb_of (fe_ix ix_g (fb_var 1) (fb_of fe_int) (fun _ _ => rfl))) (fb_of fe_str) (nomark _))
    (fss_one (fs_retN (fn_lst (fae_cons (fe_tup (fae_cons (fe_var 0) (fae_cons (fe_var 1) fae_nil))) fae_nil))))
    fss_nil)
    (fss_one (fs_retN (fn_comp (defScope stopened_out) ["part", "inner", "share"] ["share"] 2 [0] rfl ⟨rfl, by decide +kernel, by decide +kernel, by decide +kernel, by decide +kernel⟩ (.cons rfl .nil) (fiw_of (fi_tup (fe_ix ix_g (fb_var 1) (fb_of fe_int) (fun _ _ => rfl)))) (fun _ _ _ _ _ _ => (fg_tup rfl (fgs_cons (fg_name (i := 0) (show List.Nodup (["part", "inner", "share"] : List Str) by decide) rfl (Or.inl rfl)) (fgs_cons (fg_name (i := 1) (show List.Nodup (["part", "inner", "share"] : List Str) by decide) rfl (Or.inl rfl)) fgs_nil)))) (fun _ _ _ _ _ _ => fifs_nil) (fun _ _ _ _ _ _ => (fe_tup (fae_cons (fe_fn Gtimes hr pass1 (fae_cons (fe_var 2) (fae_cons (fe_var 0) fae_nil))) (fae_cons (fe_var 1) fae_nil))))))))
theorem ok_put_together {P : Program} {w : World} {K : PySem.W.Frag} {mg : Str → Option Value} {base : Heap} {f : Addr} {fd : FuncData} (B : Bt mg) (Cn : CnT K mg) (Fu : Fun K "put_together" "put_together" stput_together f fd) (Gplus : FF P w K mg base 3 "plus" ["first", "second"] F_plus) :
    FnOk P w K mg base (CX1 P w) 4 f fd ["ways"] (spF ⟨K, mg⟩ F_put_together) :=
  fun_okF Fu scput_together fun cdv A outer s H E hr => by
  have hu := hr.units
  unfold g_put_together c_put_together
  exact (fss_cons (fs_own (i := 1) scput_together.nd rfl (Or.inl rfl) fn_unew)
    (fss_cons (fs_for (k := 1000) PassesOwn.leaving rfl (fi_list (fe_var 0)) (fg_tup rfl (fgs_cons (fg_name (i := 2) scput_together.nd rfl (Or.inl rfl)) (fgs_cons (fg_name (i := 3) scput_together.nd rfl (Or.inl rfl)) fgs_nil)))
    (fss_one (fs_uput 1 hr (fe_fn Gplus hr cx_pass (fae_cons (fe_uget2 hr (fb_var 1) (fb_var 3) (cn_NOUGHT Cn rfl) ⟨rfl, rfl, rfl, rfl⟩) (fae_cons (fe_var 2) fae_nil))) (fe_var 3))))
    (fss_frz 1 (fss_one (fs_retN (fn_comp (defScope stput_together) ["branch", "share"] [] 2 [] rfl ⟨rfl, by decide +kernel, by decide +kernel, by decide +kernel, by decide +kernel⟩ .nil (fiw_of (fi_items (fe_var 1))) (fun _ _ _ _ _ _ => (fg_tup rfl (fgs_cons (fg_name (i := 0) (show List.Nodup (["branch", "share"] : List Str) by decide) rfl (Or.inl rfl)) (fgs_cons (fg_name (i := 1) (show List.Nodup (["branch", "share"] : List Str) by decide) rfl (Or.inl rfl)) fgs_nil)))) (fun _ _ _ _ _ _ => fifs_nil) (fun _ _ _ _ _ _ => (fe_tup (fae_cons (fe_var 1) (fae_cons (fe_var 0) fae_nil))))))))))
theorem ok_folded_deal {P : Program} {w : World} {K : PySem.W.Frag} {mg : Str → Option Value} {base : Heap} {f : Addr} {fd : FuncData} (B : Bt mg) (Fu : Fun K "folded_deal" "folded_deal" stfolded_deal f fd) (Gwith_ways : FF P w K mg base 1 "with_ways" ["game", "ways"] F_with_ways) (Gopened_out : FF P w K mg base 4 "opened_out" ["share", "branch"] F_opened_out) (Gput_together : FF P w K mg base 4 "put_together" ["ways"] F_put_together) :
    FnOk P w K mg base (CX1 P w) 5 f fd ["deal"] (spF ⟨K, mg⟩ F_folded_deal) :=
  fun_okF Fu scfolded_deal fun cdv A outer s H E hr => by
  have hu := hr.units
  unfold g_folded_deal c_folded_deal
  exact (fss_cons (fs_own (i := 1) scfolded_deal.nd rfl (Or.inl rfl) (fn_lst fae_nil))
    (fss_cons (fs_for (k := 1000) PassesOwn.leaving rfl (fi_tup (fe_ix ix_g (fb_var 0) (fb_of fe_int) (fun _ _ => rfl))) (fg_tup rfl (fgs_cons (fg_name (i := 2) scfolded_deal.nd rfl (Or.inl rfl)) (fgs_cons (fg_name (i := 3) scfolded_deal.nd rfl (Or.inl rfl)) fgs_nil)))
    (fss_one (fs_extend 1 (fn_fn Gopened_out hr cx_pass (fae_cons (fe_var 2) (fae_cons (fe_var 3) fae_nil))))))
    (fss_let 1 (fss_cons (fs_own (i := 1) scfolded_deal.nd rfl (Or.inl rfl) (fn_fn Gput_together hr cx_pass (fae_cons (fe_var 1) fae_nil)))
    (fss_one (fs_ret (fe_if (ft_cmp (op_gEq hu) (fb_of (fe_callB call_gLen rfl B.len bt_len (fab_cons (fb_var 1) fab_nil))) (fb_of fe_int) (nomark _)) (fe_ix ix_g (fb_of (fe_ix ix_g (fb_var 1) (fb_of fe_int) (fun _ _ => rfl))) (fb_of fe_int) (fun _ _ => rfl)) (fe_fn Gwith_ways hr cx_pass (fae_cons (fe_var 0) (fae_cons (fe_var 1) fae_nil))))))))))
theorem ok_folded {P : Program} {w : World} {K : PySem.W.Frag} {mg : Str → Option Value} {base : Heap} {f : Addr} {fd : FuncData} (B : Bt mg) (Fu : Fun K "folded" "folded" stfolded f fd) (Gwith_ways : FF P w K mg base 1 "with_ways" ["game", "ways"] F_with_ways) (Gfolded_deal : FF P w K mg base 5 "folded_deal" ["deal"] F_folded_deal) (n : Nat) (Gfolded : FF P w K mg base (5 + n) "folded" ["game"] (F_folded n)) :
    FnOk P w K mg base (CX1 P w) (5 + n + 1) f fd ["game"] (spF ⟨K, mg⟩ (F_folded (n + 1))) :=
  fun_okF Fu scfolded fun cdv A outer s H E hr => by
  have hu := hr.units
  unfold c_folded
  exact (fss_cons (fs_if (ft_cmp (op_gEq hu) (fb_of (fe_ix ix_g (fb_var 0) (fb_of fe_int) (fun _ _ => rfl))) (fb_of fe_str) (nomark _))
    (fss_one (fs_ret (fe_var 0)))
    fss_nil)
    (fss_cons (fs_set (i := 1) scfolded.nd rfl (Or.inl rfl) (fe_fn Gwith_ways hr cx_pass (fae_cons (fe_var 0) (fae_cons (fe_new (fn_comp (defScope stfolded) ["lead", "branch"] [] 2 [] rfl ⟨rfl, by decide +kernel, by decide +kernel, by decide +kernel, by decide +kernel⟩ .nil (fiw_of (fi_tup (fe_ix ix_g (fb_var 0) (fb_of (fe_un un_gNeg (fb_of fe_int))) (fun _ _ => rfl)))) (fun _ _ _ _ _ _ => (fg_tup rfl (fgs_cons (fg_name (i := 0) (show List.Nodup (["lead", "branch"] : List Str) by decide) rfl (Or.inl rfl)) (fgs_cons (fg_name (i := 1) (show List.Nodup (["lead", "branch"] : List Str) by decide) rfl (Or.inl rfl)) fgs_nil)))) (fun _ _ _ _ _ _ => fifs_nil) (fun _ _ _ _ _ _ => (fe_tup (fae_cons (fe_var 0) (fae_cons (fe_fn Gfolded hr pass1 (fae_cons (fe_var 1) fae_nil) (hk := by omega)) fae_nil)))))) fae_nil)) (hk := by omega)))
    (fss_one (fs_ret (fe_if (ft_cmp (op_gEq hu) (fb_of (fe_ix ix_g (fb_var 0) (fb_of fe_int) (fun _ _ => rfl))) (fb_of fe_str) (nomark _)) (fe_fn Gfolded_deal hr cx_pass (fae_cons (fe_var 1) fae_nil) (hk := by omega)) (fe_var 1))))))
theorem ok__law_cell_at {P : Program} {w : World} {K : PySem.W.Frag} {mg : Str → Option Value} {base : Heap} {f : Addr} {fd : FuncData} (B : Bt mg) (Fu : Fun K "_law_cell_at" "_law_cell_at" st_law_cell_at f fd)  :
    FnOk P w K mg base (CX1 P w) 1 f fd ["_law_script", "_law_k"] (spF ⟨K, mg⟩ F__law_cell_at) :=
  fun_okF Fu sc_law_cell_at fun cdv A outer s H E hr => by
  have hu := hr.units
  unfold g__law_cell_at c__law_cell_at
  exact (fss_cons (fs_if (ft_cmp (op_gLt hu) (fb_var 1) (fb_of (fe_callB call_gLen rfl B.len bt_len (fab_cons (fb_var 0) fab_nil))) (nomark _))
    (fss_one (fs_ret (fe_ix ix_g (fb_var 0) (fb_var 1) (fun _ _ => rfl))))
    fss_nil)
    (fss_one (fs_ret fe_int)))
theorem ok__law_divisor {P : Program} {w : World} {K : PySem.W.Frag} {mg : Str → Option Value} {base : Heap} {f : Addr} {fd : FuncData} (B : Bt mg) (Fu : Fun K "_law_divisor" "_law_divisor" st_law_divisor f fd)  :
    FnOk P w K mg base (CX1 P w) 1 f fd ["_law_one", "_law_other"] (spF ⟨K, mg⟩ F__law_divisor) :=
  fun_okF Fu sc_law_divisor fun cdv A outer s H E hr => by
  have hu := hr.units
  unfold g__law_divisor c__law_divisor
  exact (fss_cons (fs_while PassesOwn.leaving (ft_cmp (op_gNe hu) (fb_var 1) (fb_of fe_int) (nomark _))
    (fss_one (fs_par (i := 0) (j := 1) rfl sc_law_divisor.nd rfl rfl (by decide) rfl rfl (fae_cons (fe_var 1) (fae_cons (fe_bin op_gMod (fb_var 0) (fb_var 1)) fae_nil)))))
    (fss_one (fs_ret (fe_callB call_gAbs rfl B.abs bt_abs (fab_cons (fb_var 0) fab_nil)))))
theorem ok__law_lowest {P : Program} {w : World} {K : PySem.W.Frag} {mg : Str → Option Value} {base : Heap} {f : Addr} {fd : FuncData} (B : Bt mg) (Fu : Fun K "_law_lowest" "_law_lowest" st_law_lowest f fd) (G_law_divisor : FF P w K mg base 1 "_law_divisor" ["_law_one", "_law_other"] F__law_divisor) :
    FnOk P w K mg base (CX1 P w) 2 f fd ["_law_top", "_law_bottom"] (spF ⟨K, mg⟩ F__law_lowest) :=
  fun_okF Fu sc_law_lowest fun cdv A outer s H E hr => by
  have hu := hr.units
  unfold g__law_lowest c__law_lowest
  exact (fss_cons (fs_set (i := 2) sc_law_lowest.nd rfl (Or.inl rfl) (fe_fn G_law_divisor hr cx_pass (fae_cons (fe_var 0) (fae_cons (fe_var 1) fae_nil))))
    (fss_one (fs_ret (fe_tup (fae_cons (fe_bin op_gDiv (fb_var 0) (fb_var 2)) (fae_cons (fe_bin op_gDiv (fb_var 1) (fb_var 2)) fae_nil))))))
theorem ok__law_times {P : Program} {w : World} {K : PySem.W.Frag} {mg : Str → Option Value} {base : Heap} {f : Addr} {fd : FuncData} (B : Bt mg) (Fu : Fun K "_law_times" "_law_times" st_law_times f fd) (G_law_lowest : FF P w K mg base 2 "_law_lowest" ["_law_top", "_law_bottom"] F__law_lowest) :
    FnOk P w K mg base (CX1 P w) 3 f fd ["_law_one", "_law_other"] (spF ⟨K, mg⟩ F__law_times) :=
  fun_okF Fu sc_law_times fun cdv A outer s H E hr => by
  have hu := hr.units
  unfold g__law_times c__law_times
  exact (fss_one (fs_ret (fe_fn G_law_lowest hr cx_pass (fae_cons (fe_bin op_gMul (fb_of (fe_ix ix_g (fb_var 0) (fb_of fe_int) (fun _ _ => rfl))) (fb_of (fe_ix ix_g (fb_var 1) (fb_of fe_int) (fun _ _ => rfl)))) (fae_cons (fe_bin op_gMul (fb_of (fe_ix ix_g (fb_var 0) (fb_of fe_int) (fun _ _ => rfl))) (fb_of (fe_ix ix_g (fb_var 1) (fb_of fe_int) (fun _ _ => rfl)))) fae_nil)))))
theorem ok__law_plus {P : Program} {w : World} {K : PySem.W.Frag} {mg : Str → Option Value} {base : Heap} {f : Addr} {fd : FuncData} (B : Bt mg) (Fu : Fun K "_law_plus" "_law_plus" st_law_plus f fd) (G_law_lowest : FF P w K mg base 2 "_law_lowest" ["_law_top", "_law_bottom"] F__law_lowest) :
    FnOk P w K mg base (CX1 P w) 3 f fd ["_law_one", "_law_other"] (spF ⟨K, mg⟩ F__law_plus) :=
  fun_okF Fu sc_law_plus fun cdv A outer s H E hr => by
  have hu := hr.units
  unfold g__law_plus c__law_plus
  exact (fss_one (fs_ret (fe_fn G_law_lowest hr cx_pass (fae_cons (fe_bin op_gAdd (fb_of (fe_bin op_gMul (fb_of (fe_ix ix_g (fb_var 0) (fb_of fe_int) (fun _ _ => rfl))) (fb_of (fe_ix ix_g (fb_var 1) (fb_of fe_int) (fun _ _ => rfl))))) (fb_of (fe_bin op_gMul (fb_of (fe_ix ix_g (fb_var 1) (fb_of fe_int) (fun _ _ => rfl))) (fb_of (fe_ix ix_g (fb_var 0) (fb_of fe_int) (fun _ _ => rfl)))))) (fae_cons (fe_bin op_gMul (fb_of (fe_ix ix_g (fb_var 0) (fb_of fe_int) (fun _ _ => rfl))) (fb_of (fe_ix ix_g (fb_var 1) (fb_of fe_int) (fun _ _ => rfl)))) fae_nil)))))
theorem ok__law_name {P : Program} {w : World} {K : PySem.W.Frag} {mg : Str → Option Value} {base : Heap} {f : Addr} {fd : FuncData} (B : Bt mg) (Fu : Fun K "_law_name" "_law_name" st_law_name f fd)  :
    FnOk P w K mg base (CX1 P w) 1 f fd ["_law_cell"] (spF ⟨K, mg⟩ F__law_name) :=
  fun_okF Fu sc_law_name fun cdv A outer s H E hr => by
  have hu := hr.units
  unfold g__law_name c__law_name
  exact (fss_cons (fs_set (i := 1) sc_law_name.nd rfl (Or.inr rfl) fe_str)
    (fss_one (fs_ret (fe_bm PySem.F.plainAttrs_str PySem.F.slot_str_join PySem.F.type_str_join mt_gJoin (fb_of fe_str) (fab_cons (fb_of (fe_new (fn_comp (defScope st_law_name) ["_law_j", "_law_signs", "_law_cell"] ["_law_signs", "_law_cell"] 1 [1, 0] rfl ⟨rfl, by decide +kernel, by decide +kernel, by decide +kernel, by decide +kernel⟩ (.cons rfl (.cons rfl .nil)) (fiw_of (fi_range1 rfl B.range (fab_cons (fb_of (fe_bin op_gAdd (fb_of fe_int) (fb_of (fe_bin op_gMod (fb_var 0) (fb_of fe_int))))) fab_nil))) (fun _ _ _ _ _ _ => (fg_name (i := 0) (show List.Nodup (["_law_j", "_law_signs", "_law_cell"] : List Str) by decide) rfl (Or.inl rfl))) (fun _ _ _ _ _ _ => fifs_nil) (fun _ _ _ _ _ _ => (fe_ix ix_g (fb_var 1) (fb_of (fe_bin op_gMod (fb_of (fe_bin op_gAdd (fb_of (fe_bin op_gDiv (fb_var 2) (fb_of (fe_bin op_gAdd (fb_of (fe_bin op_gMul (fb_var 0) (fb_var 0))) (fb_of fe_int))))) (fb_var 0))) (fb_of fe_int))) (fun _ _ => rfl)))))) fab_nil)))))
theorem ok__law_stake {P : Program} {w : World} {K : PySem.W.Frag} {mg : Str → Option Value} {base : Heap} {f : Addr} {fd : FuncData} (B : Bt mg) (Fu : Fun K "_law_stake" "_law_stake" st_law_stake f fd) (G_law_cell_at : FF P w K mg base 1 "_law_cell_at" ["_law_script", "_law_k"] F__law_cell_at) (G_law_lowest : FF P w K mg base 2 "_law_lowest" ["_law_top", "_law_bottom"] F__law_lowest) :
    FnOk P w K mg base (CX1 P w) 3 f fd ["_law_script", "_law_cell"] (spF ⟨K, mg⟩ F__law_stake) :=
  fun_okF Fu sc_law_stake fun cdv A outer s H E hr => by
  have hu := hr.units
  unfold g__law_stake c__law_stake
  exact (fss_cons (fs_set (i := 2) sc_law_stake.nd rfl (Or.inl rfl) (fe_bin op_gMod (fb_var 1) (fb_of (fe_bin op_gAdd (fb_of fe_int) (fb_of (fe_bin op_gMod (fb_of (fe_fn G_law_cell_at hr cx_pass (fae_cons (fe_var 0) (fae_cons fe_int fae_nil)))) (fb_of fe_int)))))))
    (fss_cons (fs_set (i := 3) sc_law_stake.nd rfl (Or.inl rfl) (fe_bin op_gSub (fb_of (fe_bin op_gMod (fb_of (fe_bin op_gAdd (fb_of (fe_bin op_gAdd (fb_of (fe_fn G_law_cell_at hr cx_pass (fae_cons (fe_var 0) (fae_cons fe_int fae_nil)))) (fb_of (fe_bin op_gMul (fb_of (fe_bin op_gMul (fb_var 2) (fb_var 2))) (fb_of fe_int))))) (fb_of (fe_bin op_gMul (fb_of fe_int) (fb_var 2))))) (fb_of fe_int))) (fb_of fe_int)))
    (fss_one (fs_ret (fe_tup (fae_cons fe_str (fae_cons (fe_fn G_law_lowest hr cx_pass (fae_cons (fe_var 3) (fae_cons (fe_bin op_gAdd (fb_of fe_int) (fb_of (fe_bin op_gMul (fb_of (fe_bin op_gMod (fb_of (fe_fn G_law_cell_at hr cx_pass (fae_cons (fe_var 0) (fae_cons fe_int fae_nil)))) (fb_of fe_int))) (fb_var 2)))) fae_nil))) fae_nil)))))))
theorem ok__law_tree {P : Program} {w : World} {K : PySem.W.Frag} {mg : Str → Option Value} {base : Heap} {f : Addr} {fd : FuncData} (B : Bt mg) (Fu : Fun K "_law_tree" "_law_tree" st_law_tree f fd) (G_law_cell_at : FF P w K mg base 1 "_law_cell_at" ["_law_script", "_law_k"] F__law_cell_at) (G_law_lowest : FF P w K mg base 2 "_law_lowest" ["_law_top", "_law_bottom"] F__law_lowest) (G_law_name : FF P w K mg base 1 "_law_name" ["_law_cell"] F__law_name) (G_law_stake : FF P w K mg base 3 "_law_stake" ["_law_script", "_law_cell"] F__law_stake) (n : Nat) (G_law_tree : FF P w K mg base (3 + n) "_law_tree" ["_law_script", "_law_at", "_law_depth"] (F__law_tree n)) :
    FnOk P w K mg base (CX1 P w) (3 + n + 1) f fd ["_law_script", "_law_at", "_law_depth"] (spF ⟨K, mg⟩ (F__law_tree (n + 1))) :=
  fun_okF Fu sc_law_tree fun cdv A outer s H E hr => by
  have hu := hr.units
  unfold c__law_tree
  exact (fss_cons (fs_set (i := 3) sc_law_tree.nd rfl (Or.inr rfl) (fe_bin op_gAdd (fb_of (fe_bin op_gAdd (fb_of (fe_bin op_gMulZ (fb_of (fe_fn G_law_cell_at hr cx_pass (fae_cons (fe_var 0) (fae_cons (fe_bin op_gAdd (fb_of fe_int) (fb_var 1)) fae_nil)) (hk := by omega))) (fb_of fe_int))) (fb_of (fe_bin op_gMul (fb_of (fe_bin op_gMul (fb_var 1) (fb_var 1))) (fb_of fe_int))))) (fb_of (fe_fn G_law_cell_at hr cx_pass (fae_cons (fe_var 0) (fae_cons fe_int fae_nil)) (hk := by omega)))))
    (fss_cons (fs_set (i := 3) sc_law_tree.nd rfl (Or.inr rfl) (fe_bin op_gMod (fb_var 3) (fb_of fe_int)))
    (fss_cons (fs_if (ft_w (fw_and (ft_cmp (op_gLt hu) (fb_var 2) (fb_of fe_int) (nomark _)) (fw_and1 (ft_w (fw_or (ft_cmp (op_gEq hu) (fb_var 2) (fb_of fe_int) (nomark _)) (fw_or1 (ft_cmp (op_gEq hu) (fb_of (fe_bin op_gMod (fb_var 3) (fb_of fe_int))) (fb_of fe_int) (nomark _))))))))
    (fss_cons (fs_set (i := 4) sc_law_tree.nd rfl (Or.inl rfl) (fe_bin op_gAdd (fb_of fe_int) (fb_of (fe_bin op_gMod (fb_of (fe_bin op_gDiv (fb_var 3) (fb_of fe_int))) (fb_of (fe_bin op_gSub (fb_of fe_int) (fb_var 2)))))))
    (fss_cons (fs_setComp (i := 5) (defScope st_law_tree) ["_law_k", "_law_cell"] ["_law_cell"] 1 [3] sc_law_tree.nd rfl (Or.inl rfl) rfl ⟨rfl, by decide +kernel, by decide +kernel, by decide +kernel, by decide +kernel⟩ (.cons rfl .nil) (fiw_of (fi_range1 rfl B.range (fab_cons (fb_var 4) fab_nil))) (fun _ _ _ _ _ _ => (fg_name (i := 0) (show List.Nodup (["_law_k", "_law_cell"] : List Str) by decide) rfl (Or.inl rfl))) (fun _ _ _ _ _ _ => fifs_nil) (fun _ _ _ _ _ _ => (fe_bin op_gAdd (fb_of fe_int) (fb_of (fe_bin op_gMod (fb_of (fe_bin op_gDiv (fb_var 1) (fb_of (fe_bin op_gAdd (fb_of fe_int) (fb_of (fe_bin op_gMul (fb_of (fe_bin op_gMul (fb_of fe_int) (fb_var 0))) (fb_var 0))))))) (fb_of fe_int))))))
    (fss_cons (fs_own (i := 6) sc_law_tree.nd rfl (Or.inl rfl) (fn_lst fae_nil))
    (fss_cons (fs_for (k := 1000) PassesOwn.leaving rfl (fi_range1 rfl B.range (fab_cons (fb_var 4) fab_nil)) (fg_name (i := 7) sc_law_tree.nd rfl (Or.inl rfl))
    (fss_one (fs_append 6 (fe_tup (fae_cons (fe_fn G_law_lowest hr cx_pass (fae_cons (fe_ix ix_g (fb_var 5) (fb_var 7) (fun _ _ => rfl)) (fae_cons (fe_callB (call_gSum rfl) rfl B.sum bt_sum (fab_cons (fb_var 5) fab_nil)) fae_nil)) (hk := by omega)) (fae_cons (fe_fn G_law_tree hr cx_pass (fae_cons (fe_var 0) (fae_cons (fe_bin op_gAdd (fb_of (fe_bin op_gAdd (fb_of (fe_bin op_gMul (fb_of fe_int) (fb_var 1))) (fb_var 7))) (fb_of fe_int)) (fae_cons (fe_bin op_gAdd (fb_var 2) (fb_of fe_int)) fae_nil))) (hk := by omega)) fae_nil))))))
    (fss_one (fs_ret (fe_tup (fae_cons fe_str (fae_cons (fe_fn G_law_name hr cx_pass (fae_cons (fe_bin op_gDiv (fb_var 3) (fb_of fe_int)) fae_nil) (hk := by omega)) (fae_cons (fe_callTy call_gTuple rfl B.tuple bt_tuple (fab_cons (fb_var 6) fab_nil)) fae_nil))))))))))
    fss_nil)
    (fss_one (fs_ret (fe_fn G_law_stake hr cx_pass (fae_cons (fe_var 0) (fae_cons (fe_bin op_gDiv (fb_var 3) (fb_of fe_int)) fae_nil)) (hk := by omega)))))))
theorem ok__law_ends {P : Program} {w : World} {K : PySem.W.Frag} {mg : Str → Option Value} {base : Heap} {f : Addr} {fd : FuncData} (B : Bt mg) (Fu : Fun K "_law_ends" "_law_ends" st_law_ends f fd) (G_law_times : FF P w K mg base 3 "_law_times" ["_law_one", "_law_other"] F__law_times) (G_law_plus : FF P w K mg base 3 "_law_plus" ["_law_one", "_law_other"] F__law_plus) (n : Nat) (G_law_ends : FIOp P w K mg base (3 + n) "_law_ends" ["_law_game", "_law_share", "_law_found"] 2 (F__law_ends n)) :
    FnOk P w K mg base (CX1 P w) (3 + n + 1) f fd ["_law_game", "_law_share", "_law_found"] (spIOp ⟨K, mg⟩ 2 (F__law_ends (n + 1))) :=
  fun_okIOp 2 Fu sc_law_ends (by decide) fun cdv A outer s H E hr => by
  have hu := hr.units
  unfold c__law_ends
  exact (fss_cons (fs_if (ft_cmp (op_gEq hu) (fb_of (fe_ix ix_g (fb_var 0) (fb_of fe_int) (fun _ _ => rfl))) (fb_of fe_str) (nomark _))
    (fss_cons (fs_uput 2 hr (fe_fn G_law_plus hr cx_pass (fae_cons (fe_uget2 hr (fb_var 2) (fb_var 0) (fe_tup (fae_cons fe_int (fae_cons fe_int fae_nil))) ⟨rfl, rfl, rfl, rfl⟩) (fae_cons (fe_var 1) fae_nil)) (hk := by omega)) (fe_var 0))
    (fss_one fs_ret0))
    fss_nil)
    (fss_one (fs_for (k := 1000) PassesOwn.leaving rfl (fi_tup (fe_ix ix_g (fb_var 0) (fb_of fe_int) (fun _ _ => rfl))) (fg_tup rfl (fgs_cons (fg_name (i := 3) sc_law_ends.nd rfl (Or.inl rfl)) (fgs_cons (fg_name (i := 4) sc_law_ends.nd rfl (Or.inl rfl)) fgs_nil)))
    (fss_one (fs_exprX (fx_iop 2 G_law_ends hr cx_pass (fah_cons (fe_var 4) (fah_cons (fe_fn G_law_times hr cx_pass (fae_cons (fe_var 1) (fae_cons (fe_var 3) fae_nil)) (hk := by omega)) (fah_here (i := 2) fae_nil))) (hk := by omega)))))))
theorem ok__law_alike {P : Program} {w : World} {K : PySem.W.Frag} {mg : Str → Option Value} {base : Heap} {f : Addr} {fd : FuncData} (B : Bt mg) (Fu : Fun K "_law_alike" "_law_alike" st_law_alike f fd)  (n : Nat) (G_law_alike : FF P w K mg base (0 + n) "_law_alike" ["_law_found", "_law_due"] (F__law_alike n)) :
    FnOk P w K mg base (CX1 P w) (0 + n + 1) f fd ["_law_found", "_law_due"] (spF ⟨K, mg⟩ (F__law_alike (n + 1))) :=
  fun_okF Fu sc_law_alike fun cdv A outer s H E hr => by
  have hu := hr.units
  unfold c__law_alike
  exact (fss_cons (fs_if (ft_val (fe_isi (x := "") (fb_var 1) rfl B.isinstance bt_isinstance rfl B.tuple bt_tuple))
    (fss_cons (fs_if (ft_w (fw_or (ft_not (ft_val (fe_isi (x := "") (fb_var 0) rfl B.isinstance bt_isinstance rfl B.tuple bt_tuple))) (fw_or1 (ft_cmp (op_gNe hu) (fb_of (fe_callB call_gLen rfl B.len bt_len (fab_cons (fb_var 0) fab_nil))) (fb_of (fe_callB call_gLen rfl B.len bt_len (fab_cons (fb_var 1) fab_nil))) (nomark _)))))
    (fss_one (fs_ret fe_bl))
    fss_nil)
    (fss_one (fs_ret (fe_callB (call_gAll rfl) rfl B.all bt_all (fab_cons (fb_of (fe_new (fn_comp (defScope st_law_alike) ["_law_k", "_law_found", "_law_due"] ["_law_found", "_law_due"] 1 [0, 1] rfl ⟨rfl, by decide +kernel, by decide +kernel, by decide +kernel, by decide +kernel⟩ (.cons rfl (.cons rfl .nil)) (fiw_of (fi_range1 rfl B.range (fab_cons (fb_of (fe_callB call_gLen rfl B.len bt_len (fab_cons (fb_var 1) fab_nil))) fab_nil))) (fun _ _ _ _ _ _ => (fg_name (i := 0) (show List.Nodup (["_law_k", "_law_found", "_law_due"] : List Str) by decide) rfl (Or.inl rfl))) (fun _ _ _ _ _ _ => fifs_nil) (fun _ _ _ _ _ _ => (fe_fn G_law_alike hr pass1 (fae_cons (fe_ix ix_g (fb_var 1) (fb_var 0) (fun _ _ => rfl)) (fae_cons (fe_ix ix_g (fb_var 2) (fb_var 0) (fun _ _ => rfl)) fae_nil)) (hk := by omega)))))) fab_nil)))))
    fss_nil)
    (fss_cons (fs_if (ft_val (fe_isi (x := "") (fb_var 1) rfl B.isinstance bt_isinstance rfl B.str bt_str))
    (fss_one (fs_ret (fe_and (fe_isi (x := "") (fb_var 0) rfl B.isinstance bt_isinstance rfl B.str bt_str) (fe_one (fe_cmp (op_gEq hu) (fb_var 0) (fb_var 1) (nomark _))))))
    fss_nil)
    (fss_one (fs_ret (fe_and (fe_isi (x := "") (fb_var 0) rfl B.isinstance bt_isinstance rfl B.int bt_int) (fe_and (fe_not (fe_isi (x := "") (fb_var 0) rfl B.isinstance bt_isinstance rfl B.bool bt_bool)) (fe_one (fe_cmp (op_gEq hu) (fb_var 0) (fb_var 1) (nomark _)))))))))
theorem ok_law {P : Program} {w : World} {K : PySem.W.Frag} {mg : Str → Option Value} {base : Heap} {f : Addr} {fd : FuncData} (B : Bt mg) (Fu : Fun K "law" "law" stlaw f fd) (Gfolded : FF P w K mg base 17 "folded" ["game"] (F_folded 12)) (G_law_tree : FF P w K mg base 11 "_law_tree" ["_law_script", "_law_at", "_law_depth"] (F__law_tree 8)) (G_law_ends : FIOp P w K mg base 11 "_law_ends" ["_law_game", "_law_share", "_law_found"] 2 (F__law_ends 8)) (G_law_alike : FF P w K mg base 30 "_law_alike" ["_law_found", "_law_due"] (F__law_alike 30)) :
    FnOk P w K mg base (CX1 P w) 31 f fd ["_law_script"] (spF ⟨K, mg⟩ F_law) :=
  fun_okF Fu sclaw fun cdv A outer s H E hr => by
  have hu := hr.units
  unfold g_law c_law
  exact (fss_cons (fs_set (i := 1) sclaw.nd rfl (Or.inl rfl) (fe_fn G_law_tree hr cx_pass (fae_cons (fe_var 0) (fae_cons fe_int (fae_cons fe_int fae_nil)))))
    (fss_cons (fs_own (i := 2) sclaw.nd rfl (Or.inr rfl) fn_unew)
    (fss_cons (fs_exprX (fx_iop 2 G_law_ends hr cx_pass (fah_cons (fe_var 1) (fah_cons (fe_tup (fae_cons fe_int (fae_cons fe_int fae_nil))) (fah_here (i := 2) fae_nil)))))
    (fss_frz 2 (fss_cons (fs_set (i := 3) sclaw.nd rfl (Or.inl rfl) (fe_ix ix_g (fb_of (fe_new (fn_lkeys rfl rfl B.list (fe_var 2)))) (fb_of fe_int) (fun _ _ => rfl)))
    (fss_cons (fs_if (ft_cmp op_gGt (fb_of (fe_callB call_gLenU rfl B.len bt_len (fab_cons (fb_var 2) fab_nil))) (fb_of fe_int) (nomark _))
    (fss_one (fs_set (i := 3) sclaw.nd rfl (Or.inl rfl) (fe_tup (fae_cons fe_str (fae_cons (fe_ix ix_g (fb_var 1) (fb_of fe_int) (fun _ _ => rfl)) (fae_cons (fe_callTy call_gTuple rfl B.tuple bt_tuple (fab_cons (fb_of (fe_new (fn_comp (defScope stlaw) ["_law_end", "_law_ends_here"] ["_law_ends_here"] 1 [2] rfl ⟨rfl, by decide +kernel, by decide +kernel, by decide +kernel, by decide +kernel⟩ (.cons rfl .nil) (fiw_of (fi_keys (fe_var 2))) (fun _ _ _ _ _ _ => (fg_name (i := 0) (show List.Nodup (["_law_end", "_law_ends_here"] : List Str) by decide) rfl (Or.inl rfl))) (fun _ _ _ _ _ _ => fifs_nil) (fun _ _ _ _ _ _ => (fe_tup (fae_cons (fe_uget hr (fb_var 1) (fb_var 0) (fun _ _ => rfl)) (fae_cons (fe_var 0) fae_nil))))))) fab_nil)) fae_nil))))))
    fss_nil)
    (fss_cons (fs_if (ft_w (fw_or (ft_not (ft_val (fe_fn G_law_alike hr cx_pass (fae_cons (fe_fn Gfolded hr cx_pass (fae_cons (fe_var 1) fae_nil)) (fae_cons (fe_var 3) fae_nil))))) (fw_or1 (ft_not (ft_val (fe_fn G_law_alike hr cx_pass (fae_cons (fe_fn Gfolded hr cx_pass (fae_cons (fe_var 3) fae_nil)) (fae_cons (fe_var 3) fae_nil))))))))
    (fss_one (fs_ret fe_bl))
    fss_nil)
    (fss_one (fs_ret (fe_callB (call_gAll rfl) rfl B.all bt_all (fab_cons (fb_of (fe_new (fn_comp (defScope stlaw) ["_law_end"] [] 1 [] rfl ⟨rfl, by decide +kernel, by decide +kernel, by decide +kernel, by decide +kernel⟩ .nil (fiw_of (fi_keys (fe_var 2))) (fun _ _ _ _ _ _ => (fg_name (i := 0) (show List.Nodup (["_law_end"] : List Str) by decide) rfl (Or.inl rfl))) (fun _ _ _ _ _ _ => fifs_nil) (fun _ _ _ _ _ _ => (fe_fn G_law_alike hr pass1 (fae_cons (fe_fn Gfolded hr pass1 (fae_cons (fe_var 0) fae_nil)) (fae_cons (fe_var 0) fae_nil))))))) fab_nil)))))))))))
end K47

set_option Elab.async false
set_option linter.all false
set_option maxRecDepth 100000
set_option maxHeartbeats 4000000
namespace K47
open PySem L2 Hd F Pk
theorem df_mk {K : PySem.W.Frag} {mg : Str → Option Value} {x : Str} {st : Stmt} {ps : List Str} {f : Addr} {oc : Value} {od an : Option Addr} {osl : Array (Option Value)} {kV doc pm cdv ct : Value} (l : K.lookup f = some ⟨oc, od, .func (PySem.W.fnOf x x (defArgs st) (defBody st) (defScope st) .none kV doc pm an cdv ct), osl⟩)
    (c : PySem.W.codeIn K cdv x = true) (k : PySem.W.keepIn K (.ref f) = true) (m : mg x = some (.ref f)) (hb : ∀ (kV doc pm : Value) (an : Option Addr) (cdv ct : Value) (us : List Value), us.length = ps.length → bindArgs (PySem.W.fnOf x x (defArgs st) (defBody st) (defScope st) .none kV doc pm an cdv ct) ⟨us, []⟩ = pure (ps.zip us)) : Df K mg x st ps :=
  let F := fun_mk (st := st) l c k
  ⟨f, _, F, F.binds hb, m⟩
theorem all_mk {l : PySem.W.OpenLaw} {w : World} {K : PySem.W.Frag} {h : Heap} {mg : Str → Option Value} {fa f0 f1 f2 f3 f4 f5 f6 f7 f8 f9 f10 f11 f12 f13 f14 f15 f16 f17 f18 f19 : Addr} (X : K.In h) (G : h.Ns mainGlobals mg) (hfa : mg "law" = some (.ref fa))
    {od0 an0 : Option Addr} {sl0 : Array (Option Value)} {oc0 kV0 dc0 pm0 cd0 ct0 : Value}
    (a0 : PySem.W.nsIn K mainGlobals "common_divisor" = some (some (.ref f0))) (l0 : K.lookup f0 = some ⟨oc0, od0, .func (PySem.W.fnOf "common_divisor" "common_divisor" (defArgs stcommon_divisor) (defBody stcommon_divisor) (defScope stcommon_divisor) .none kV0 dc0 pm0 an0 cd0 ct0), sl0⟩) (c0 : PySem.W.codeIn K cd0 "common_divisor" = true) (k0 : PySem.W.keepIn K (.ref f0) = true)
    {od1 an1 : Option Addr} {sl1 : Array (Option Value)} {oc1 kV1 dc1 pm1 cd1 ct1 : Value}
    (a1 : PySem.W.nsIn K mainGlobals "lowest" = some (some (.ref f1))) (l1 : K.lookup f1 = some ⟨oc1, od1, .func (PySem.W.fnOf "lowest" "lowest" (defArgs stlowest) (defBody stlowest) (defScope stlowest) .none kV1 dc1 pm1 an1 cd1 ct1), sl1⟩) (c1 : PySem.W.codeIn K cd1 "lowest" = true) (k1 : PySem.W.keepIn K (.ref f1) = true)
    {od2 an2 : Option Addr} {sl2 : Array (Option Value)} {oc2 kV2 dc2 pm2 cd2 ct2 : Value}
    (a2 : PySem.W.nsIn K mainGlobals "plus" = some (some (.ref f2))) (l2 : K.lookup f2 = some ⟨oc2, od2, .func (PySem.W.fnOf "plus" "plus" (defArgs stplus) (defBody stplus) (defScope stplus) .none kV2 dc2 pm2 an2 cd2 ct2), sl2⟩) (c2 : PySem.W.codeIn K cd2 "plus" = true) (k2 : PySem.W.keepIn K (.ref f2) = true)
    {od3 an3 : Option Addr} {sl3 : Array (Option Value)} {oc3 kV3 dc3 pm3 cd3 ct3 : Value}
    (a3 : PySem.W.nsIn K mainGlobals "times" = some (some (.ref f3))) (l3 : K.lookup f3 = some ⟨oc3, od3, .func (PySem.W.fnOf "times" "times" (defArgs sttimes) (defBody sttimes) (defScope sttimes) .none kV3 dc3 pm3 an3 cd3 ct3), sl3⟩) (c3 : PySem.W.codeIn K cd3 "times" = true) (k3 : PySem.W.keepIn K (.ref f3) = true)
    {od4 an4 : Option Addr} {sl4 : Array (Option Value)} {oc4 kV4 dc4 pm4 cd4 ct4 : Value}
    (a4 : PySem.W.nsIn K mainGlobals "with_ways" = some (some (.ref f4))) (l4 : K.lookup f4 = some ⟨oc4, od4, .func (PySem.W.fnOf "with_ways" "with_ways" (defArgs stwith_ways) (defBody stwith_ways) (defScope stwith_ways) .none kV4 dc4 pm4 an4 cd4 ct4), sl4⟩) (c4 : PySem.W.codeIn K cd4 "with_ways" = true) (k4 : PySem.W.keepIn K (.ref f4) = true)
    {od5 an5 : Option Addr} {sl5 : Array (Option Value)} {oc5 kV5 dc5 pm5 cd5 ct5 : Value}
    (a5 : PySem.W.nsIn K mainGlobals "opened_out" = some (some (.ref f5))) (l5 : K.lookup f5 = some ⟨oc5, od5, .func (PySem.W.fnOf "opened_out" "opened_out" (defArgs stopened_out) (defBody stopened_out) (defScope stopened_out) .none kV5 dc5 pm5 an5 cd5 ct5), sl5⟩) (c5 : PySem.W.codeIn K cd5 "opened_out" = true) (k5 : PySem.W.keepIn K (.ref f5) = true)
    {od6 an6 : Option Addr} {sl6 : Array (Option Value)} {oc6 kV6 dc6 pm6 cd6 ct6 : Value}
    (a6 : PySem.W.nsIn K mainGlobals "put_together" = some (some (.ref f6))) (l6 : K.lookup f6 = some ⟨oc6, od6, .func (PySem.W.fnOf "put_together" "put_together" (defArgs stput_together) (defBody stput_together) (defScope stput_together) .none kV6 dc6 pm6 an6 cd6 ct6), sl6⟩) (c6 : PySem.W.codeIn K cd6 "put_together" = true) (k6 : PySem.W.keepIn K (.ref f6) = true)
    {od7 an7 : Option Addr} {sl7 : Array (Option Value)} {oc7 kV7 dc7 pm7 cd7 ct7 : Value}
    (a7 : PySem.W.nsIn K mainGlobals "folded_deal" = some (some (.ref f7))) (l7 : K.lookup f7 = some ⟨oc7, od7, .func (PySem.W.fnOf "folded_deal" "folded_deal" (defArgs stfolded_deal) (defBody stfolded_deal) (defScope stfolded_deal) .none kV7 dc7 pm7 an7 cd7 ct7), sl7⟩) (c7 : PySem.W.codeIn K cd7 "folded_deal" = true) (k7 : PySem.W.keepIn K (.ref f7) = true)
    {od8 an8 : Option Addr} {sl8 : Array (Option Value)} {oc8 kV8 dc8 pm8 cd8 ct8 : Value}
    (a8 : PySem.W.nsIn K mainGlobals "folded" = some (some (.ref f8))) (l8 : K.lookup f8 = some ⟨oc8, od8, .func (PySem.W.fnOf "folded" "folded" (defArgs stfolded) (defBody stfolded) (defScope stfolded) .none kV8 dc8 pm8 an8 cd8 ct8), sl8⟩) (c8 : PySem.W.codeIn K cd8 "folded" = true) (k8 : PySem.W.keepIn K (.ref f8) = true)
    {od9 an9 : Option Addr} {sl9 : Array (Option Value)} {oc9 kV9 dc9 pm9 cd9 ct9 : Value}
    (a9 : PySem.W.nsIn K mainGlobals "_law_cell_at" = some (some (.ref f9))) (l9 : K.lookup f9 = some ⟨oc9, od9, .func (PySem.W.fnOf "_law_cell_at" "_law_cell_at" (defArgs st_law_cell_at) (defBody st_law_cell_at) (defScope st_law_cell_at) .none kV9 dc9 pm9 an9 cd9 ct9), sl9⟩) (c9 : PySem.W.codeIn K cd9 "_law_cell_at" = true) (k9 : PySem.W.keepIn K (.ref f9) = true)
    {od10 an10 : Option Addr} {sl10 : Array (Option Value)} {oc10 kV10 dc10 pm10 cd10 ct10 : Value}
    (a10 : PySem.W.nsIn K mainGlobals "_law_divisor" = some (some (.ref f10))) (l10 : K.lookup f10 = some ⟨oc10, od10, .func (PySem.W.fnOf "_law_divisor" "_law_divisor" (defArgs st_law_divisor) (defBody st_law_divisor) (defScope st_law_divisor) .none kV10 dc10 pm10 an10 cd10 ct10), sl10⟩) (c10 : PySem.W.codeIn K cd10 "_law_divisor" = true) (k10 : PySem.W.keepIn K (.ref f10) = true)
    {od11 an11 : Option Addr} {sl11 : Array (Option Value)} {oc11 kV11 dc11 pm11 cd11 ct11 : Value}
    (a11 : PySem.W.nsIn K mainGlobals "_law_lowest" = some (some (.ref f11))) (l11 : K.lookup f11 = some ⟨oc11, od11, .func (PySem.W.fnOf "_law_lowest" "_law_lowest" (defArgs st_law_lowest) (defBody st_law_lowest) (defScope st_law_lowest) .none kV11 dc11 pm11 an11 cd11 ct11), sl11⟩) (c11 : PySem.W.codeIn K cd11 "_law_lowest" = true) (k11 : PySem.W.keepIn K (.ref f11) = true)
    {od12 an12 : Option Addr} {sl12 : Array (Option Value)} {oc12 kV12 dc12 pm12 cd12 ct12 : Value}
    (a12 : PySem.W.nsIn K mainGlobals "_law_times" = some (some (.ref f12))) (l12 : K.lookup f12 = some ⟨oc12, od12, .func (PySem.W.fnOf "_law_times" "_law_times" (defArgs st_law_times) (defBody st_law_times) (defScope st_law_times) .none kV12 dc12 pm12 an12 cd12 ct12), sl12⟩) (c12 : PySem.W.codeIn K cd12 "_law_times" = true) (k12 : PySem.W.keepIn K (.ref f12) = true)
    {od13 an13 : Option Addr} {sl13 : Array (Option Value)} {oc13 kV13 dc13 pm13 cd13 ct13 : Value}
    (a13 : PySem.W.nsIn K mainGlobals "_law_plus" = some (some (.ref f13))) (l13 : K.lookup f13 = some ⟨oc13, od13, .func (PySem.W.fnOf "_law_plus" "_law_plus" (defArgs st_law_plus) (defBody st_law_plus) (defScope st_law_plus) .none kV13 dc13 pm13 an13 cd13 ct13), sl13⟩) (c13 : PySem.W.codeIn K cd13 "_law_plus" = true) (k13 : PySem.W.keepIn K (.ref f13) = true)
    {od14 an14 : Option Addr} {sl14 : Array (Option Value)} {oc14 kV14 dc14 pm14 cd14 ct14 : Value}
    (a14 : PySem.W.nsIn K mainGlobals "_law_name" = some (some (.ref f14))) (l14 : K.lookup f14 = some ⟨oc14, od14, .func (PySem.W.fnOf "_law_name" "_law_name" (defArgs st_law_name) (defBody st_law_name) (defScope st_law_name) .none kV14 dc14 pm14 an14 cd14 ct14), sl14⟩) (c14 : PySem.W.codeIn K cd14 "_law_name" = true) (k14 : PySem.W.keepIn K (.ref f14) = true)
    {od15 an15 : Option Addr} {sl15 : Array (Option Value)} {oc15 kV15 dc15 pm15 cd15 ct15 : Value}
    (a15 : PySem.W.nsIn K mainGlobals "_law_stake" = some (some (.ref f15))) (l15 : K.lookup f15 = some ⟨oc15, od15, .func (PySem.W.fnOf "_law_stake" "_law_stake" (defArgs st_law_stake) (defBody st_law_stake) (defScope st_law_stake) .none kV15 dc15 pm15 an15 cd15 ct15), sl15⟩) (c15 : PySem.W.codeIn K cd15 "_law_stake" = true) (k15 : PySem.W.keepIn K (.ref f15) = true)
    {od16 an16 : Option Addr} {sl16 : Array (Option Value)} {oc16 kV16 dc16 pm16 cd16 ct16 : Value}
    (a16 : PySem.W.nsIn K mainGlobals "_law_tree" = some (some (.ref f16))) (l16 : K.lookup f16 = some ⟨oc16, od16, .func (PySem.W.fnOf "_law_tree" "_law_tree" (defArgs st_law_tree) (defBody st_law_tree) (defScope st_law_tree) .none kV16 dc16 pm16 an16 cd16 ct16), sl16⟩) (c16 : PySem.W.codeIn K cd16 "_law_tree" = true) (k16 : PySem.W.keepIn K (.ref f16) = true)
    {od17 an17 : Option Addr} {sl17 : Array (Option Value)} {oc17 kV17 dc17 pm17 cd17 ct17 : Value}
    (a17 : PySem.W.nsIn K mainGlobals "_law_ends" = some (some (.ref f17))) (l17 : K.lookup f17 = some ⟨oc17, od17, .func (PySem.W.fnOf "_law_ends" "_law_ends" (defArgs st_law_ends) (defBody st_law_ends) (defScope st_law_ends) .none kV17 dc17 pm17 an17 cd17 ct17), sl17⟩) (c17 : PySem.W.codeIn K cd17 "_law_ends" = true) (k17 : PySem.W.keepIn K (.ref f17) = true)
    {od18 an18 : Option Addr} {sl18 : Array (Option Value)} {oc18 kV18 dc18 pm18 cd18 ct18 : Value}
    (a18 : PySem.W.nsIn K mainGlobals "_law_alike" = some (some (.ref f18))) (l18 : K.lookup f18 = some ⟨oc18, od18, .func (PySem.W.fnOf "_law_alike" "_law_alike" (defArgs st_law_alike) (defBody st_law_alike) (defScope st_law_alike) .none kV18 dc18 pm18 an18 cd18 ct18), sl18⟩) (c18 : PySem.W.codeIn K cd18 "_law_alike" = true) (k18 : PySem.W.keepIn K (.ref f18) = true)
    {od19 an19 : Option Addr} {sl19 : Array (Option Value)} {oc19 kV19 dc19 pm19 cd19 ct19 : Value}
    (a19 : PySem.W.nsIn K mainGlobals "law" = some (some (.ref f19))) (l19 : K.lookup f19 = some ⟨oc19, od19, .func (PySem.W.fnOf "law" "law" (defArgs stlaw) (defBody stlaw) (defScope stlaw) .none kV19 dc19 pm19 an19 cd19 ct19), sl19⟩) (c19 : PySem.W.codeIn K cd19 "law" = true) (k19 : PySem.W.keepIn K (.ref f19) = true)
    (zabs : PySem.W.nsIn K mainGlobals "abs" = some none)
    (zall : PySem.W.nsIn K mainGlobals "all" = some none)
    (zbool : PySem.W.nsIn K mainGlobals "bool" = some none)
    (zint : PySem.W.nsIn K mainGlobals "int" = some none)
    (zisinstance : PySem.W.nsIn K mainGlobals "isinstance" = some none)
    (zlen : PySem.W.nsIn K mainGlobals "len" = some none)
    (zlist : PySem.W.nsIn K mainGlobals "list" = some none)
    (zrange : PySem.W.nsIn K mainGlobals "range" = some none)
    (zstr : PySem.W.nsIn K mainGlobals "str" = some none)
    (zsum : PySem.W.nsIn K mainGlobals "sum" = some none)
    (ztuple : PySem.W.nsIn K mainGlobals "tuple" = some none)
    {CNOUGHT : Addr} (nNOUGHT : PySem.W.nsIn K mainGlobals "NOUGHT" = some (some (.ref CNOUGHT)))
    {odNOUGHT : Option Addr} {nnNOUGHT : Nat} {slNOUGHT : Array (Option Value)} {tNOUGHT0 tNOUGHT1 : Tok} (vNOUGHT : K.lookup CNOUGHT = some ⟨.type "tuple", odNOUGHT, .seq #[.int 0 tNOUGHT0, .int 1 tNOUGHT1] nnNOUGHT, slNOUGHT⟩)
    : ∃ fd : FuncData, (∀ (s : Shared) (v : Value), BindsTo s fd ⟨[v], []⟩ [("_law_script", v)]) ∧ ∀ base : Heap, K.In base → base.Ns mainGlobals mg → FnOk l.prog w K mg base (CX1 l.prog w) 31 fa fd ["_law_script"] (spLaw K) := by
  have e := hfa.symm.trans (PySem.W.mg_of X G a19)
  cases e
  have D0 : Df K mg "common_divisor" stcommon_divisor ["first", "second"] := df_mk l0 c0 k0 (PySem.W.mg_of X G a0) fun _ _ _ _ _ _ us hl => match us, hl with | [_, _], _ => rfl
  have D1 : Df K mg "lowest" stlowest ["top", "bottom"] := df_mk l1 c1 k1 (PySem.W.mg_of X G a1) fun _ _ _ _ _ _ us hl => match us, hl with | [_, _], _ => rfl
  have D2 : Df K mg "plus" stplus ["first", "second"] := df_mk l2 c2 k2 (PySem.W.mg_of X G a2) fun _ _ _ _ _ _ us hl => match us, hl with | [_, _], _ => rfl
  have D3 : Df K mg "times" sttimes ["first", "second"] := df_mk l3 c3 k3 (PySem.W.mg_of X G a3) fun _ _ _ _ _ _ us hl => match us, hl with | [_, _], _ => rfl
  have D4 : Df K mg "with_ways" stwith_ways ["game", "ways"] := df_mk l4 c4 k4 (PySem.W.mg_of X G a4) fun _ _ _ _ _ _ us hl => match us, hl with | [_, _], _ => rfl
  have D5 : Df K mg "opened_out" stopened_out ["share", "branch"] := df_mk l5 c5 k5 (PySem.W.mg_of X G a5) fun _ _ _ _ _ _ us hl => match us, hl with | [_, _], _ => rfl
  have D6 : Df K mg "put_together" stput_together ["ways"] := df_mk l6 c6 k6 (PySem.W.mg_of X G a6) fun _ _ _ _ _ _ us hl => match us, hl with | [_], _ => rfl
  have D7 : Df K mg "folded_deal" stfolded_deal ["deal"] := df_mk l7 c7 k7 (PySem.W.mg_of X G a7) fun _ _ _ _ _ _ us hl => match us, hl with | [_], _ => rfl
  have D8 : Df K mg "folded" stfolded ["game"] := df_mk l8 c8 k8 (PySem.W.mg_of X G a8) fun _ _ _ _ _ _ us hl => match us, hl with | [_], _ => rfl
  have D9 : Df K mg "_law_cell_at" st_law_cell_at ["_law_script", "_law_k"] := df_mk l9 c9 k9 (PySem.W.mg_of X G a9) fun _ _ _ _ _ _ us hl => match us, hl with | [_, _], _ => rfl
  have D10 : Df K mg "_law_divisor" st_law_divisor ["_law_one", "_law_other"] := df_mk l10 c10 k10 (PySem.W.mg_of X G a10) fun _ _ _ _ _ _ us hl => match us, hl with | [_, _], _ => rfl
  have D11 : Df K mg "_law_lowest" st_law_lowest ["_law_top", "_law_bottom"] := df_mk l11 c11 k11 (PySem.W.mg_of X G a11) fun _ _ _ _ _ _ us hl => match us, hl with | [_, _], _ => rfl
  have D12 : Df K mg "_law_times" st_law_times ["_law_one", "_law_other"] := df_mk l12 c12 k12 (PySem.W.mg_of X G a12) fun _ _ _ _ _ _ us hl => match us, hl with | [_, _], _ => rfl
  have D13 : Df K mg "_law_plus" st_law_plus ["_law_one", "_law_other"] := df_mk l13 c13 k13 (PySem.W.mg_of X G a13) fun _ _ _ _ _ _ us hl => match us, hl with | [_, _], _ => rfl
  have D14 : Df K mg "_law_name" st_law_name ["_law_cell"] := df_mk l14 c14 k14 (PySem.W.mg_of X G a14) fun _ _ _ _ _ _ us hl => match us, hl with | [_], _ => rfl
  have D15 : Df K mg "_law_stake" st_law_stake ["_law_script", "_law_cell"] := df_mk l15 c15 k15 (PySem.W.mg_of X G a15) fun _ _ _ _ _ _ us hl => match us, hl with | [_, _], _ => rfl
  have D16 : Df K mg "_law_tree" st_law_tree ["_law_script", "_law_at", "_law_depth"] := df_mk l16 c16 k16 (PySem.W.mg_of X G a16) fun _ _ _ _ _ _ us hl => match us, hl with | [_, _, _], _ => rfl
  have D17 : Df K mg "_law_ends" st_law_ends ["_law_game", "_law_share", "_law_found"] := df_mk l17 c17 k17 (PySem.W.mg_of X G a17) fun _ _ _ _ _ _ us hl => match us, hl with | [_, _, _], _ => rfl
  have D18 : Df K mg "_law_alike" st_law_alike ["_law_found", "_law_due"] := df_mk l18 c18 k18 (PySem.W.mg_of X G a18) fun _ _ _ _ _ _ us hl => match us, hl with | [_, _], _ => rfl
  have B : Bt mg := ⟨PySem.W.mg_none_of X G zabs, PySem.W.mg_none_of X G zall, PySem.W.mg_none_of X G zbool, PySem.W.mg_none_of X G zint, PySem.W.mg_none_of X G zisinstance, PySem.W.mg_none_of X G zlen, PySem.W.mg_none_of X G zlist, PySem.W.mg_none_of X G zrange, PySem.W.mg_none_of X G zstr, PySem.W.mg_none_of X G zsum, PySem.W.mg_none_of X G ztuple⟩
  have Cn : CnT K mg := ⟨⟨.ref CNOUGHT, _, PySem.W.mg_of X G nNOUGHT, rfl, fun _ _ => .tup (xs := [.int 0, .int 1]) (.inr ⟨_, _, _, vNOUGHT, rfl, rfl, (show 2 ≤ sizeLine by decide), (.cons ⟨tNOUGHT0, rfl⟩ (.cons ⟨tNOUGHT1, rfl⟩ .nil))⟩) (.cons (.int 0) (.cons (.int 1) .nil))⟩⟩
  refine ⟨PySem.W.fnOf "law" "law" (defArgs stlaw) (defBody stlaw) (defScope stlaw) .none kV19 dc19 pm19 an19 cd19 ct19, fun s v => .of_eq rfl, fun base kb nb => ?_⟩
  have Gcommon_divisor := D0.fn (P := l.prog) (w := w) (base := base) fun f fd F => ok_common_divisor B F 
  have Glowest := D1.fn (P := l.prog) (w := w) (base := base) fun f fd F => ok_lowest B F Gcommon_divisor
  have Gplus := D2.fn (P := l.prog) (w := w) (base := base) fun f fd F => ok_plus B F Glowest
  have Gtimes := D3.fn (P := l.prog) (w := w) (base := base) fun f fd F => ok_times B F Glowest
  have Gwith_ways := D4.fn (P := l.prog) (w := w) (base := base) fun f fd F => ok_with_ways B F 
  have Gopened_out := D5.fn (P := l.prog) (w := w) (base := base) fun f fd F => ok_opened_out B F Gtimes
  have Gput_together := D6.fn (P := l.prog) (w := w) (base := base) fun f fd F => ok_put_together B Cn F Gplus
  have Gfolded_deal := D7.fn (P := l.prog) (w := w) (base := base) fun f fd F => ok_folded_deal B F Gwith_ways Gopened_out Gput_together
  have Gfolded : ∀ n : Nat, FF l.prog w K mg base (5 + n) "folded" ["game"] (F_folded n) := by
    intro n
    induction n with
    | zero => exact D8.fn fun f fd F => no_fn
    | succ n ih => exact D8.fn fun f fd F => ok_folded B F Gwith_ways Gfolded_deal n ih
  have G_law_cell_at := D9.fn (P := l.prog) (w := w) (base := base) fun f fd F => ok__law_cell_at B F 
  have G_law_divisor := D10.fn (P := l.prog) (w := w) (base := base) fun f fd F => ok__law_divisor B F 
  have G_law_lowest := D11.fn (P := l.prog) (w := w) (base := base) fun f fd F => ok__law_lowest B F G_law_divisor
  have G_law_times := D12.fn (P := l.prog) (w := w) (base := base) fun f fd F => ok__law_times B F G_law_lowest
  have G_law_plus := D13.fn (P := l.prog) (w := w) (base := base) fun f fd F => ok__law_plus B F G_law_lowest
  have G_law_name := D14.fn (P := l.prog) (w := w) (base := base) fun f fd F => ok__law_name B F 
  have G_law_stake := D15.fn (P := l.prog) (w := w) (base := base) fun f fd F => ok__law_stake B F G_law_cell_at G_law_lowest
  have G_law_tree : ∀ n : Nat, FF l.prog w K mg base (3 + n) "_law_tree" ["_law_script", "_law_at", "_law_depth"] (F__law_tree n) := by
    intro n
    induction n with
    | zero => exact D16.fn fun f fd F => no_fn
    | succ n ih => exact D16.fn fun f fd F => ok__law_tree B F G_law_cell_at G_law_lowest G_law_name G_law_stake n ih
  have G_law_ends : ∀ n : Nat, FIOp l.prog w K mg base (3 + n) "_law_ends" ["_law_game", "_law_share", "_law_found"] 2 (F__law_ends n) := by
    intro n
    induction n with
    | zero => exact D17.fn fun f fd F => no_iop
    | succ n ih => exact D17.fn fun f fd F => ok__law_ends B F G_law_times G_law_plus n ih
  have G_law_alike : ∀ n : Nat, FF l.prog w K mg base (0 + n) "_law_alike" ["_law_found", "_law_due"] (F__law_alike n) := by
    intro n
    induction n with
    | zero => exact D18.fn fun f fd F => no_fn
    | succ n ih => exact D18.fn fun f fd F => ok__law_alike B F  n ih
  have F := fun_mk (st := stlaw) l19 c19 k19
  exact law_imp law_true (ok_law B F (Gfolded 12) (G_law_tree 8) (G_law_ends 8) (G_law_alike 30))
theorem walk {l : PySem.W.OpenLaw} {q : Program} {loose : List Str} {XP : (Str → Option Value) → Heap → Prop} {YP : World → Heap → Prop} {d : DefRec} {K : Params → PySem.W.Frag} (hn : l.most = some 63) (hdf : d.params.defaults = [])
    (hY : ∀ (w : World) (h : Heap), YP w h → (K w.params).In h)
    (F : ∀ (w : World) (mg : Str → Option Value) (fa : Addr) (h : Heap), (K w.params).In h → h.Ns mainGlobals mg → mg d.name = some (.ref fa) →
      ∃ fd : FuncData, (∀ (s : Shared) (u : Value), BindsTo s fd ⟨[u], []⟩ [("_law_script", u)]) ∧ ∀ base : Heap, (K w.params).In base → base.Ns mainGlobals mg → FnOk l.prog w (K w.params) mg base (CX1 l.prog w) 31 fa fd ["_law_script"] (spLaw (K w.params))) :
    PySem.W.WalkO q loose XP YP l.row.toRowW d [] (fun f vs => PySem.call f vs) :=
  L2.walk_of (n := 63) (k := 31) (x := "_law_script") (CX := fun w => CX1 l.prog w) (sp := fun w => spLaw (K w.params)) hn (by decide) hdf ⟨rfl, by decide, by decide, rfl⟩ hY F (fun _ _ a ns hl _ hS => ⟨a, ns, rfl, hS, hl, fun _ => rfl⟩) fun _ _ _ _ _ ⟨_, _, _, _, _, _, z⟩ => z.elim
end K47
open PySem PySem.W PyProof.Rows
set_option maxRecDepth 100000 in
set_option maxHeartbeats 0 in
theorem PySem.Challenge.cw_hushduel_k47_deals_in_deals_holds : PySem.Challenge.rw_hushduel_k47_deals_in_deals.Holds := by
  w_on; o_law; k_head; (case hw => w_witness2)
  k_fill
  refine K47.walk (l := PySem.Challenge.rw_hushduel_k47_deals_in_deals) rfl rfl (fun w h Y => PySem.W.kIn_of Y) ?F
  case F =>
    intro w mg fa h KX G hmg
    refine' K47.all_mk KX G hmg ?a0 ?l0 ?c0 ?k0 ?a1 ?l1 ?c1 ?k1 ?a2 ?l2 ?c2 ?k2 ?a3 ?l3 ?c3 ?k3 ?a4 ?l4 ?c4 ?k4 ?a5 ?l5 ?c5 ?k5 ?a6 ?l6 ?c6 ?k6 ?a7 ?l7 ?c7 ?k7 ?a8 ?l8 ?c8 ?k8 ?a9 ?l9 ?c9 ?k9 ?a10 ?l10 ?c10 ?k10 ?a11 ?l11 ?c11 ?k11 ?a12 ?l12 ?c12 ?k12 ?a13 ?l13 ?c13 ?k13 ?a14 ?l14 ?c14 ?k14 ?a15 ?l15 ?c15 ?k15 ?a16 ?l16 ?c16 ?k16 ?a17 ?l17 ?c17 ?k17 ?a18 ?l18 ?c18 ?k18 ?a19 ?l19 ?c19 ?k19 ?zabs ?zall ?zbool ?zint ?zisinstance ?zlen ?zlist ?zrange ?zstr ?zsum ?ztuple ?nNOUGHT ?vNOUGHT
    (case a0 => k_is)
    (case l0 => k_is)
    (case c0 => k_is)
    (case k0 => k_is)
    (case a1 => k_is)
    (case l1 => k_is)
    (case c1 => k_is)
    (case k1 => k_is)
    (case a2 => k_is)
    (case l2 => k_is)
    (case c2 => k_is)
    (case k2 => k_is)
    (case a3 => k_is)
    (case l3 => k_is)
    (case c3 => k_is)
    (case k3 => k_is)
    (case a4 => k_is)
    (case l4 => k_is)
    (case c4 => k_is)
    (case k4 => k_is)
    (case a5 => k_is)
    (case l5 => k_is)
    (case c5 => k_is)
    (case k5 => k_is)
    (case a6 => k_is)
    (case l6 => k_is)
    (case c6 => k_is)
    (case k6 => k_is)
    (case a7 => k_is)
    (case l7 => k_is)
    (case c7 => k_is)
    (case k7 => k_is)
    (case a8 => k_is)
    (case l8 => k_is)
    (case c8 => k_is)
    (case k8 => k_is)
    (case a9 => k_is)
    (case l9 => k_is)
    (case c9 => k_is)
    (case k9 => k_is)
    (case a10 => k_is)
    (case l10 => k_is)
    (case c10 => k_is)
    (case k10 => k_is)
    (case a11 => k_is)
    (case l11 => k_is)
    (case c11 => k_is)
    (case k11 => k_is)
    (case a12 => k_is)
    (case l12 => k_is)
    (case c12 => k_is)
    (case k12 => k_is)
    (case a13 => k_is)
    (case l13 => k_is)
    (case c13 => k_is)
    (case k13 => k_is)
    (case a14 => k_is)
    (case l14 => k_is)
    (case c14 => k_is)
    (case k14 => k_is)
    (case a15 => k_is)
    (case l15 => k_is)
    (case c15 => k_is)
    (case k15 => k_is)
    (case a16 => k_is)
    (case l16 => k_is)
    (case c16 => k_is)
    (case k16 => k_is)
    (case a17 => k_is)
    (case l17 => k_is)
    (case c17 => k_is)
    (case k17 => k_is)
    (case a18 => k_is)
    (case l18 => k_is)
    (case c18 => k_is)
    (case k18 => k_is)
    (case a19 => k_is)
    (case l19 => k_is)
    (case c19 => k_is)
    (case k19 => k_is)
    (case zabs => k_is)
    (case zall => k_is)
    (case zbool => k_is)
    (case zint => k_is)
    (case zisinstance => k_is)
    (case zlen => k_is)
    (case zlist => k_is)
    (case zrange => k_is)
    (case zstr => k_is)
    (case zsum => k_is)
    (case ztuple => k_is)
    (case nNOUGHT => k_is)
    (case vNOUGHT => k_is)
