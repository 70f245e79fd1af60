/-
  A region that draws its order, where at each step one operation alone may come up, but for moves, which may be taken first: it goes as one list.
-/
import Derived.Test.YtihaiabkjmmmoaaBa
import Derived.StillTail
namespace Go.Proofs.Ytihaiabkjmmmoaa
open Go

def isMove (o : Oper) : Bool := match o.op with
  | .move _ => true
  | _ => false
/-- in that order each operation may come up, alone, or as a move that is apart from the others -/
def ordB (ops : Array Oper) : List Nat → Array Bool → Bool
  | [], listed => (Region.ready .any ops listed).isEmpty
  | i :: r, listed => (decide (Region.ready .any ops listed = [i]) || ((Region.ready .any ops listed).contains i && Region.free .any ops listed i && (match ops[i]? with | some o => isMove o | none => false))) && ordB ops r (listed.setIfInBounds i true)
/-- the operations in that order -/
def ordL (ops : Array Oper) : List Nat → List Oper
  | [] => []
  | i :: r => match ops[i]? with
    | some o => o :: ordL ops r
    | none => ordL ops r

theorem move_yields {P : Program} {ops : Array Oper} {o : Oper} {a : Act} {w : World} {K : Act → World → Prop} {Q : Exit → Act → World → Prop} (hm : isMove o = true)
    (h : if Region.wanted o (yielded ops a.tmps) then o.wp P a w K Q ∨ (o.asks P a w ∧ LetsOut Q) else K (a.put o.dst undef) w) : ∃ v, Yields P ops o v a ∧ K (a.put o.dst v) w := by
  obtain ⟨d, op, t, pos, af, gd⟩ := o
  unfold isMove at hm
  simp only at hm
  split at hm
  · rename_i x
    have hr : ∀ w, (execOp a.eval ⟨d, .move x, t, pos, af, gd⟩).run P w = .ok (.value (a.eval x)) w := fun w => rfl
    by_cases hw : Region.wanted ⟨d, .move x, t, pos, af, gd⟩ (yielded ops a.tmps) = true
    · rw [if_pos hw] at h
      refine ⟨a.eval x, .inl ⟨hw, hr⟩, ?_⟩
      rcases h with h | h
      · unfold Oper.wp at h
        rw [hr] at h
        exact h
      · exfalso
        have h1 := h.1.1
        have h2 : noRoomEvent ∈ (#[] : Array Event) := h1
        simp at h2
    · rw [if_neg hw] at h
      exact ⟨undef, .inr ⟨by simpa using hw, rfl⟩, h⟩
  · cases hm

theorem wpAny_ord {P : Program} {ops : Array Oper} {Q : Exit → Act → World → Prop} (hsel : Region.noSelect ops = true) (hQ : ∀ c a d v w, Q (.panic c) (Act.put a d v) w → Q (.panic c) a w) :
    ∀ (ord : List Nat) (listed : Array Bool) (a : Act) (w : World), ordB ops ord listed = true → (∀ i ∈ ord, (ops[i]?).isSome = true) → wpList P ops Q (ordL ops ord) a w → wpAny P .any ops Q ord.length listed a w
  | [], listed, a, w, hB, _, h => ⟨by simpa [ordB] using hB, h⟩
  | i :: r, listed, a, w, hB, hs, h => by
    obtain ⟨o, ho⟩ := Option.isSome_iff_exists.1 (hs i (List.mem_cons_self ..))
    have hs' : ∀ j ∈ r, (ops[j]?).isSome = true := fun j hj => hs j (List.mem_cons_of_mem _ hj)
    simp only [ordB, ho, Bool.and_eq_true, Bool.or_eq_true, decide_eq_true_eq] at hB
    simp only [ordL, ho] at h
    rcases hB.1 with h1 | ⟨⟨h1, h2⟩, h3⟩
    · refine ⟨fun h0 => (by rw [h1] at h0; cases h0), fun j hj => ?_⟩
      rw [h1] at hj
      have hji : j = i := by simpa using hj
      subst hji
      have hw : wpOp P ops Q j (wpList P ops Q (ordL ops r)) a w := by unfold wpOp; simp only [ho]; exact h
      exact wpOp_mono (fun a' w' h' => wpAny_ord hsel hQ r _ a' w' hB.2 hs' h') hw
    · obtain ⟨v, hy, hk⟩ := move_yields (P := P) (ops := ops) (Q := Q) h3 h
      exact wpAny_take ho hsel h2 h1 (fun c a w hp => hQ c a _ _ w hp) hy (wpAny_ord hsel hQ r _ _ _ hB.2 hs' hk)

/-- which have been, as the digits of a number -/
def lst (n m : Nat) : Array Bool := ((List.range n).map fun i => m.testBit i).toArray
theorem lst_size (n m : Nat) : (lst n m).size = n := by simp [lst]
theorem lst_set (n m i : Nat) : (lst n m).setIfInBounds i true = lst n (m ||| 2 ^ i) := by
  apply Array.ext
  · simp [lst]
  · intro j h1 h2
    have hj : j < n := by simpa [lst] using h2
    rw [Array.getElem_setIfInBounds (by rw [lst_size]; exact hj)]
    by_cases e : i = j
    · subst e
      simp [lst, Nat.testBit_or, Nat.testBit_two_pow_self]
    · rw [if_neg e]
      simp [lst, Nat.testBit_or, Nat.testBit_two_pow_of_ne e]
theorem lst_zero (n : Nat) : lst n 0 = Array.replicate n false := by
  apply Array.ext
  · simp [lst]
  · intro j h1 h2
    simp [lst]
def stepB (ops : Array Oper) (listed : Array Bool) (i : Nat) : Bool :=
  (decide (Region.ready .any ops listed = [i]) || ((Region.ready .any ops listed).contains i && Region.free .any ops listed i && (match ops[i]? with | some o => isMove o | none => false))) && (ops[i]?).isSome
def chunkB (ops : Array Oper) (n : Nat) : Nat → List Nat → Nat → Bool
  | m, [], m' => m == m'
  | m, i :: r, m' => stepB ops (lst n m) i && chunkB ops n (m ||| 2 ^ i) r m'
def OrdOk_ (ops : Array Oper) (n m : Nat) (ord : List Nat) : Prop := ordB ops ord (lst n m) = true ∧ ∀ i ∈ ord, (ops[i]?).isSome = true
theorem ord_chunk {ops : Array Oper} {n m m' : Nat} {is r : List Nat} (h : chunkB ops n m is m' = true) (k : OrdOk_ ops n m' r) : OrdOk_ ops n m (is ++ r) := by
  induction is generalizing m with
  | nil =>
    have : m = m' := by simpa [chunkB] using h
    subst this
    exact k
  | cons i is ih =>
    simp only [chunkB, stepB, Bool.and_eq_true] at h
    obtain ⟨⟨h1, h2⟩, h3⟩ := h
    obtain ⟨q1, q2⟩ := ih h3
    refine ⟨?_, fun j hj => ?_⟩
    · rw [List.cons_append, ordB, h1, lst_set, Bool.true_and]
      exact q1
    · rcases List.mem_cons.1 hj with rfl | hj
      · exact h2
      · exact q2 j hj
theorem ord_end {ops : Array Oper} {n m : Nat} (h : (Region.ready .any ops (lst n m)).isEmpty = true) : OrdOk_ ops n m [] := ⟨h, fun _ h => by cases h⟩

theorem wp_region_ord {P : Program} {id : Nat} {ops : Array Oper} {Q : Exit → Act → World → Prop} {a : Act} {w : World} (ord : List Nat) (hm : P.follows .mixedOrders = true)
    (hn : (Region.noSelect ops && decide (ord.length = ops.size)) = true) (hB : OrdOk_ ops ops.size 0 ord) (hQ : ∀ c a d v w, Q (.panic c) (Act.put a d v) w → Q (.panic c) a w)
    (h : wpList P ops Q (ordL ops ord) a w.drew) : (Code.region id ops true).wp P Q a w := by
  simp only [Bool.and_eq_true, decide_eq_true_eq] at hn
  refine wp_region_any hm ?_
  have := wpAny_ord hn.1 hQ ord _ a w.drew hB.1 hB.2 h
  rw [hn.2, lst_zero] at this
  exact this
theorem then_wp {P : Program} {o : Oper} {a : Act} {w : World} {K K2 : Act → World → Prop} {Q : Exit → Act → World → Prop} (h : Oper.wp P o a w K (Exit.then K2 Q)) : Oper.wp P o a w K Q := by
  unfold Oper.wp at *
  generalize (execOp a.eval o).run P w = r at *
  cases r with
  | ok n w' =>
    cases n <;> simp only [Oper.upon] at h ⊢ <;>
      first
        | exact h
        | exact Calls.mono h (fun e w'' he => by cases e <;> exact he)
  | halt x w' => cases x <;> simp only [Oper.upon] at h ⊢ <;> exact h
theorem then_lets {K2 : Act → World → Prop} {Q : Exit → Act → World → Prop} (h : LetsOut (Exit.then K2 Q)) : LetsOut Q := h

/-- the first operations, in that order, and then the rest in whatever order -/
theorem wpAny_pre {P : Program} {ops : Array Oper} {Q : Exit → Act → World → Prop} {n m' fuel : Nat} (hsel : Region.noSelect ops = true) (hQ : ∀ c a d v w, Q (.panic c) (Act.put a d v) w → Q (.panic c) a w) :
    ∀ (is : List Nat) (m : Nat) (a : Act) (w : World), chunkB ops n m is m' = true → wpList P ops (Exit.then (fun a' w' => wpAny P .any ops Q fuel (lst n m') a' w') Q) (ordL ops is) a w → wpAny P .any ops Q (is.length + fuel) (lst n m) a w
  | [], m, a, w, hB, h => by
    have : m = m' := by simpa [chunkB] using hB
    subst this
    rw [List.length_nil, Nat.zero_add]
    exact h
  | i :: r, m, a, w, hB, h => by
    simp only [chunkB, stepB, Bool.and_eq_true] at hB
    obtain ⟨⟨h1, h2⟩, h3⟩ := hB
    obtain ⟨o, ho⟩ := Option.isSome_iff_exists.1 h2
    simp only [ho, Bool.or_eq_true, Bool.and_eq_true, decide_eq_true_eq] at h1
    simp only [ordL, ho] at h
    rw [List.length_cons, show r.length + 1 + fuel = (r.length + fuel) + 1 by omega]
    rcases h1 with q | ⟨⟨q1, q2⟩, q3⟩
    · refine ⟨fun h0 => (by rw [q] at h0; cases h0), fun j hj => ?_⟩
      rw [q] at hj
      have hji : j = i := by simpa using hj
      subst hji
      have hw : wpOp P ops Q j (wpList P ops (Exit.then (fun a' w' => wpAny P .any ops Q fuel (lst n m') a' w') Q) (ordL ops r)) a w := by
        unfold wpOp
        simp only [ho]
        change (if Region.wanted o (yielded ops a.tmps) then o.wp P a w (wpList P ops (Exit.then (fun a' w' => wpAny P .any ops Q fuel (lst n m') a' w') Q) (ordL ops r)) (Exit.then (fun a' w' => wpAny P .any ops Q fuel (lst n m') a' w') Q) ∨ (o.asks P a w ∧ LetsOut (Exit.then (fun a' w' => wpAny P .any ops Q fuel (lst n m') a' w') Q)) else _) at h
        by_cases hw : Region.wanted o (yielded ops a.tmps) = true
        · rw [if_pos hw] at h ⊢
          exact h.imp then_wp (fun k => ⟨k.1, then_lets k.2⟩)
        · rw [if_neg hw] at h ⊢
          exact h
      rw [lst_set]
      exact wpOp_mono (fun a' w' h' => wpAny_pre hsel hQ r _ a' w' h3 h') hw
    · obtain ⟨v, hy, hk⟩ := move_yields (P := P) (ops := ops) (Q := Exit.then (fun a' w' => wpAny P .any ops Q fuel (lst n m') a' w') Q) q3 h
      refine wpAny_take ho hsel q2 q1 (fun c a w hp => hQ c a _ _ w hp) hy ?_
      rw [lst_set]
      exact wpAny_pre hsel hQ r _ _ _ h3 hk
theorem wpAny_pref {P : Program} {ops : Array Oper} {Q : Exit → Act → World → Prop} {n m m' : Nat} {a : Act} {w : World} (is : List Nat) (F fuel : Nat) (hF : is.length + fuel = F) (hsel : Region.noSelect ops = true) (hB : chunkB ops n m is m' = true) (hQ : ∀ c a d v w, Q (.panic c) (Act.put a d v) w → Q (.panic c) a w)
    (h : wpList P ops (Exit.then (fun a' w' => wpAny P .any ops Q fuel (lst n m') a' w') Q) (ordL ops is) a w) : wpAny P .any ops Q F (lst n m) a w := by
  subst hF
  exact wpAny_pre hsel hQ is m a w hB h
theorem wp_region_pre {P : Program} {id : Nat} {ops : Array Oper} {Q : Exit → Act → World → Prop} {a : Act} {w : World} (hm : P.follows .mixedOrders = true)
    (h : wpAny P .any ops Q ops.size (lst ops.size 0) a w.drew) : (Code.region id ops true).wp P Q a w := by
  rw [lst_zero] at h
  exact wp_region_any hm h
/-- chunks of an order -/
theorem chunk_app {ops : Array Oper} {n m m1 m2 : Nat} {is r : List Nat} (h : chunkB ops n m is m1 = true) (k : chunkB ops n m1 r m2 = true) : chunkB ops n m (is ++ r) m2 = true := by
  induction is generalizing m with
  | nil =>
    have : m = m1 := by simpa [chunkB] using h
    subst this
    exact k
  | cons i is ih =>
    simp only [List.cons_append, chunkB, Bool.and_eq_true] at h ⊢
    exact ⟨h.1, ih h.2⟩
theorem wpOp_val {P : Program} {ops : Array Oper} {Q : Exit → Act → World → Prop} {i : Nat} {o : Oper} {a : Act} {w : World} {v : Value} {K : Act → World → Prop} (ho : ops[i]? = some o) (hw : Region.wanted o (yielded ops a.tmps) = true) (hr : (execOp a.eval o).run P w = .ok (.value v) w) (h : K (a.put o.dst v) w) : wpOp P ops Q i K a w := by
  unfold wpOp
  simp only [ho]
  rw [if_pos hw]
  refine .inl ?_
  unfold Oper.wp
  rw [hr]
  exact h
/-- two that only read, in either order -/
theorem wpAny_two {P : Program} {ops : Array Oper} {Q : Exit → Act → World → Prop} {n m i j fuel : Nat} {oi oj : Oper} {vi vj : Value} {a : Act} {w : World} (hi : ops[i]? = some oi) (hj : ops[j]? = some oj)
    (hr : (decide (Region.ready .any ops (lst n m) = [i, j]) && decide (Region.ready .any ops (lst n (m ||| 2 ^ i)) = [j]) && decide (Region.ready .any ops (lst n (m ||| 2 ^ j)) = [i])) = true)
    (hw1 : Region.wanted oi (yielded ops a.tmps) = true) (hw2 : Region.wanted oj (yielded ops (a.put oi.dst vi).tmps) = true) (hw3 : Region.wanted oj (yielded ops a.tmps) = true) (hw4 : Region.wanted oi (yielded ops (a.put oj.dst vj).tmps) = true)
    (h1 : (execOp a.eval oi).run P w = .ok (.value vi) w) (h2 : (execOp (a.put oi.dst vi).eval oj).run P w = .ok (.value vj) w) (h3 : (execOp a.eval oj).run P w = .ok (.value vj) w) (h4 : (execOp (a.put oj.dst vj).eval oi).run P w = .ok (.value vi) w)
    (hc : (a.put oj.dst vj).put oi.dst vi = (a.put oi.dst vi).put oj.dst vj) (hm : m ||| 2 ^ j ||| 2 ^ i = m ||| 2 ^ i ||| 2 ^ j)
    (h : wpAny P .any ops Q fuel (lst n (m ||| 2 ^ i ||| 2 ^ j)) ((a.put oi.dst vi).put oj.dst vj) w) : wpAny P .any ops Q (fuel + 2) (lst n m) a w := by
  simp only [Bool.and_eq_true, decide_eq_true_eq] at hr
  obtain ⟨⟨r1, r2⟩, r3⟩ := hr
  refine ⟨fun h0 => (by rw [r1] at h0; cases h0), fun k hk => ?_⟩
  rw [r1] at hk
  rcases List.mem_cons.1 hk with rfl | hk
  · refine wpOp_val hi hw1 h1 ?_
    rw [lst_set]
    refine ⟨fun h0 => (by rw [r2] at h0; cases h0), fun k' hk' => ?_⟩
    rw [r2] at hk'
    obtain rfl : k' = j := by simpa using hk'
    refine wpOp_val hj hw2 h2 ?_
    rw [lst_set]
    exact h
  · obtain rfl : k = j := by simpa using hk
    refine wpOp_val hj hw3 h3 ?_
    rw [lst_set]
    refine ⟨fun h0 => (by rw [r3] at h0; cases h0), fun k' hk' => ?_⟩
    rw [r3] at hk'
    obtain rfl : k' = i := by simpa using hk'
    refine wpOp_val hi hw4 h4 ?_
    rw [lst_set, hm, hc]
    exact h
/-- one that asks nothing of the world is taken first -/
theorem wpAny_free {P : Program} {ops : Array Oper} {Q : Exit → Act → World → Prop} {n m i fuel : Nat} {oi : Oper} {v : Value} {a : Act} {w : World} (hi : ops[i]? = some oi)
    (hB : (Region.noSelect ops && (Region.free .any ops (lst n m) i && (Region.ready .any ops (lst n m)).contains i)) = true)
    (hQ : ∀ c a w, Q (.panic c) (a.put oi.dst v) w → Q (.panic c) a w) (hy : Yields P ops oi v a)
    (h : wpAny P .any ops Q fuel (lst n (m ||| 2 ^ i)) (a.put oi.dst v) w) : wpAny P .any ops Q (fuel + 1) (lst n m) a w := by
  simp only [Bool.and_eq_true] at hB
  refine wpAny_take hi hB.1 hB.2.1 hB.2.2 hQ hy ?_
  rw [lst_set]
  exact h
end Go.Proofs.Ytihaiabkjmmmoaa
