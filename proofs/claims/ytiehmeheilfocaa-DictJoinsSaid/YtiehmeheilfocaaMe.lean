/-
  Mathematics of layer 4's statements: cuts, texts behind their lengths. No Go.
-/
import Derived.Test.YtiehmeheilfocaaMd
import Derived.Test.YtiehmeheilfocaaMb
namespace Go.Proofs.Ytiehmeheilfocaa.Wd

/-- how many bytes are cut, where there is room for m -/
def cn (l : List UInt8) (m : Nat) : Nat := ends (l.take m)
theorem cn_le (l : List UInt8) (m : Nat) : cn l m ≤ m ∧ cn l m ≤ l.length := by
  have := (ends_le (l.take m)).1
  rw [List.length_take] at this
  unfold cn
  omega
theorem cn_take (l : List UInt8) (m : Nat) : (l.take m).take (cn l m) = l.take (cn l m) := by
  rw [List.take_take, Nat.min_eq_left (cn_le l m).1]
theorem cn_valid (l : List UInt8) (m : Nat) : valid (l.take (cn l m)) = true := by
  have := valid_take (l.take m)
  rw [show ends (l.take m) = cn l m from rfl, cn_take] at this
  exact this
theorem cn_most {l : List UInt8} {m n : Nat} (hn : n ≤ m) (hl : n ≤ l.length) (h : valid (l.take n) = true) : n ≤ cn l m := by
  unfold cn
  exact valid_most (by rw [List.length_take]; omega) (by rw [List.take_take, Nat.min_eq_left hn]; exact h)
theorem cn_self {l : List UInt8} {n m : Nat} (h : valid (l.take n) = true) (hn : n ≤ l.length) (hm : n ≤ m) : cn (l.take n) m = n := by
  have h1 := cn_le (l.take n) m
  have h2 := cn_most (l := l.take n) (m := m) (n := n) hm (by rw [List.length_take]; omega) (by rw [List.take_take, Nat.min_self]; exact h)
  rw [List.length_take] at h1
  omega
/-- cut again, of what was cut farther -/
theorem cn_again {l : List UInt8} {m c : Nat} (hc : cn l m ≤ c) (_hl : c ≤ l.length) : cn (l.take c) m = cn l m := by
  have h1 := cn_le (l.take c) m
  have h2 := cn_le l m
  rw [List.length_take] at h1
  have h3 := cn_most (l := l.take c) (m := m) (n := cn l m) h2.1 (by rw [List.length_take]; omega) (by rw [List.take_take, Nat.min_eq_left hc]; exact cn_valid l m)
  have h4 := cn_most (l := l) (m := m) (n := cn (l.take c) m) h1.1 (by omega) (by
    have := cn_valid (l.take c) m
    rw [List.take_take, Nat.min_eq_left (by omega)] at this
    exact this)
  omega
theorem cn_mono {l : List UInt8} {m n : Nat} (h : m ≤ n) : cn l m ≤ cn l n :=
  cn_most (Nat.le_trans (cn_le l m).1 h) (cn_le l m).2 (cn_valid l m)
theorem cn_whole {l : List UInt8} (h : valid l = true) : cn l l.length = l.length := by
  unfold cn
  rw [List.take_length]
  exact valid_iff.1 h
/-- of a valid text less than a sign is missing -/
theorem cn_near (l : List UInt8) : ∀ m, m ≤ l.length → ends l = l.length → m < cn l m + 4 := by
  induction l using sign_ind with
  | h0 l h =>
    intro m hm hv
    have := (ends_stop h).1
    omega
  | h1 l h ih =>
    intro m hm hv
    have hle := sgn_le l
    by_cases hn : sgn l ≤ m
    · have hs : sgn (l.take m) = sgn l := sgn_of (sg_take (sgn_pos h) hn)
      have e1 := (ends_step hs h).1
      have e2 := (ends_step (l := l) rfl h).1
      have := ih (m - sgn l) (by rw [List.length_drop]; omega) (by rw [List.length_drop]; omega)
      unfold cn at this ⊢
      rw [e1, List.drop_take]
      omega
    · omega

/-- texts behind their lengths -/
def enc4 : List (List UInt8) → List UInt8
  | [] => []
  | x :: xs => (Pk.put x.length ++ x) ++ enc4 xs
theorem enc4_snoc (xs : List (List UInt8)) (x : List UInt8) : enc4 (xs ++ [x]) = enc4 xs ++ (Pk.put x.length ++ x) := by
  induction xs with
  | nil => simp [enc4]
  | cons y ys ih => rw [List.cons_append, enc4, ih, enc4]; simp only [List.append_assoc]
theorem enc4_take {xs : List (List UInt8)} {k : Nat} {x : List UInt8} (h : xs[k]? = some x) : enc4 (xs.take (k + 1)) = enc4 (xs.take k) ++ (Pk.put x.length ++ x) := by
  obtain ⟨hk, rfl⟩ := List.getElem?_eq_some_iff.1 h
  rw [List.take_succ_eq_append_getElem hk, enc4_snoc]
theorem enc4_drop {xs : List (List UInt8)} {k : Nat} {x : List UInt8} (h : xs[k]? = some x) : enc4 (xs.drop k) = (Pk.put x.length ++ x) ++ enc4 (xs.drop (k + 1)) := by
  obtain ⟨hk, rfl⟩ := List.getElem?_eq_some_iff.1 h
  rw [List.drop_eq_getElem_cons hk, enc4]
theorem enc4_app (a b : List (List UInt8)) : enc4 (a ++ b) = enc4 a ++ enc4 b := by
  induction a with
  | nil => rfl
  | cons y ys ih => rw [List.cons_append, enc4, ih, enc4]; simp only [List.append_assoc]
theorem enc4_at (xs : List (List UInt8)) (k : Nat) : (enc4 xs).drop (enc4 (xs.take k)).length = enc4 (xs.drop k) ∧ (enc4 (xs.take k)).length ≤ (enc4 xs).length := by
  have h : enc4 xs = enc4 (xs.take k) ++ enc4 (xs.drop k) := by rw [← enc4_app, List.take_append_drop]
  constructor
  · rw [h]; simp
  · rw [h]; simp
theorem enc4_len (xs : List (List UInt8)) (n : Nat) (hn : n < 18446744073709551616) (h : ∀ x ∈ xs, x.length ≤ n) : (enc4 xs).length ≤ (n + 10) * xs.length := by
  induction xs with
  | nil => simp [enc4]
  | cons y ys ih =>
    have h1 := ih (fun x hx => h x (List.mem_cons_of_mem _ hx))
    have h0 := h y List.mem_cons_self
    have h2 := Pk.put_len10 (n := y.length) (by omega)
    rw [enc4, List.length_append, List.length_append, List.length_cons, Nat.mul_add, Nat.mul_one]
    omega
end Go.Proofs.Ytiehmeheilfocaa.Wd
