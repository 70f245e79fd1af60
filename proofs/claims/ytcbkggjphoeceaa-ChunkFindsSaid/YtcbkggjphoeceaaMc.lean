/-
  Mathematics of layer 3's statements. No Go.
-/
import Derived.Test.YtcbkggjphoeceaaMb
namespace Go.Proofs.Ytcbkggjphoeceaa.Pk

theorem put_last (n : Nat) : ∃ b, (put n)[(put n).length - 1]? = some b ∧ b.toNat < 128 := by
  induction n using Nat.strongRecOn with
  | _ n ih =>
    by_cases h : n < 128
    · rw [put_lo h]
      exact ⟨_, rfl, by rw [ofNat_toNat_lt (by omega)]; exact h⟩
    · obtain ⟨b, hb, hlt⟩ := ih (n / 128) (by omega)
      have hp := put_len_pos (n / 128)
      refine ⟨b, ?_, hlt⟩
      rw [put_hi (by omega), List.length_cons, Nat.add_sub_cancel]
      obtain ⟨j, hj⟩ : ∃ j, (put (n / 128)).length = j + 1 := ⟨_, (Nat.succ_pred_eq_of_pos hp).symm⟩
      rw [hj] at hb ⊢
      exact hb
theorem put_init (n : Nat) : ∀ i, i + 1 < (put n).length → ∃ b, (put n)[i]? = some b ∧ 128 ≤ b.toNat := by
  induction n using Nat.strongRecOn with
  | _ n ih =>
    intro i hi
    by_cases h : n < 128
    · rw [put_lo h] at hi; simp at hi
    · rw [put_hi (by omega)] at hi ⊢
      cases i with
      | zero => exact ⟨_, rfl, by rw [ofNat_toNat_lt (by omega)]; omega⟩
      | succ i =>
        rw [List.length_cons] at hi
        obtain ⟨b, hb, hlt⟩ := ih (n / 128) (by omega) i (by omega)
        exact ⟨b, by simpa using hb, hlt⟩

/-- what is read well of bytes is what it is put as -/
theorem num_read {l : List UInt8} (h : (numS ⟨l, 0⟩).e = 0) : l.take (l.length - (numS ⟨l, 0⟩).l.length) = put (numV ⟨l, 0⟩) ∧ l.length - (numS ⟨l, 0⟩).l.length = (put (numV ⟨l, 0⟩)).length ∧ (numS ⟨l, 0⟩).l.length ≤ l.length := by
  cases hr : rd l with
  | cut => rw [(num_cut (s := ⟨l, 0⟩) rfl hr).2] at h; simp at h
  | long => rw [(num_long (s := ⟨l, 0⟩) rfl hr).2] at h; simp at h
  | ok n u =>
    obtain ⟨h1, h2, h3, _⟩ := rd_inv hr
    have e1 := (num_ok (s := ⟨l, 0⟩) rfl hr).2
    have e2 := (num_ok (s := ⟨l, 0⟩) rfl hr).1
    have e3 : l.length - (l.drop u).length = u := by rw [List.length_drop]; omega
    rw [e1, e2]
    exact ⟨by simp only; rw [e3]; exact h1, by simp only; rw [e3]; exact h2, by simp⟩
/-- with an error nothing was read -/
theorem num_stays (s : St) (h : (numS s).e ≠ 0) : numV s = 0 ∧ (numS s).l = s.l ∧ (s.e ≠ 0 → numS s = s) := by
  by_cases he : s.e = 0
  · cases hr : rd s.l with
    | cut => rw [(num_cut he hr).1, (num_cut he hr).2]; exact ⟨rfl, rfl, fun h => absurd he h⟩
    | long => rw [(num_long he hr).1, (num_long he hr).2]; exact ⟨rfl, rfl, fun h => absurd he h⟩
    | ok n u => rw [(num_ok he hr).2] at h; simp at h
  · exact ⟨(num_err he).1, by rw [(num_err he).2], fun _ => (num_err he).2⟩
theorem fix_stays (s : St) (h : (fixS s).e ≠ 0) : fixV s = 0 ∧ (fixS s).l = s.l ∧ (s.e ≠ 0 → fixS s = s) := by
  by_cases he : s.e = 0
  · by_cases hl : s.l.length < 8
    · rw [(fix_cut he hl).1, (fix_cut he hl).2]; exact ⟨rfl, rfl, fun h => absurd he h⟩
    · rw [(fix_ok he (by omega)).2] at h; simp at h
  · exact ⟨(fix_err he).1, by rw [(fix_err he).2], fun _ => (fix_err he).2⟩
theorem take_stays (n : Int) (s : St) (h : (takeS n s).e ≠ 0) : takeV n s = [] ∧ (takeS n s).l = s.l ∧ (s.e ≠ 0 → takeS n s = s) := by
  by_cases he : s.e = 0
  · by_cases hl : n < 0 ∨ (s.l.length : Int) < n
    · rw [(take_cut he hl).1, (take_cut he hl).2]; exact ⟨rfl, rfl, fun h => absurd he h⟩
    · rw [(take_ok he hl).2] at h; simp at h
  · exact ⟨(take_err he).1, by rw [(take_err he).2], fun _ => (take_err he).2⟩

/-- numbers that are put, each in both ways -/
def enc : List Int → List UInt8
  | [] => []
  | x :: xs => put x.toNat ++ (fixed 8 x.toNat ++ enc xs)
theorem enc_snoc (xs : List Int) (x : Int) : enc (xs ++ [x]) = (enc xs ++ put x.toNat) ++ fixed 8 x.toNat := by
  induction xs with
  | nil => simp [enc]
  | cons y ys ih => rw [List.cons_append, enc, ih, enc]; simp only [List.append_assoc]
theorem enc_take {xs : List Int} {k : Nat} {x : Int} (h : xs[k]? = some x) : enc (xs.take (k + 1)) = (enc (xs.take k) ++ put x.toNat) ++ fixed 8 x.toNat := by
  obtain ⟨hk, rfl⟩ := List.getElem?_eq_some_iff.1 h
  rw [List.take_succ_eq_append_getElem hk, enc_snoc]
theorem enc_drop {xs : List Int} {k : Nat} {x : Int} (h : xs[k]? = some x) : enc (xs.drop k) = put x.toNat ++ (fixed 8 x.toNat ++ enc (xs.drop (k + 1))) := by
  obtain ⟨hk, rfl⟩ := List.getElem?_eq_some_iff.1 h
  rw [List.drop_eq_getElem_cons hk, enc]
theorem enc_len (xs : List Int) (h : ∀ x ∈ xs, x < 18446744073709551616) : (enc xs).length ≤ 18 * xs.length := by
  induction xs with
  | nil => simp [enc]
  | cons y ys ih =>
    have h1 := ih (fun x hx => h x (List.mem_cons_of_mem _ hx))
    have h2 := put_len10 (n := y.toNat) (by have := h y (List.mem_cons_self); omega)
    rw [enc, List.length_append, List.length_append, fixed_len, List.length_cons]
    omega
theorem num_put {n : Nat} (h : n < 18446744073709551616) (R : List UInt8) : numV ⟨put n ++ R, 0⟩ = n ∧ numS ⟨put n ++ R, 0⟩ = ⟨R, 0⟩ := by
  have hr := rd_put h R
  have := num_ok (s := ⟨put n ++ R, 0⟩) rfl hr
  refine ⟨this.1, ?_⟩
  rw [this.2]
  simp
theorem fix_fixed {n : Nat} (h : n < 18446744073709551616) (R : List UInt8) : fixV ⟨fixed 8 n ++ R, 0⟩ = n ∧ fixS ⟨fixed 8 n ++ R, 0⟩ = ⟨R, 0⟩ := by
  have hl := fixed_len 8 n
  have := fix_ok (s := ⟨fixed 8 n ++ R, 0⟩) rfl (by simp [hl])
  have ht : (fixed 8 n ++ R).take 8 = fixed 8 n := by rw [List.take_append_of_le_length (by omega), List.take_of_length_le (by omega)]
  have hd : (fixed 8 n ++ R).drop 8 = R := by rw [List.drop_append_of_le_length (by omega), List.drop_of_length_le (by omega)]; rfl
  refine ⟨?_, ?_⟩
  · rw [this.1]
    simp only
    rw [ht]
    exact num8_fixed 8 n (by omega)
  · rw [this.2]
    simp only
    rw [hd]
end Go.Proofs.Ytcbkggjphoeceaa.Pk
