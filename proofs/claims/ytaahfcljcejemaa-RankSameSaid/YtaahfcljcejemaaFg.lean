/-
  Whole numbers: how many bits, moved up, and their words. No Go in it.
-/
import Derived.Test.YtaahfcljcejemaaFf
namespace Go.Proofs.Ytaahfcljcejemaa.Fl
open Go

/-- n, halved c times -/
def pk (n c : Nat) : Nat := n / 2 ^ c
theorem pk_zero (n : Nat) : pk n 0 = n := by simp [pk]
theorem pk_succ (n c : Nat) : pk n (c + 1) = pk n c / 2 := by unfold pk; rw [Nat.pow_succ, Nat.div_div_eq_div_mul]
theorem pk_pos (n c : Nat) (hn : 0 < n) (h : c ≤ n.log2) : 0 < pk n c := by
  unfold pk
  have h1 := Nat.log2_self_le (n := n) (by omega)
  have h2 := Nat.pow_le_pow_right (n := 2) (by omega) h
  exact Nat.div_pos (Nat.le_trans h2 h1) (Nat.two_pow_pos c)
theorem pk_end (n : Nat) : pk n (n.log2 + 1) = 0 := by
  unfold pk
  exact Nat.div_eq_of_lt Nat.lt_log2_self
theorem pk_le (n c : Nat) : pk n c ≤ n := by unfold pk; exact Nat.div_le_self _ _

/-- n, doubled i times -/
def mk (n i : Nat) : Nat := n * 2 ^ i
theorem mk_zero (n : Nat) : mk n 0 = n := by simp [mk]
theorem mk_succ (n i : Nat) : mk n (i + 1) = 2 * mk n i := by unfold mk; rw [Nat.pow_succ]; rw [Nat.mul_comm 2, Nat.mul_assoc]
theorem mk_lt (n i : Nat) (h : n.log2 + i ≤ 52) : mk n i < 9007199254740992 := by
  unfold mk
  have h1 := Nat.lt_log2_self (n := n)
  have h2 : n * 2 ^ i < 2 ^ (n.log2 + 1) * 2 ^ i := Nat.mul_lt_mul_of_pos_right h1 (Nat.two_pow_pos i)
  rw [← Nat.pow_add] at h2
  have h3 := Nat.pow_le_pow_right (n := 2) (by omega) (show n.log2 + 1 + i ≤ 53 by omega)
  have e : (2 : Nat) ^ 53 = 9007199254740992 := by decide
  omega
theorem mk_ge (n : Nat) (hn : 0 < n) (h : n.log2 ≤ 52) : 4503599627370496 ≤ mk n (52 - n.log2) := by
  unfold mk
  have h1 := Nat.log2_self_le (n := n) (by omega)
  have h2 : 2 ^ n.log2 * 2 ^ (52 - n.log2) ≤ n * 2 ^ (52 - n.log2) := Nat.mul_le_mul_right _ h1
  rw [← Nat.pow_add, show n.log2 + (52 - n.log2) = 52 from by omega, p52] at h2
  exact h2

theorem log2_le53 (n : Nat) (hn : 0 < n) (h : n ≤ 9007199254740992) : n.log2 ≤ 53 ∧ (n.log2 = 53 → n = 9007199254740992) := by
  have e54 : (2 : Nat) ^ 54 = 18014398509481984 := by decide
  have h1 := (Nat.log2_lt (n := n) (k := 54) (by omega)).2 (by rw [e54]; omega)
  refine ⟨by omega, fun h2 => ?_⟩
  have h3 := Nat.log2_self_le (n := n) (by omega)
  rw [h2] at h3
  have e : (2 : Nat) ^ 53 = 9007199254740992 := by decide
  omega

/-- the part m of a whole number's word -/
def wm (n : Nat) : Nat := if n.log2 ≤ 52 then mk n (52 - n.log2) - 4503599627370496 else 0
theorem wm_lt (n : Nat) : wm n < 4503599627370496 := by
  unfold wm
  split
  · rename_i h
    have := mk_lt n (52 - n.log2) (by omega)
    omega
  · omega

theorem whole_word (n : Nat) (hn : 0 < n) (h : n ≤ 9007199254740992) : floatOfInt .f64 (n : Int) = nw (1023 + n.log2) (wm n) := by
  have hL := log2_le53 n hn h
  by_cases h52 : n.log2 ≤ 52
  · have hlt : n < 9007199254740992 := by
      have := mk_lt n 0 (by omega)
      rw [mk_zero] at this; exact this
    rw [ofNat_eq n hlt]
    have hge := mk_ge n hn h52
    have hmlt := mk_lt n (52 - n.log2) (by omega)
    have hw : 4503599627370496 + wm n = mk n (52 - n.log2) := by unfold wm; rw [if_pos h52]; omega
    rw [nw_en (1023 + n.log2) (wm n) (wm_lt n) (by omega) (by omega), hw]
    unfold en mk
    rw [Nat.mul_assoc, ← Nat.pow_add, show 52 - n.log2 + (1023 + n.log2 - 1) = B from by rw [B_eq]; omega]
  · have h53 : n.log2 = 53 := by omega
    have hv := hL.2 h53
    have hw : wm n = 0 := by unfold wm; rw [if_neg h52]
    rw [hw, h53, hv]
    decide
end Go.Proofs.Ytaahfcljcejemaa.Fl
