/-
  Plain facts for the statements of layer 2. No Go in it.
-/
import Derived.Test.YtaahfcljcejemaaFh
namespace Go.Proofs.Ytaahfcljcejemaa.Fl
open Go

theorem ky_num {x : Nat} (h : nn x = false) : ky x = if x < 9223372036854775808 then x + 9223372036854775808 else 18446744073709551615 - x := by
  unfold ky; rw [cb_num h]
theorem kyn {x : Nat} (h : nn x = true) : ky x = 18444492273895866368 := by
  unfold ky; rw [cb_nan h]; rfl
/-- numbers stand by their keys as they are -/
theorem ky_mono {x y : Nat} (hx : x < 18446744073709551616) (hy : y < 18446744073709551616) (nx : nn x = false) (ny : nn y = false) (h : vl x < vl y) : ky x < ky y := by
  rw [ky_num nx, ky_num ny]
  unfold vl at h
  split at h <;> split at h <;> split <;> split <;> omega
/-- a number's key lies below that of no number -/
theorem ky_top {x : Nat} (hx : x < 18446744073709551616) (nx : nn x = false) : ky x ≤ 18442240474082181120 ∧ 4503599627370495 ≤ ky x := by
  have := (nn_iff' x).1 nx
  rw [ky_num nx]
  split <;> omega
/-- between keys of numbers all are keys -/
theorem cn_mid {k : Nat} (h1 : 4503599627370495 ≤ k) (h2 : k ≤ 18442240474082181120) : cn (uk k) = true ∧ nn (uk k) = false := by
  have hk : k < 18446744073709551616 := by omega
  have hn : nn (uk k) = false := by
    rw [nn_iff']
    unfold uk
    split <;> omega
  exact ⟨(cn_iff _ (uk_lt k hk)).2 (.inl hn), hn⟩
/-- what Unkey gives has that key -/
theorem ky_fl {k : Nat} (hk : k < 18446744073709551616) (h : cn (uk k) = true) : ky (fl (uk k)) = k := by
  have hu := uk_lt k hk
  rw [ky_iff (fl_lt _ hu) hk, cb_fl_cn hu h]
theorem uw_lt {k : Nat} (hk : k < 18446744073709551616) : uw k < 18446744073709551616 := by
  unfold uw; split
  · exact fl_lt _ (uk_lt k hk)
  · omega
theorem far_comm (a b : Nat) : far a b = far b a := by unfold far; rw [Nat.max_comm, Nat.min_comm]
theorem md_comm (a b : Nat) : md a b = md b a := by unfold md; rw [Nat.max_comm, Nat.min_comm]

theorem cm_lt {a b : Nat} (h : a < b) : cm a b = -1 := by unfold cm; rw [if_pos h]
theorem cm_eq (a : Nat) : cm a a = 0 := by unfold cm; rw [if_neg (by omega), if_neg (by omega)]
theorem cm_gt {a b : Nat} (h : b < a) : cm a b = 1 := by unfold cm; rw [if_neg (by omega), if_pos h]
theorem cm_tri (a b : Nat) : (a < b ∧ cm a b = -1 ∧ cm b a = 1) ∨ (a = b ∧ cm a b = 0 ∧ cm b a = 0) ∨ (b < a ∧ cm a b = 1 ∧ cm b a = -1) := by
  rcases Nat.lt_trichotomy a b with h | h | h
  · exact .inl ⟨h, cm_lt h, cm_gt h⟩
  · subst h; exact .inr (.inl ⟨rfl, cm_eq a, cm_eq a⟩)
  · exact .inr (.inr ⟨h, cm_gt h, cm_lt h⟩)
/-- the middle lies between -/
theorem md_between {a b : Nat} (h : far a b = true) : cm a (md a b) = cm a b ∧ cm (md a b) b = cm a b := by
  have h1 : 2 ≤ max a b - min a b := by unfold far at h; exact of_decide_eq_true h
  unfold md
  rcases Nat.lt_trichotomy a b with h2 | h2 | h2
  · rw [cm_lt h2]
    exact ⟨cm_lt (by omega), cm_lt (by omega)⟩
  · omega
  · rw [cm_gt h2]
    exact ⟨cm_gt (by omega), cm_gt (by omega)⟩
theorem far_ne {a b : Nat} (h : far a b = true) : a ≠ b := by
  have h1 : 2 ≤ max a b - min a b := by unfold far at h; exact of_decide_eq_true h
  omega

/-- how far two keys may be apart behind n halvings -/
def lim (n : Nat) : Nat := 2 ^ (64 - n)
theorem lim_zero : lim 0 = 18446744073709551616 := by decide
theorem lim_end : lim 64 = 1 := by decide
theorem lim_succ (n : Nat) (h : n < 64) : lim n = 2 * lim (n + 1) := by
  unfold lim
  rw [show 64 - n = (64 - (n + 1)) + 1 from by omega, Nat.pow_succ, Nat.mul_comm]
end Go.Proofs.Ytaahfcljcejemaa.Fl
