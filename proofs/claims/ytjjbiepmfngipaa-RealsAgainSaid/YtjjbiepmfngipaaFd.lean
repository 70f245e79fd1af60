/-
  Words with a field e and a part m; tests of words without a minus; whole numbers out of words. No Go in it.
-/
import Derived.Test.YtjjbiepmfngipaaFc
namespace Go.Proofs.Ytjjbiepmfngipaa.Fl
open Go

/-- the word of field e and part m -/
def nw (e m : Nat) : Nat := e * 4503599627370496 + m
theorem nw_lt (e m : Nat) (he : e ≤ 2046) (hm : m < 4503599627370496) : nw e m < 9218868437227405312 := by unfold nw; omega
theorem nw_en (e m : Nat) (hm : m < 4503599627370496) (he1 : 1 ≤ e) (he : e ≤ 2046) : nw e m = en (4503599627370496 + m) (e - 1) := (enc_norm m e hm he1 he).symm
theorem mul_nw (e e' k m : Nat) (hm : m < 4503599627370496) (h1 : 1 ≤ e) (h2 : e ≤ 2046) (h3 : 1 ≤ e') (h4 : e' ≤ 2046) (hk1 : 1 ≤ k) (hk2 : k ≤ 2046) (hk : k + e = 1023 + e') :
    floatBits .mul .f64 (nw e m) (k * 4503599627370496) = some (nw e' m) := by
  rw [nw_en e m hm h1 h2, nw_en e' m hm h3 h4]
  exact mul_enc _ (e - 1) (e' - 1) k (by omega) (by omega) (by omega) hk1 hk2 (by omega)

section
variable (x y : Nat) (hx : x ≤ 9218868437227405312) (hy : y ≤ 9218868437227405312)
include hx hy
theorem s_ge : (FloatKind.f64.format.order x y == some Ordering.gt || FloatKind.f64.format.order x y == some Ordering.eq) = decide (y ≤ x) := by
  rw [o_ge x y (by omega) (by omega) (nn_small x hx) (nn_small y hy), vl_small x (by omega), vl_small y (by omega)]
  exact decide_eq_decide.2 (by omega)
theorem s_lt : (FloatKind.f64.format.order x y == some Ordering.lt) = decide (x < y) := by
  rw [o_lt x y (by omega) (by omega) (nn_small x hx) (nn_small y hy), vl_small x (by omega), vl_small y (by omega)]
  exact decide_eq_decide.2 (by omega)
theorem s_eq : (FloatKind.f64.format.order x y == some Ordering.eq) = decide (x = y) := by
  rw [o_eq x y (by omega) (by omega) (nn_small x hx) (nn_small y hy), vl_small x (by omega), vl_small y (by omega)]
  exact decide_eq_decide.2 (by omega)
end

theorem bd_dbl (k : Nat) (hk : k < 10) : (k = 0 ∧ pw k = 512) ∨ bd k = 2 * pw k := by
  have h : k = 0 ∨ k = 1 ∨ k = 2 ∨ k = 3 ∨ k = 4 ∨ k = 5 ∨ k = 6 ∨ k = 7 ∨ k = 8 ∨ k = 9 := by omega
  rcases h with rfl | rfl | rfl | rfl | rfl | rfl | rfl | rfl | rfl | rfl
  · exact .inl ⟨rfl, rfl⟩
  all_goals exact .inr (by decide)

/-- nought, whatever stands before it -/
theorem o_zero (x : Nat) (hx : x < 18446744073709551616) (nx : nn x = false) : (FloatKind.f64.format.order x 0 == some Ordering.eq) = decide (mg x = 0) := by
  rw [o_eq x 0 hx (by omega) nx (nn_small 0 (by omega))]
  have h0 : vl 0 = 0 := by decide
  rw [h0]
  unfold vl mg
  refine decide_eq_decide.2 ?_
  split <;> omega

theorem whole_en (m : Nat) (hm : m < 9007199254740992) : floatToIntVal .f64 (en m B) .u64 = some (m : Int) := by
  have h := enc_spec m B hm (by rw [B_eq]; omega)
  exact toNat_eq (en m B) m h.1 h.2 (by omega)
theorem whole_nw (m : Nat) (hm : m < 4503599627370496) : floatToIntVal .f64 (nw 1075 m) .u64 = some ((4503599627370496 + m : Nat) : Int) := by
  rw [nw_en 1075 m hm (by omega) (by omega)]
  exact whole_en _ (by omega)
theorem small_en (m : Nat) (hm : m < 4503599627370496) : m = en m 0 := (enc_small m hm).symm

theorem mg_split (x : Nat) (hx : x < 18446744073709551616) : (ng x = true ∧ x = mg x + 9223372036854775808) ∨ (ng x = false ∧ x = mg x) := by
  unfold ng mg
  by_cases h : 9223372036854775808 ≤ x
  · exact .inl ⟨by simp [h], by omega⟩
  · exact .inr ⟨by simp [h], by omega⟩
theorem nn_mg (x : Nat) : nn x = decide (9218868437227405312 < mg x) := rfl
theorem nn_of_le (x : Nat) (h : mg x ≤ 9218868437227405312) : nn x = false := by rw [nn_mg]; simp; omega
end Go.Proofs.Ytjjbiepmfngipaa.Fl
