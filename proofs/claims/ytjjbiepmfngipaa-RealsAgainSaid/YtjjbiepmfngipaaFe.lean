/-
  What the document's answer for bits comes by: twice a word, tests against one and two, less one. No Go in it.
-/
import Derived.Test.YtjjbiepmfngipaaFd
namespace Go.Proofs.Ytjjbiepmfngipaa.Fl
open Go

/-- twice r is not r -/
theorem dbl_ne (r : Nat) (h0 : 0 < r) (hr : r < 9218868437227405312) : ∃ d, floatBits .mul .f64 r 4611686018427387904 = some d ∧ (FloatKind.f64.format.order d r == some Ordering.eq) = false := by
  rcases Nat.lt_or_ge r 9214364837600034816 with h1 | h1
  · have hman := man_lt r
    have hex : ex r + 1 ≤ 2045 := by unfold ex; omega
    have h2 := mul_two (man r) (ex r) hman hex
    have e1 : en (man r) (ex r) = r := enc_rung r hr
    rw [e1] at h2
    refine ⟨_, h2, ?_⟩
    have hl := en_lt (man r) (ex r + 1) hman hex
    rw [s_eq _ r (by omega) (by omega)]
    refine decide_eq_false ?_
    intro hc
    have h3 := (enc_spec (man r) (ex r + 1) hman hex).2
    have h4 : enc (man r * 2 ^ (ex r + 1)) = r := hc
    rw [h4] at h3
    have hs := siz_pos h0
    have : siz r = man r * 2 ^ ex r := rfl
    rw [Nat.pow_succ, ← Nat.mul_assoc] at h3
    rw [this] at h3 hs
    generalize man r * 2 ^ ex r = z at *
    omega
  · refine ⟨_, dbl_big r h1 hr, ?_⟩
    rw [s_eq _ r (by omega) (by omega)]
    exact decide_eq_false (by omega)

theorem dbl_inf : floatBits .mul .f64 9218868437227405312 4611686018427387904 = some 9218868437227405312 := by decide

theorem sub_nw (m : Nat) (hm : m < 4503599627370496) : floatBits .sub .f64 (nw 1023 m) 4607182418800017408 = some (en m 1022) := by
  have := sub_one (nw 1023 m) (by unfold nw; omega) (by unfold nw; omega)
  rw [show nw 1023 m - 4607182418800017408 = m from by unfold nw; omega] at this
  exact this

/-- a tiny number, moved up to below one -/
theorem en_small_lt (r j : Nat) (hr : r < 4503599627370496) (hj : j ≤ 1022) : en r j < 4607182418800017408 := by
  have h1 := (enc_spec r j (by omega) (by omega)).2
  have h2 : siz 4607182418800017408 = 4503599627370496 * 2 ^ 1022 := by
    have a1 : man 4607182418800017408 = 4503599627370496 := by decide
    have a2 : ex 4607182418800017408 = 1022 := by decide
    unfold siz; rw [a1, a2]
  have h3 : siz (enc (r * 2 ^ j)) < siz 4607182418800017408 := by
    rw [h1, h2]
    calc r * 2 ^ j < 4503599627370496 * 2 ^ j := Nat.mul_lt_mul_of_pos_right hr (Nat.two_pow_pos j)
      _ ≤ 4503599627370496 * 2 ^ 1022 := Nat.mul_le_mul_left _ (Nat.pow_le_pow_right (by omega) hj)
  rcases Nat.lt_or_ge (en r j) 4607182418800017408 with h | h
  · exact h
  · exfalso
    rcases Nat.eq_or_lt_of_le h with h4 | h4
    · have : siz 4607182418800017408 = siz (en r j) := by rw [h4]
      have h5 : siz (en r j) = siz (enc (r * 2 ^ j)) := rfl
      omega
    · have := siz_mono h4
      have h5 : siz (en r j) = siz (enc (r * 2 ^ j)) := rfl
      omega

/-- the tests of a number against nought, and of what one divided by it is -/
theorem minus_neg (x : Nat) (hx : x < 18446744073709551616) (nx : nn x = false) (h1 : ng x = true) (h2 : mg x ≠ 0) : (FloatKind.f64.format.order x 0 == some Ordering.lt) = true := by
  rw [o_lt x 0 hx (by omega) nx (nn_small 0 (by omega))]
  have h0 : vl 0 = 0 := by decide
  rw [h0]
  unfold vl; unfold ng at h1; unfold mg at h2
  have h3 : 9223372036854775808 ≤ x := by simpa using h1
  rw [if_pos h3]
  exact decide_eq_true (by omega)
theorem minus_pos (x : Nat) (hx : x < 18446744073709551616) (nx : nn x = false) (h1 : ng x = false) : (FloatKind.f64.format.order x 0 == some Ordering.lt) = false := by
  rw [o_lt x 0 hx (by omega) nx (nn_small 0 (by omega))]
  have h0 : vl 0 = 0 := by decide
  rw [h0]
  unfold vl; unfold ng at h1
  have h3 : ¬ 9223372036854775808 ≤ x := by simpa using h1
  rw [if_neg h3]
  exact decide_eq_false (by omega)
theorem nought_of (x : Nat) (hx : x < 18446744073709551616) (h : mg x = 0) : (ng x = true ∧ x = 9223372036854775808) ∨ (ng x = false ∧ x = 0) := by
  rcases mg_split x hx with ⟨h1, h2⟩ | ⟨h1, h2⟩
  · exact .inl ⟨h1, by omega⟩
  · exact .inr ⟨h1, by omega⟩
theorem inv_pos : floatBits .quo .f64 4607182418800017408 0 = some 9218868437227405312 := div_one false
theorem inv_neg : floatBits .quo .f64 4607182418800017408 9223372036854775808 = some 18442240474082181120 := div_one true
theorem neg_mg (x : Nat) (hx : x < 18446744073709551616) (h : ng x = true) : Op.negFloat .f64 x = mg x := by
  rcases mg_split x hx with ⟨_, h2⟩ | ⟨h1, _⟩
  · have := neg_eq true (mg x) (mg_lt x)
    have e1 : wd true (mg x) = x := by unfold wd; simp; omega
    have e2 : wd (!true) (mg x) = mg x := by simp [wd]
    rw [e1, e2] at this
    exact this
  · rw [h] at h1; cases h1
end Go.Proofs.Ytjjbiepmfngipaa.Fl
