/-
  Plain facts on 64-bit words: masks, shifts and joins as sums and remainders; the document's answers for bits and rank as functions of a word. No Go in it.
-/
import Derived.Test.YtjjbiepmfngipaaFa
namespace Go.Proofs.Ytjjbiepmfngipaa.Fl
open Go

theorem p52 : (2 : Nat) ^ 52 = 4503599627370496 := by decide
theorem p63 : (2 : Nat) ^ 63 = 9223372036854775808 := by decide

theorem andnot_top (x : Nat) (h : x < 18446744073709551616) : bits .andNot .u64 (x : Int) 9223372036854775808 = ((mg x : Nat) : Int) := by
  have := u64_andNot_nat x 9223372036854775808 h (by omega)
  have e : (18446744073709551615 - 9223372036854775808 : Nat) = 2 ^ 63 - 1 := by decide
  rw [e, Nat.and_two_pow_sub_one_eq_mod] at this
  exact this

theorem and_top (x : Nat) (h : x < 18446744073709551616) : bits .and .u64 (x : Int) 9223372036854775808 = if ng x then 9223372036854775808 else 0 := by
  have := u64_and_nat x 9223372036854775808 h (by omega)
  have e : (9223372036854775808 : Nat) = 2 ^ 63 := by decide
  have h2 : x &&& 9223372036854775808 = if ng x then 9223372036854775808 else 0 := by
    rw [e, nat_bit, ← e]
    unfold ng
    by_cases hc : 9223372036854775808 ≤ x
    · simp only [hc, decide_true, if_true]; omega
    · simp only [hc, decide_false, Bool.false_eq_true, if_false]; omega
  have h3 : bits .and .u64 (x : Int) 9223372036854775808 = ((x &&& 9223372036854775808 : Nat) : Int) := this
  rw [h3, h2]
  split <;> rfl

theorem or_top (x : Nat) (h : x < 9223372036854775808) : bits .or .u64 (x : Int) 9223372036854775808 = ((x + 9223372036854775808 : Nat) : Int) := by
  have := u64_or_nat x 9223372036854775808 (by omega) (by omega)
  have h2 : x ||| 9223372036854775808 = x + 9223372036854775808 := by
    rw [Nat.or_comm, nat_join 63 9223372036854775808 x (by decide) (by rw [p63]; exact h), Nat.add_comm]
  rw [h2] at this
  exact this

theorem and_part (x : Nat) (h : x < 18446744073709551616) : bits .and .u64 (x : Int) 4503599627370495 = ((x % 4503599627370496 : Nat) : Int) := by
  have := u64_and_nat x 4503599627370495 h (by omega)
  have e : (4503599627370495 : Nat) = 2 ^ 52 - 1 := by decide
  have h2 : x &&& 4503599627370495 = x % 4503599627370496 := by
    rw [e, Nat.and_two_pow_sub_one_eq_mod]
  rw [h2] at this
  exact this

theorem and_exp (x : Nat) (h : x < 18446744073709551616) : bits .and .u64 ((x : Int) / 4503599627370496) 2047 = ((x / 4503599627370496 % 2048 : Nat) : Int) := by
  have := u64_and_nat (x / 4503599627370496) 2047 (by omega) (by omega)
  rw [nat_mask11] at this
  have e : (x : Int) / 4503599627370496 = ((x / 4503599627370496 : Nat) : Int) := by omega
  rw [e]; exact this

theorem or_hidden (m : Nat) (h : m < 4503599627370496) : bits .or .u64 4503599627370496 (m : Int) = ((4503599627370496 + m : Nat) : Int) := by
  have := u64_or_nat 4503599627370496 m (by omega) (by omega)
  rw [nat_join 52 4503599627370496 m (by decide) (by rw [p52]; exact h)] at this
  exact this

/-- e, and what stands behind it, as one -/
theorem or_join (e m : Nat) (he : e ≤ 2047) (hm : m < 4503599627370496) : bits .or .u64 ((e * 4503599627370496 : Nat) : Int) (m : Int) = ((e * 4503599627370496 + m : Nat) : Int) := by
  have := u64_or_nat (e * 4503599627370496) m (by omega) (by omega)
  rw [nat_join 52 (e * 4503599627370496) m (by rw [p52]; omega) (by rw [p52]; exact hm)] at this
  exact this

theorem not_u64 (x : Nat) (h : x < 18446744073709551616) : bits .xor .u64 18446744073709551615 (x : Int) = ((18446744073709551615 - x : Nat) : Int) := by
  have h1 := u64_xor_nat 18446744073709551615 x (by omega) h
  have h2 : 18446744073709551615 ^^^ x = 18446744073709551615 - x := by
    have := BitVec.toNat_not (x := BitVec.ofNat 64 x)
    have e1 : (BitVec.ofNat 64 x).toNat = x := by simp; omega
    rw [e1] at this
    have h3 : (~~~ (BitVec.ofNat 64 x)) = BitVec.allOnes 64 ^^^ BitVec.ofNat 64 x := by rw [BitVec.not_def]
    rw [h3, BitVec.toNat_xor, e1, BitVec.toNat_allOnes] at this
    have e2 : (2 : Nat) ^ 64 - 1 = 18446744073709551615 := by decide
    have e3 : (2 : Nat) ^ 64 - 1 - x = 18446744073709551615 - x := by rw [e2]
    rw [e3, e2] at this
    exact this
  rw [h2] at h1
  exact h1

/-- the kinds -/
def kd (x : Nat) : Int := if nn x then 4 else if mg x = 9218868437227405312 then 3 else if mg x = 0 then 0 else if mg x < 4503599627370496 then 1 else 2
/-- may these be bits of a number? -/
def cn (u : Nat) : Bool := decide (u / 4503599627370496 % 2048 ≠ 2047 ∨ u % 4503599627370496 = 0 ∨ u = 9221120237041090560)
/-- the word that the program makes of u -/
def fl (u : Nat) : Nat := if nn u then (if ng u then 18444492273895866369 else 9221120237041090561) else u
/-- the key -/
def ky (x : Nat) : Nat := if cb x < 9223372036854775808 then cb x + 9223372036854775808 else 18446744073709551615 - cb x
/-- what has the key k, as bits -/
def uk (k : Nat) : Nat := if k < 9223372036854775808 then 18446744073709551615 - k else k - 9223372036854775808

theorem mg_lt (x : Nat) : mg x < 9223372036854775808 := Nat.mod_lt _ (by omega)
theorem cb_lt (x : Nat) (h : x < 18446744073709551616) : cb x < 18446744073709551616 := by unfold cb; split <;> omega
theorem fl_lt (x : Nat) (h : x < 18446744073709551616) : fl x < 18446744073709551616 := by unfold fl; split <;> (try split) <;> omega
theorem ky_lt (x : Nat) : ky x < 18446744073709551616 := by unfold ky; split <;> omega
theorem uk_lt (k : Nat) (h : k < 18446744073709551616) : uk k < 18446744073709551616 := by unfold uk; split <;> omega
end Go.Proofs.Ytjjbiepmfngipaa.Fl
