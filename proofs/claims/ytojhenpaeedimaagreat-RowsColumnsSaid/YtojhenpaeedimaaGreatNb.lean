/-
 Plain facts on 64-bit words: masks, shifts and joins as sums and remainders; the document's answers for bits and rank as functions of a word. No Go in it.
 A whole number times a power of two, as a word: 'en m t'; what doubling and halving by powers do to it; the rows of powers. No Go in it.
 Words with a field e and a part m; tests of words without a minus; whole numbers out of words. No Go in it.
 What the document's answer for bits comes by: twice a word, tests against one and two, less one. No Go in it.
 Plain facts for the statements of layer 1. No Go in it.
 Contracts of the small functions that bits leans on (math's, and the two of the document's answer that take nothing), and of bits.powers.
 The contract of bits.powers: the ten rows of powers of two.
-/
import Derived.Test.YtojhenpaeedimaaGreatFa
import Derived.Test.YtojhenpaeedimaaGreatRows
import Derived.WalkKit
import Derived.WalkLawsBesides
import Derived.Lib.Hide
import Derived.Outline
section
namespace Go.Proofs.YtojhenpaeedimaaGreat.Fl
open Go
theorem p52 : (2 : Nat) ^ 52 = 4503599627370496 := by decide
theorem p63 : (2 : Nat) ^ 63 = 9223372036854775808 := by decide
theorem andnot_top (x : Nat) (h : x < 18446744073709551616) : bits .andNot .u64 (x : Int) 9223372036854775808 = ((mg x : Nat) : Int) := by
 have := u64_andNot_nat x 9223372036854775808 h (by omega)
 have e : (18446744073709551615 - 9223372036854775808 : Nat) = 2 ^ 63 - 1 := by decide
 rw [e, Nat.and_two_pow_sub_one_eq_mod] at this
 exact this
theorem and_top (x : Nat) (h : x < 18446744073709551616) : bits .and .u64 (x : Int) 9223372036854775808 = if ng x then 9223372036854775808 else 0 := by
 have := u64_and_nat x 9223372036854775808 h (by omega)
 have e : (9223372036854775808 : Nat) = 2 ^ 63 := by decide
 have h2 : x &&& 9223372036854775808 = if ng x then 9223372036854775808 else 0 := by
  rw [e, nat_bit, ← e]
  unfold ng
  by_cases hc : 9223372036854775808 ≤ x
  ·simp only [hc, decide_true, if_true]; omega
  ·simp only [hc, decide_false, Bool.false_eq_true, if_false]; omega
 have h3 : bits .and .u64 (x : Int) 9223372036854775808 = ((x &&& 9223372036854775808 : Nat) : Int) := this
 rw [h3, h2]
 split <;> rfl
theorem or_top (x : Nat) (h : x < 9223372036854775808) : bits .or .u64 (x : Int) 9223372036854775808 = ((x + 9223372036854775808 : Nat) : Int) := by
 have := u64_or_nat x 9223372036854775808 (by omega) (by omega)
 have h2 : x ||| 9223372036854775808 = x + 9223372036854775808 := by
  rw [Nat.or_comm, nat_join 63 9223372036854775808 x (by decide) (by rw [p63]; exact h), Nat.add_comm]
 rw [h2] at this
 exact this
theorem and_part (x : Nat) (h : x < 18446744073709551616) : bits .and .u64 (x : Int) 4503599627370495 = ((x % 4503599627370496 : Nat) : Int) := by
 have := u64_and_nat x 4503599627370495 h (by omega)
 have e : (4503599627370495 : Nat) = 2 ^ 52 - 1 := by decide
 have h2 : x &&& 4503599627370495 = x % 4503599627370496 := by
  rw [e, Nat.and_two_pow_sub_one_eq_mod]
 rw [h2] at this
 exact this
theorem and_exp (x : Nat) (h : x < 18446744073709551616) : bits .and .u64 ((x : Int) / 4503599627370496) 2047 = ((x / 4503599627370496 % 2048 : Nat) : Int) := by
 have := u64_and_nat (x / 4503599627370496) 2047 (by omega) (by omega)
 rw [nat_mask11] at this
 have e : (x : Int) / 4503599627370496 = ((x / 4503599627370496 : Nat) : Int) := by omega
 rw [e]; exact this
theorem or_hidden (m : Nat) (h : m < 4503599627370496) : bits .or .u64 4503599627370496 (m : Int) = ((4503599627370496 + m : Nat) : Int) := by
 have := u64_or_nat 4503599627370496 m (by omega) (by omega)
 rw [nat_join 52 4503599627370496 m (by decide) (by rw [p52]; exact h)] at this
 exact this
/-- e, and what stands behind it, as one -/
theorem or_join (e m : Nat) (he : e ≤ 2047) (hm : m < 4503599627370496) : bits .or .u64 ((e * 4503599627370496 : Nat) : Int) (m : Int) = ((e * 4503599627370496 + m : Nat) : Int) := by
 have := u64_or_nat (e * 4503599627370496) m (by omega) (by omega)
 rw [nat_join 52 (e * 4503599627370496) m (by rw [p52]; omega) (by rw [p52]; exact hm)] at this
 exact this
/-- the kinds -/
def kd (x : Nat) : Int := if nn x then 4 else if mg x = 9218868437227405312 then 3 else if mg x = 0 then 0 else if mg x < 4503599627370496 then 1 else 2
/-- may these be bits of a number? -/
def cn (u : Nat) : Bool := decide (u / 4503599627370496 % 2048 ≠ 2047 ∨ u % 4503599627370496 = 0 ∨ u = 9221120237041090560)
/-- the word that the program makes of u -/
def fl (u : Nat) : Nat := if nn u then (if ng u then 18444492273895866369 else 9221120237041090561) else u
theorem mg_lt (x : Nat) : mg x < 9223372036854775808 := Nat.mod_lt _ (by omega)
theorem cb_lt (x : Nat) (h : x < 18446744073709551616) : cb x < 18446744073709551616 := by unfold cb; split <;> omega
theorem fl_lt (x : Nat) (h : x < 18446744073709551616) : fl x < 18446744073709551616 := by unfold fl; split <;> (try split) <;> omega
end Go.Proofs.YtojhenpaeedimaaGreat.Fl
end
section
namespace Go.Proofs.YtojhenpaeedimaaGreat.Fl
open Go
/-- the word of m times 2^(t - 1074) -/
def en (m t : Nat) : Nat := enc (m * 2 ^ t)
theorem en_lt (m t : Nat) (hm : m < 9007199254740992) (ht : t ≤ 2045) : en m t < 9218868437227405312 := enc_lt m t hm ht
/-- row k's power -/
def pw (k : Nat) : Int := if k = 0 then 512 else if k = 1 then 256 else if k = 2 then 128 else if k = 3 then 64 else if k = 4 then 32 else if k = 5 then 16 else if k = 6 then 8 else if k = 7 then 4 else if k = 8 then 2 else 1
def pUp (k : Nat) : Nat := (1023 + (pw k).toNat) * 4503599627370496
def pDn (k : Nat) : Nat := (1023 - (pw k).toNat) * 4503599627370496
/-- what the power is below of, at the head of row k -/
def bd (k : Nat) : Int := if k = 0 then 4096 else pw (k - 1)
theorem bd_succ (k : Nat) : bd (k + 1) = pw k := by simp [bd]
theorem pw_bd (k : Nat) : 1 ≤ pw k ∧ pw k ≤ 512 := by unfold pw; repeat' split <;> omega
theorem bd_zero : bd 0 = 4096 := by decide
theorem bd_ten : bd 10 = 1 := by decide
theorem mul_up (m s k : Nat) (hm : m < 9007199254740992) (hs : (s : Int) + pw k ≤ 2045) :
  floatBits .mul .f64 (en m s) (pUp k) = some (en m (s + (pw k).toNat)) := by
 have hp := pw_bd k
 exact mul_enc m s (s + (pw k).toNat) (1023 + (pw k).toNat) hm (by omega) (by omega) (by omega) (by omega) (by omega)
theorem mul_dn (m s k : Nat) (hm : m < 9007199254740992) (hs : s ≤ 2045) (hs2 : pw k ≤ (s : Int)) :
  floatBits .mul .f64 (en m s) (pDn k) = some (en m (s - (pw k).toNat)) := by
 have hp := pw_bd k
 exact mul_enc m s (s - (pw k).toNat) (1023 - (pw k).toNat) hm (by omega) (by omega) (by omega) (by omega) (by omega)
theorem mul_two (m s : Nat) (hm : m < 9007199254740992) (hs : s + 1 ≤ 2045) : floatBits .mul .f64 (en m s) 4611686018427387904 = some (en m (s + 1)) :=
 mul_enc m s (s + 1) 1024 hm (by omega) (by omega) (by omega) (by omega) (by omega)
end Go.Proofs.YtojhenpaeedimaaGreat.Fl
end
section
namespace Go.Proofs.YtojhenpaeedimaaGreat.Fl
open Go
/-- the word of field e and part m -/
def nw (e m : Nat) : Nat := e * 4503599627370496 + m
theorem nw_lt (e m : Nat) (he : e ≤ 2046) (hm : m < 4503599627370496) : nw e m < 9218868437227405312 := by unfold nw; omega
theorem nw_en (e m : Nat) (hm : m < 4503599627370496) (he1 : 1 ≤ e) (he : e ≤ 2046) : nw e m = en (4503599627370496 + m) (e - 1) := (enc_norm m e hm he1 he).symm
theorem mul_nw (e e' k m : Nat) (hm : m < 4503599627370496) (h1 : 1 ≤ e) (h2 : e ≤ 2046) (h3 : 1 ≤ e') (h4 : e' ≤ 2046) (hk1 : 1 ≤ k) (hk2 : k ≤ 2046) (hk : k + e = 1023 + e') :
  floatBits .mul .f64 (nw e m) (k * 4503599627370496) = some (nw e' m) := by
 rw [nw_en e m hm h1 h2, nw_en e' m hm h3 h4]
 exact mul_enc _ (e - 1) (e' - 1) k (by omega) (by omega) (by omega) hk1 hk2 (by omega)
section
variable (x y : Nat) (hx : x ≤ 9218868437227405312) (hy : y ≤ 9218868437227405312)
include hx hy
theorem s_ge : (FloatKind.f64.format.order x y == some Ordering.gt || FloatKind.f64.format.order x y == some Ordering.eq) = decide (y ≤ x) := by
 rw [o_ge x y (by omega) (by omega) (nn_small x hx) (nn_small y hy), vl_small x (by omega), vl_small y (by omega)]
 exact decide_eq_decide.2 (by omega)
theorem s_lt : (FloatKind.f64.format.order x y == some Ordering.lt) = decide (x < y) := by
 rw [o_lt x y (by omega) (by omega) (nn_small x hx) (nn_small y hy), vl_small x (by omega), vl_small y (by omega)]
 exact decide_eq_decide.2 (by omega)
theorem s_eq : (FloatKind.f64.format.order x y == some Ordering.eq) = decide (x = y) := by
 rw [o_eq x y (by omega) (by omega) (nn_small x hx) (nn_small y hy), vl_small x (by omega), vl_small y (by omega)]
 exact decide_eq_decide.2 (by omega)
end
theorem bd_dbl (k : Nat) (hk : k < 10) : (k = 0 ∧ pw k = 512) ∨ bd k = 2 * pw k := by
 have h : k = 0 ∨ k = 1 ∨ k = 2 ∨ k = 3 ∨ k = 4 ∨ k = 5 ∨ k = 6 ∨ k = 7 ∨ k = 8 ∨ k = 9 := by omega
 rcases h with rfl | rfl | rfl | rfl | rfl | rfl | rfl | rfl | rfl | rfl
 ·exact .inl ⟨rfl, rfl⟩
 all_goals exact .inr (by decide)
/-- nought, whatever stands before it -/
theorem o_zero (x : Nat) (hx : x < 18446744073709551616) (nx : nn x = false) : (FloatKind.f64.format.order x 0 == some Ordering.eq) = decide (mg x = 0) := by
 rw [o_eq x 0 hx (by omega) nx (nn_small 0 (by omega))]
 have h0 : vl 0 = 0 := by decide
 rw [h0]
 unfold vl mg
 refine decide_eq_decide.2 ?_
 split <;> omega
theorem whole_en (m : Nat) (hm : m < 9007199254740992) : floatToIntVal .f64 (en m B) .u64 = some (m : Int) := by
 have h := enc_spec m B hm (by rw [B_eq]; omega)
 exact toNat_eq (en m B) m h.1 h.2 (by omega)
theorem whole_nw (m : Nat) (hm : m < 4503599627370496) : floatToIntVal .f64 (nw 1075 m) .u64 = some ((4503599627370496 + m : Nat) : Int) := by
 rw [nw_en 1075 m hm (by omega) (by omega)]
 exact whole_en _ (by omega)
theorem small_en (m : Nat) (hm : m < 4503599627370496) : m = en m 0 := (enc_small m hm).symm
theorem mg_split (x : Nat) (hx : x < 18446744073709551616) : (ng x = true ∧ x = mg x + 9223372036854775808) ∨ (ng x = false ∧ x = mg x) := by
 unfold ng mg
 by_cases h : 9223372036854775808 ≤ x
 ·exact .inl ⟨by simp [h], by omega⟩
 ·exact .inr ⟨by simp [h], by omega⟩
theorem nn_mg (x : Nat) : nn x = decide (9218868437227405312 < mg x) := rfl
end Go.Proofs.YtojhenpaeedimaaGreat.Fl
end
section
namespace Go.Proofs.YtojhenpaeedimaaGreat.Fl
open Go
/-- twice r is not r -/
theorem dbl_ne (r : Nat) (h0 : 0 < r) (hr : r < 9218868437227405312) : ∃ d, floatBits .mul .f64 r 4611686018427387904 = some d ∧ (FloatKind.f64.format.order d r == some Ordering.eq) = false := by
 rcases Nat.lt_or_ge r 9214364837600034816 with h1 | h1
 ·have hman := man_lt r
  have hex : ex r + 1 ≤ 2045 := by unfold ex; omega
  have h2 := mul_two (man r) (ex r) hman hex
  have e1 : en (man r) (ex r) = r := enc_rung r hr
  rw [e1] at h2
  refine ⟨_, h2, ?_⟩
  have hl := en_lt (man r) (ex r + 1) hman hex
  rw [s_eq _ r (by omega) (by omega)]
  refine decide_eq_false ?_
  intro hc
  have h3 := (enc_spec (man r) (ex r + 1) hman hex).2
  have h4 : enc (man r * 2 ^ (ex r + 1)) = r := hc
  rw [h4] at h3
  have hs := siz_pos h0
  have : siz r = man r * 2 ^ ex r := rfl
  rw [Nat.pow_succ, ← Nat.mul_assoc] at h3
  rw [this] at h3 hs
  generalize man r * 2 ^ ex r = z at *
  omega
 ·refine ⟨_, dbl_big r h1 hr, ?_⟩
  rw [s_eq _ r (by omega) (by omega)]
  exact decide_eq_false (by omega)
theorem dbl_inf : floatBits .mul .f64 9218868437227405312 4611686018427387904 = some 9218868437227405312 := by decide
theorem sub_nw (m : Nat) (hm : m < 4503599627370496) : floatBits .sub .f64 (nw 1023 m) 4607182418800017408 = some (en m 1022) := by
 have := sub_one (nw 1023 m) (by unfold nw; omega) (by unfold nw; omega)
 rw [show nw 1023 m - 4607182418800017408 = m from by unfold nw; omega] at this
 exact this
/-- a tiny number, moved up to below one -/
theorem en_small_lt (r j : Nat) (hr : r < 4503599627370496) (hj : j ≤ 1022) : en r j < 4607182418800017408 := by
 have h1 := (enc_spec r j (by omega) (by omega)).2
 have h2 : siz 4607182418800017408 = 4503599627370496 * 2 ^ 1022 := by
  have a1 : man 4607182418800017408 = 4503599627370496 := by decide
  have a2 : ex 4607182418800017408 = 1022 := by decide
  unfold siz; rw [a1, a2]
 have h3 : siz (enc (r * 2 ^ j)) < siz 4607182418800017408 := by
  rw [h1, h2]
  calc r * 2 ^ j < 4503599627370496 * 2 ^ j := Nat.mul_lt_mul_of_pos_right hr (Nat.two_pow_pos j)
   _ ≤ 4503599627370496 * 2 ^ 1022 := Nat.mul_le_mul_left _ (Nat.pow_le_pow_right (by omega) hj)
 rcases Nat.lt_or_ge (en r j) 4607182418800017408 with h | h
 ·exact h
 ·exfalso
  rcases Nat.eq_or_lt_of_le h with h4 | h4
  ·have : siz 4607182418800017408 = siz (en r j) := by rw [h4]
   have h5 : siz (en r j) = siz (enc (r * 2 ^ j)) := rfl
   omega
  ·have := siz_mono h4
   have h5 : siz (en r j) = siz (enc (r * 2 ^ j)) := rfl
   omega
/-- the tests of a number against nought, and of what one divided by it is -/
theorem minus_neg (x : Nat) (hx : x < 18446744073709551616) (nx : nn x = false) (h1 : ng x = true) (h2 : mg x ≠ 0) : (FloatKind.f64.format.order x 0 == some Ordering.lt) = true := by
 rw [o_lt x 0 hx (by omega) nx (nn_small 0 (by omega))]
 have h0 : vl 0 = 0 := by decide
 rw [h0]
 unfold vl; unfold ng at h1; unfold mg at h2
 have h3 : 9223372036854775808 ≤ x := by simpa using h1
 rw [if_pos h3]
 exact decide_eq_true (by omega)
theorem minus_pos (x : Nat) (hx : x < 18446744073709551616) (nx : nn x = false) (h1 : ng x = false) : (FloatKind.f64.format.order x 0 == some Ordering.lt) = false := by
 rw [o_lt x 0 hx (by omega) nx (nn_small 0 (by omega))]
 have h0 : vl 0 = 0 := by decide
 rw [h0]
 unfold vl; unfold ng at h1
 have h3 : ¬ 9223372036854775808 ≤ x := by simpa using h1
 rw [if_neg h3]
 exact decide_eq_false (by omega)
theorem nought_of (x : Nat) (hx : x < 18446744073709551616) (h : mg x = 0) : (ng x = true ∧ x = 9223372036854775808) ∨ (ng x = false ∧ x = 0) := by
 rcases mg_split x hx with ⟨h1, h2⟩ | ⟨h1, h2⟩
 ·exact .inl ⟨h1, by omega⟩
 ·exact .inr ⟨h1, by omega⟩
theorem inv_pos : floatBits .quo .f64 4607182418800017408 0 = some 9218868437227405312 := div_one false
theorem inv_neg : floatBits .quo .f64 4607182418800017408 9223372036854775808 = some 18442240474082181120 := div_one true
theorem neg_mg (x : Nat) (hx : x < 18446744073709551616) (h : ng x = true) : Op.negFloat .f64 x = mg x := by
 rcases mg_split x hx with ⟨_, h2⟩ | ⟨h1, _⟩
 ·have := neg_eq true (mg x) (mg_lt x)
  have e1 : wd true (mg x) = x := by unfold wd; simp; omega
  have e2 : wd (!true) (mg x) = mg x := by simp [wd]
  rw [e1, e2] at this
  exact this
 ·rw [h] at h1; cases h1
end Go.Proofs.YtojhenpaeedimaaGreat.Fl
end
section
namespace Go.Proofs.YtojhenpaeedimaaGreat.Fl
open Go
theorem fl_num {u : Nat} (h : nn u = false) : fl u = u := by unfold fl; rw [h]; rfl
theorem cb_num {u : Nat} (h : nn u = false) : cb u = u := by unfold cb; rw [h]; rfl
theorem cb_nan {u : Nat} (h : nn u = true) : cb u = 9221120237041090560 := by unfold cb; rw [h]; rfl
theorem nn_iff' (u : Nat) : nn u = false ↔ u % 9223372036854775808 ≤ 9218868437227405312 := by unfold nn; simp
theorem cn_iff (u : Nat) (hu : u < 18446744073709551616) : cn u = true ↔ (nn u = false ∨ u = 9221120237041090560) := by
 rw [nn_iff']
 unfold cn
 rw [decide_eq_true_eq]
 omega
theorem cb_fl_cn {u : Nat} (hu : u < 18446744073709551616) (h : cn u = true) : cb (fl u) = u := by
 rcases (cn_iff u hu).1 h with h1 | h1
 ·rw [fl_num h1, cb_num h1]
 ·subst h1; decide
theorem cn_cb {x : Nat} (hx : x < 18446744073709551616) : cn (cb x) = true := by
 rw [cn_iff _ (cb_lt x hx)]
 cases hn : nn x
 ·left; rw [cb_num hn]; exact hn
 ·right; exact cb_nan hn
end Go.Proofs.YtojhenpaeedimaaGreat.Fl
end
section
namespace Go.Proofs.YtojhenpaeedimaaGreat
open Go.RowKit
open Fl
set_option maxRecDepth 100000
/-- a float is stored in its one cell -/
@[go_sem] theorem run_store_float {P : Program} (w : World) (a : Addr) (m : Mode) (k : FloatKind) (x : Nat) : (store a (.float k x) m).run P w = stored P w a (.float k x) m := run_store P w a _ m rfl
/-- the minus before a float -/
@[go_sem] theorem run_neg_float {P : Program} (w : World) (x : Nat) : (Op.unary .neg (.float .f64 x)).run P w = .ok (.float .f64 (Op.negFloat .f64 x)) w := rfl
theorem bits_of (x : Nat) (w : World) : (callFunc 206 #[.float .f64 x]).run Tryz.prog w = .ok (.value (.int .u64 x)) w := by
 rw [run_callFunc_extern Tryz.func206 (by kernel_rfl) (by kernel_rfl) (by kernel_rfl) (e := Extern.MathFloatBits.float64bits) (by kernel_rfl)]
 rfl
theorem from_bits (n : Int) (w : World) : (callFunc 205 #[.int .u64 n]).run Tryz.prog w = .ok (.value (.float .f64 n.toNat)) w := by
 rw [run_callFunc_extern Tryz.func205 (by kernel_rfl) (by kernel_rfl) (by kernel_rfl) (e := Extern.MathFloatBits.float64frombits) (by kernel_rfl)]
 rfl
theorem isNaN_c (x : Nat) (hx : x < 18446744073709551616) (w : World) :
  Calls Tryz.prog 202 #[.float .f64 x] w fun e w' => e = .returned (.bool (nn x)) ∧ w = w' := by
 have h1 := o_self x hx
 go_enter Tryz.func202, Tryz.ntmps202
 go_wp2
 go_ret
 exact ⟨rfl, rfl⟩
theorem abs_c (x : Nat) (hx : x < 18446744073709551616) (w : World) :
  Calls Tryz.prog 169 #[.float .f64 x] w fun e w' => e = .returned (.float .f64 (mg x)) ∧ w = w' := by
 have h1 := bits_of x
 have h2 := andnot_top x hx
 have h3 := from_bits ((mg x : Nat) : Int)
 go_enter Tryz.func169, Tryz.ntmps169
 go_wp2
 go_ret
 exact ⟨rfl, rfl⟩
theorem isInf_c (x : Nat) (hx : x < 18446744073709551616) (w : World) :
  Calls Tryz.prog 203 #[.float .f64 x, .int .i64 0] w fun e w' => e = .returned (.bool (decide (mg x = 9218868437227405312))) ∧ w = w' := by
 have hm := mg_lt x
 have h1 : (FloatKind.f64.format.order (mg x) 9218868437227405311 == some Ordering.gt) = decide (mg x = 9218868437227405312) := by
  cases h : nn (mg x)
  ·have hq : mg x ≤ 9218868437227405312 := by
    unfold nn at h; rw [Nat.mod_eq_of_lt hm] at h; simpa using h
   rw [o_gt (mg x) _ (by omega) (by omega) h (nn_small _ (by omega)), vl_small _ hm, vl_small _ (by omega)]
   exact decide_eq_decide.2 (by omega)
  ·rw [order_nn_left (mg x) _ (by omega) h]
   have hq : 9218868437227405312 < mg x := by
    unfold nn at h; rw [Nat.mod_eq_of_lt hm] at h; simpa using h
   have : ¬ mg x = 9218868437227405312 := by omega
   rw [decide_eq_false this]; rfl
 go_enter Tryz.func203, Tryz.ntmps203
 go_wp2_with fail
 refine (abs_c x hx _).mono ?_
 rintro e w' ⟨rfl, rfl⟩
 go_wp2
 go_ret
 exact ⟨rfl, rfl⟩
theorem signbit_c (x : Nat) (hx : x < 18446744073709551616) (w : World) :
  Calls Tryz.prog 207 #[.float .f64 x] w fun e w' => e = .returned (.bool (ng x)) ∧ w = w' := by
 have h1 := bits_of x
 have h2 : decide (wrap64 (x : Int) < 0) = ng x := by
  unfold wrap64 ng
  exact decide_eq_decide.2 (by omega)
 go_enter Tryz.func207, Tryz.ntmps207
 go_wp2
 go_ret
 exact ⟨rfl, rfl⟩
theorem nan_c (w : World) :
  Calls Tryz.prog 222 #[] w fun e w' => e = .returned (.float .f64 9221120237041090561) ∧ w = w' := by
 have h3 := from_bits 9221120237041090561
 go_enter Tryz.func222, Tryz.ntmps222
 go_wp2
 go_ret
 exact ⟨rfl, rfl⟩
theorem inf_c (w : World) :
  Calls Tryz.prog 223 #[.int .i64 1] w fun e w' => e = .returned (.float .f64 9218868437227405312) ∧ w = w' := by
 have h3 := from_bits 9218868437227405312
 go_enter Tryz.func223, Tryz.ntmps223
 go_wp2
 go_ret
 exact ⟨rfl, rfl⟩
theorem top_c (w : World) :
  Calls Tryz.prog 116 #[] w fun e w' => e = .returned (.int .u64 9223372036854775808) ∧ w = w' := by
 go_enter Tryz.func116, Tryz.ntmps116
 go_wp2
 go_ret
 exact ⟨rfl, rfl⟩
theorem none_c (w : World) :
  Calls Tryz.prog 114 #[] w fun e w' => e = .returned (.int .u64 9221120237041090560) ∧ w = w' := by
 go_enter Tryz.func114, Tryz.ntmps114
 go_wp2
 go_ret
 exact ⟨rfl, rfl⟩
end Go.Proofs.YtojhenpaeedimaaGreat
end
section
namespace Go.Proofs.YtojhenpaeedimaaGreat
open Go.RowKit
open Fl
set_option maxRecDepth 100000
/-- the cells of the rows -/
def powCells : Array Value := #[.int .i64 512, .float .f64 6913025428013711360, .float .f64 2301339409586323456, .int .i64 256, .float .f64 5760103923406864384, .float .f64 3454260914193170432,
 .int .i64 128, .float .f64 5183643171103440896, .float .f64 4030721666496593920, .int .i64 64, .float .f64 4895412794951729152, .float .f64 4318952042648305664,
 .int .i64 32, .float .f64 4751297606875873280, .float .f64 4463067230724161536, .int .i64 16, .float .f64 4679240012837945344, .float .f64 4535124824762089472,
 .int .i64 8, .float .f64 4643211215818981376, .float .f64 4571153621781053440, .int .i64 4, .float .f64 4625196817309499392, .float .f64 4589168020290535424,
 .int .i64 2, .float .f64 4616189618054758400, .float .f64 4598175219545276416, .int .i64 1, .float .f64 4611686018427387904, .float .f64 4602678819172646912]
def powRows : Value := .agg powCells
/-- one row, as it is built -/
def powRow (a : Int) (x y : Nat) : Value := .agg #[.int .i64 a, .float .f64 x, .float .f64 y]
theorem build_row (a : Int) (x y : Nat) (w : World) : (Instr.build 216 #[(0, .int .i64 a), (1, .float .f64 x), (2, .float .f64 y)]).run Tryz.prog w = .ok (powRow a x y) w :=
 run_build w 216 _ _ (by kernel_rfl)
theorem build_all (w : World) : (Instr.build 217 #[(0, powRow 512 6913025428013711360 2301339409586323456), (1, powRow 256 5760103923406864384 3454260914193170432), (2, powRow 128 5183643171103440896 4030721666496593920),
  (3, powRow 64 4895412794951729152 4318952042648305664), (4, powRow 32 4751297606875873280 4463067230724161536), (5, powRow 16 4679240012837945344 4535124824762089472), (6, powRow 8 4643211215818981376 4571153621781053440),
  (7, powRow 4 4625196817309499392 4589168020290535424), (8, powRow 2 4616189618054758400 4598175219545276416), (9, powRow 1 4611686018427387904 4602678819172646912)]).run Tryz.prog w = .ok powRows w :=
 run_build w 217 _ _ (by kernel_rfl)
theorem below_setRow1 {B g : Nat} {w0 w : World} (hb : Below B w0 w) (hBg : B ≤ g) (cs : Array Value) : Below B w0 (w.setRow g cs) := by
 refine ⟨hb.os, hb.tape, hb.output, by rw [size_setRow]; exact hb.size, fun k hk => ?_⟩
 rw [setRow_other w g k cs (by omega)]
 exact hb.block k hk
theorem powers_c (w : World) :
  Calls Tryz.prog 204 #[] w fun e w' => e = .returned powRows ∧ Below w.heap.size w w' := by
 have b1 := build_row
 have b2 := build_all
 go_enter Tryz.func204, Tryz.ntmps204
 go_wp2_with (refine wpList_store_row rfl _ _ _ rfl w.heap.size powCells rfl rfl _ _ (heap_alloc_new _ _) (by kernel_rfl) (by kernel_rfl) (by kernel_rfl) ?_)
 refine bodyPost_ret (v := powRows) (results_cell_row Tryz.results204 _ _ w.heap.size 217 powCells (0, 0) _ rfl (setRow_heap _ _ _ _ _ _ (heap_alloc_new _ _)) Tryz.underlying217 (by kernel_rfl) (by kernel_rfl)) rfl ⟨rfl, ?_⟩
 exact below_setRow1 ((Below.refl _ _).alloc (Nat.le_refl _) _) (Nat.le_refl _) _
end Go.Proofs.YtojhenpaeedimaaGreat
end
