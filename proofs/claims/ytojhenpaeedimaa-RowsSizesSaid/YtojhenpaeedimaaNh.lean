/-
 Contracts of bits.Canon, bits.Bits, bits.Same.
 Contracts of the document's answer for layer 1: Minus, Bits.
 Contract of the document's answer for layer 1: Bits. By where the number lies: no number, nought, endless, plain from one on, plain below one, tiny.
-/
import Derived.Test.YtojhenpaeedimaaNe
import Derived.Test.YtojhenpaeedimaaFf
section
namespace Go.Proofs.Ytojhenpaeedimaa
open Go.RowKit
open Fl
set_option maxRecDepth 100000
theorem canon_c (u : Nat) (hu : u < 18446744073709551616) (w : World) :
  Calls Try.prog 87 #[.int .u64 (u : Int)] w fun e w' => e = .returned (.bool (cn u)) ∧ w = w' := by
 have h1 := and_exp u hu
 have h2 := and_part u hu
 have hc : cn u = (!(((u / 4503599627370496 % 2048 : Nat) : Int) == 2047) || (((u % 4503599627370496 : Nat) : Int) == 0) || ((u : Int) == 9221120237041090560)) := by
  unfold cn
  rw [Bool.eq_iff_iff]
  simp only [decide_eq_true_eq, Bool.or_eq_true, Bool.not_eq_true', beq_iff_eq, beq_eq_false_iff_ne]
  omega
 rw [hc]
 clear hc
 generalize u / 4503599627370496 % 2048 = a at *
 generalize u % 4503599627370496 = b at *
 by_cases k1 : ((a : Int) == 2047) = true
 ·have k3 : ((a : Int) != 2047) = false := by unfold bne; rw [k1]; rfl
  by_cases k2 : ((b : Int) == 0) = true
  ·go_enter Try.func87, Try.ntmps87
   go_wp2
   go_ret
   exact ⟨by simp [k1, k2], rfl⟩
  ·rw [Bool.not_eq_true] at k2
   go_enter Try.func87, Try.ntmps87
   go_wp2
   go_ret
   exact ⟨by simp [k1, k2], rfl⟩
 ·rw [Bool.not_eq_true] at k1
  have k3 : ((a : Int) != 2047) = true := by unfold bne; rw [k1]; rfl
  go_enter Try.func87, Try.ntmps87
  go_wp2
  go_ret
  exact ⟨by simp [k1], rfl⟩
theorem kd_of (x : Nat) : (nn x = true ∧ kd x = 4 ∧ cb x = 9221120237041090560) ∨ (nn x = false ∧ cb x = x ∧ mg x ≤ 9218868437227405312 ∧
  ((kd x = 3 ∧ mg x = 9218868437227405312) ∨ (kd x = 0 ∧ mg x = 0) ∨ (kd x = 1 ∧ mg x < 4503599627370496) ∨ (kd x = 2 ∧ 4503599627370496 ≤ mg x ∧ mg x < 9218868437227405312))) := by
 cases hn : nn x
 ·right
  have hle : mg x ≤ 9218868437227405312 := by rw [nn_mg] at hn; simpa using hn
  refine ⟨rfl, by simp [cb, hn], hle, ?_⟩
  by_cases h1 : mg x = 9218868437227405312
  ·exact .inl ⟨by simp [kd, hn, h1], h1⟩
  ·by_cases h0 : mg x = 0
   ·exact .inr (.inl ⟨by simp [kd, hn, h0], h0⟩)
   ·by_cases h2 : mg x < 4503599627370496
    ·exact .inr (.inr (.inl ⟨by simp [kd, hn, h0, h1, h2], h2⟩))
    ·exact .inr (.inr (.inr ⟨by simp [kd, hn, h0, h1, h2], by omega, by omega⟩))
 ·exact .inl ⟨rfl, by simp [kd, hn], by simp [cb, hn]⟩
set_option maxHeartbeats 1000000 in
theorem bits_c (x : Nat) (hx : x < 18446744073709551616) (w : World) :
  Calls Try.prog 22 #[.float .f64 x] w fun e w' => e = .returned (.int .u64 (cb x)) ∧ Below w.heap.size w w' := by
 have hm := mg_lt x
 rcases kd_of x with ⟨hn, hk, hc⟩ | ⟨hn, hc, hle, hkk⟩
 ·rw [hc]
  clear hc
  go_enter Try.func22, Try.ntmps22
  go_wp2_with fail
  refine (kind_c x hx _).mono ?_
  rintro e w' ⟨rfl, rfl⟩
  rw [hk]
  go_wp2
  go_ret
  exact ⟨rfl, Below.refl _ _⟩
 ·rw [hc]
  have hor := or_top (mg x) hm
  have hsp := mg_split x hx
  rcases hkk with ⟨hk, h3⟩ | ⟨hk, h3⟩ | ⟨hk, h3⟩ | ⟨hk, h3, h4⟩
  ·rw [h3] at hor hsp
   clear h3 hm hle hc
   rcases hsp with ⟨hg, hv⟩ | ⟨hg, hv⟩
   all_goals
    have HV := Lib.hid hv
    clear hv
    go_enter Try.func22, Try.ntmps22
    go_wp2_with fail
    refine (kind_c x hx _).mono ?_
    rintro e w' ⟨rfl, rfl⟩
    rw [hk]
    go_wp2_with fail
    refine (minus_c x hx _).mono ?_
    rintro e w' ⟨rfl, rfl⟩
    rw [hn, hg]
    go_wp2
    go_ret
    exact ⟨by rw [HV.out]; rfl, Below.refl _ _⟩
  ·rw [h3] at hor hsp
   clear h3 hm hle hc
   rcases hsp with ⟨hg, hv⟩ | ⟨hg, hv⟩
   all_goals
    have HV := Lib.hid hv
    clear hv
    go_enter Try.func22, Try.ntmps22
    go_wp2_with fail
    refine (kind_c x hx _).mono ?_
    rintro e w' ⟨rfl, rfl⟩
    rw [hk]
    go_wp2_with fail
    refine (minus_c x hx _).mono ?_
    rintro e w' ⟨rfl, rfl⟩
    rw [hn, hg]
    go_wp2
    go_ret
    exact ⟨by rw [HV.out]; rfl, Below.refl _ _⟩
  ·have hcv := fun wx => run_convert_float_int (P := Try.prog) wx 28 52 .f64 .u64 (en (mg x) B) (mg x : Int) (by kernel_rfl) Try.underlying52 (whole_en (mg x) (by omega))
   have h5 := small_en (mg x) h3
   rcases hsp with ⟨hg, hv⟩ | ⟨hg, hv⟩
   all_goals
    have HV := Lib.hid hv
    have H5 := Lib.hid h5
    clear hv hc h5
    go_enter Try.func22, Try.ntmps22
    go_wp2_with fail
    refine (kind_c x hx _).mono ?_
    rintro e w' ⟨rfl, rfl⟩
    rw [hk]
    go_wp2_with fail
    refine (abs_c x hx _).mono ?_
    rintro e w' ⟨rfl, rfl⟩
    go_wp2_with fail
    rw [show Value.float .f64 (mg x) = Value.float .f64 (en (mg x) 0) from by rw [← H5.out]]
    refine (times_c (mg x) 0 B _ (by omega) (by omega) (by rw [B_eq]; omega) (by rw [B_eq]; omega) (by rw [B_eq]; omega) _).mono ?_
    rintro e w' ⟨rfl, hb⟩
    go_wp2_with fail
    refine (minus_c x hx _).mono ?_
    rintro e w' ⟨rfl, rfl⟩
    rw [hn, hg]
    go_wp2
    go_ret
    exact ⟨congrArg (fun n : Nat => Ending.returned (Value.int .u64 (n : Int))) HV.out.symm, hb⟩
  ·obtain ⟨q, f, hq1, hq2, hf, hqf⟩ : ∃ q f, 1 ≤ q ∧ q ≤ 2046 ∧ f < 4503599627370496 ∧ mg x = nw q f := ⟨mg x / 4503599627370496, mg x % 4503599627370496, by omega, by omega, by omega, by unfold nw; omega⟩
   have hmul := fun wx => run_float_arith (P := Try.prog) wx .mul 28 .f64 _ _ _ (mul_nw 1023 1075 1075 f hf (by omega) (by omega) (by omega) (by omega) (by omega) (by omega) (by omega))
   have hcv := fun wx => run_convert_float_int (P := Try.prog) wx 28 52 .f64 .u64 (nw 1075 f) ((4503599627370496 + f : Nat) : Int) (by kernel_rfl) Try.underlying52 (whole_nw f hf)
   have hand := and_part (4503599627370496 + f) (by omega)
   rw [show (4503599627370496 + f) % 4503599627370496 = f from by omega] at hand
   have hj : bits .or .u64 ((q : Int) * 4503599627370496) (f : Int) = ((mg x : Nat) : Int) := by
    rw [show (q : Int) * 4503599627370496 = ((q * 4503599627370496 : Nat) : Int) from by omega, or_join q f (by omega) hf, hqf]; rfl
   have h1075 : (1075 * 4503599627370496 : Nat) = 4841369599423283200 := by decide
   rw [h1075] at hmul
   generalize 4503599627370496 + f = hid at *
   rcases hsp with ⟨hg, hv⟩ | ⟨hg, hv⟩
   all_goals
    have HV := Lib.hid hv
    have H5 := Lib.hid hqf
    clear hv hc hqf h1075
    go_enter Try.func22, Try.ntmps22
    go_wp2_with fail
    refine (kind_c x hx _).mono ?_
    rintro e w' ⟨rfl, rfl⟩
    rw [hk]
    go_wp2_with fail
    refine (abs_c x hx _).mono ?_
    rintro e w' ⟨rfl, rfl⟩
    go_wp2_with fail
    rw [show Value.float .f64 (mg x) = Value.float .f64 (nw q f) from by rw [← H5.out]]
    refine (part_c q f hq1 hq2 hf _).mono ?_
    rintro e w' ⟨rfl, hb⟩
    go_wp2_with fail
    refine (minus_c x hx _).mono ?_
    rintro e w' ⟨rfl, rfl⟩
    rw [hn, hg]
    go_wp2
    go_ret
    exact ⟨congrArg (fun n : Nat => Ending.returned (Value.int .u64 (n : Int))) HV.out.symm, hb⟩
end Go.Proofs.Ytojhenpaeedimaa
end
section
namespace Go.Proofs.Ytojhenpaeedimaa
open Go.RowKit
open Fl
set_option maxRecDepth 100000
theorem rMinus_c (x : Nat) (hx : x < 18446744073709551616) (w : World) :
  Calls Try.prog 51 #[.float .f64 x] w fun e w' => e = .returned (.bool (!nn x && ng x)) ∧ w = w' := by
 cases hn : nn x
 ·have hz := o_zero x hx hn
  by_cases h0 : mg x = 0
  ·rcases nought_of x hx h0 with ⟨hg, rfl⟩ | ⟨hg, rfl⟩
   ·rw [hg]
    have h1 : (FloatKind.f64.format.order 9223372036854775808 0 == some Ordering.lt) = false := by decide
    have h2 : (FloatKind.f64.format.order 9223372036854775808 0 == some Ordering.eq) = true := by decide
    have h3 := fun wx => run_float_arith (P := Try.prog) wx .quo 28 .f64 _ _ _ inv_neg
    have h4 : (FloatKind.f64.format.order 18442240474082181120 0 == some Ordering.lt) = true := by decide
    clear hz h0 hg
    go_enter Try.func51, Try.ntmps51
    go_wp2
    go_ret
    exact ⟨rfl, rfl⟩
   ·rw [hg]
    have h1 : (FloatKind.f64.format.order 0 0 == some Ordering.lt) = false := by decide
    have h2 : (FloatKind.f64.format.order 0 0 == some Ordering.eq) = true := by decide
    have h3 := fun wx => run_float_arith (P := Try.prog) wx .quo 28 .f64 _ _ _ inv_pos
    have h4 : (FloatKind.f64.format.order 9218868437227405312 0 == some Ordering.lt) = false := by decide
    clear hz h0 hg
    go_enter Try.func51, Try.ntmps51
    go_wp2
    go_ret
    exact ⟨rfl, rfl⟩
  ·rw [decide_eq_false h0] at hz
   cases hg : ng x
   ·have h1 := minus_pos x hx hn hg
    go_enter Try.func51, Try.ntmps51
    go_wp2
    go_ret
    exact ⟨rfl, rfl⟩
   ·have h1 := minus_neg x hx hn hg h0
    go_enter Try.func51, Try.ntmps51
    go_wp2
    go_ret
    exact ⟨rfl, rfl⟩
 ·have h1 : (FloatKind.f64.format.order x 0 == some Ordering.lt) = false := by rw [order_nn_left x 0 hx hn]; rfl
  have h2 : (FloatKind.f64.format.order x 0 == some Ordering.eq) = false := by rw [order_nn_left x 0 hx hn]; rfl
  go_enter Try.func51, Try.ntmps51
  go_wp2
  go_ret
  exact ⟨rfl, rfl⟩
end Go.Proofs.Ytojhenpaeedimaa
end
section
namespace Go.Proofs.Ytojhenpaeedimaa
open Go.RowKit
open Fl
set_option maxRecDepth 100000
/-- what comes behind the sign, as the function goes on: from slot 0 (the size) and slot 3 (the sign's share) on -/
theorem rBits_nan (x : Nat) (hx : x < 18446744073709551616) (hn : nn x = true) (w : World) :
  Calls Try.prog 27 #[.float .f64 x] w fun e w' => e = .returned (.int .u64 9221120237041090560) ∧ w = w' := by
 have h1 := o_self x hx
 rw [hn] at h1
 go_enter Try.func27, Try.ntmps27
 go_wp2_with fail
 refine (none_c _).mono ?_
 rintro e w' ⟨rfl, rfl⟩
 go_wp2
 go_ret
 exact ⟨rfl, rfl⟩
theorem rBits_zero (x : Nat) (hx : x < 18446744073709551616) (hn : nn x = false) (h0 : mg x = 0) (w : World) :
  Calls Try.prog 27 #[.float .f64 x] w fun e w' => e = .returned (.int .u64 (x : Int)) ∧ w = w' := by
 have h1 := o_self x hx
 rw [hn] at h1
 have h3 : (FloatKind.f64.format.order 0 0 == some Ordering.eq) = true := by decide
 have hmin := rMinus_c x hx
 rcases nought_of x hx h0 with ⟨hg, hv⟩ | ⟨hg, hv⟩
 ·have h4 := neg_mg x hx hg
  rw [h0] at h4
  have HV := Lib.hid hv
  clear hv h0
  rw [hn, hg] at hmin
  have HM := Lib.hid hmin
  clear hmin
  go_enter Try.func27, Try.ntmps27
  go_wp2_with fail
  refine (HM.out _).mono ?_
  rintro e w' ⟨rfl, rfl⟩
  go_wp2_with fail
  refine (top_c _).mono ?_
  rintro e w' ⟨rfl, rfl⟩
  go_wp2
  go_ret
  exact ⟨congrArg (fun n : Nat => Ending.returned (Value.int .u64 (n : Int))) HV.out.symm, rfl⟩
 ·subst hv
  rw [hn, hg] at hmin
  have HM := Lib.hid hmin
  clear hmin h0
  go_enter Try.func27, Try.ntmps27
  go_wp2_with fail
  refine (HM.out _).mono ?_
  rintro e w' ⟨rfl, rfl⟩
  go_wp2
  go_ret
  exact ⟨rfl, rfl⟩
theorem rBits_inf (x : Nat) (hx : x < 18446744073709551616) (hn : nn x = false) (h0 : mg x = 9218868437227405312) (w : World) :
  Calls Try.prog 27 #[.float .f64 x] w fun e w' => e = .returned (.int .u64 (x : Int)) ∧ w = w' := by
 have h1 := o_self x hx
 rw [hn] at h1
 have h3 : (FloatKind.f64.format.order 9218868437227405312 0 == some Ordering.eq) = false := by decide
 have h5 : (FloatKind.f64.format.order 9218868437227405312 9218868437227405312 == some Ordering.eq) = true := by decide
 have h6 := fun wx => run_float_arith (P := Try.prog) wx .mul 28 .f64 _ _ _ dbl_inf
 have hmin := rMinus_c x hx
 rcases mg_split x hx with ⟨hg, hv⟩ | ⟨hg, hv⟩
 ·have h4 := neg_mg x hx hg
  rw [h0] at h4 hv
  have HV := Lib.hid hv
  clear hv h0
  rw [hn, hg] at hmin
  have HM := Lib.hid hmin
  clear hmin
  go_enter Try.func27, Try.ntmps27
  go_wp2_with fail
  refine (HM.out _).mono ?_
  rintro e w' ⟨rfl, rfl⟩
  go_wp2_with fail
  refine (top_c _).mono ?_
  rintro e w' ⟨rfl, rfl⟩
  go_wp2
  go_ret
  exact ⟨congrArg (fun n : Nat => Ending.returned (Value.int .u64 (n : Int))) HV.out.symm, rfl⟩
 ·rw [h0] at hv
  subst hv
  rw [hn, hg] at hmin
  have HM := Lib.hid hmin
  clear hmin h0
  go_enter Try.func27, Try.ntmps27
  go_wp2_with fail
  refine (HM.out _).mono ?_
  rintro e w' ⟨rfl, rfl⟩
  go_wp2
  go_ret
  exact ⟨rfl, rfl⟩
end Go.Proofs.Ytojhenpaeedimaa
end
