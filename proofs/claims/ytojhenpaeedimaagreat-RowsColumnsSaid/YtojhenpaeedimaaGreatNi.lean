/-
 Contracts of bits.Canon, bits.Bits, bits.Same.
 Contracts of the document's answer for layer 1: Minus, Bits.
 Contract of the document's answer for layer 1: Bits. By where the number lies: no number, nought, endless, plain from one on, plain below one, tiny.
 Contract of the document's answer for layer 1: Bits, of plain and tiny numbers.
-/
import Derived.Test.YtojhenpaeedimaaGreatNe
import Derived.Test.YtojhenpaeedimaaGreatNb
section
namespace Go.Proofs.YtojhenpaeedimaaGreat
open Go.RowKit
open Fl
set_option maxRecDepth 100000
theorem canon_c (u : Nat) (hu : u < 18446744073709551616) (w : World) :
  Calls Tryz.prog 190 #[.int .u64 (u : Int)] w fun e w' => e = .returned (.bool (cn u)) ∧ w = w' := by
 have h1 := and_exp u hu
 have h2 := and_part u hu
 have hc : cn u = (!(((u / 4503599627370496 % 2048 : Nat) : Int) == 2047) || (((u % 4503599627370496 : Nat) : Int) == 0) || ((u : Int) == 9221120237041090560)) := by
  unfold cn
  rw [Bool.eq_iff_iff]
  simp only [decide_eq_true_eq, Bool.or_eq_true, Bool.not_eq_true', beq_iff_eq, beq_eq_false_iff_ne]
  omega
 rw [hc]
 clear hc
 generalize u / 4503599627370496 % 2048 = a at *
 generalize u % 4503599627370496 = b at *
 by_cases k1 : ((a : Int) == 2047) = true
 ·have k3 : ((a : Int) != 2047) = false := by unfold bne; rw [k1]; rfl
  by_cases k2 : ((b : Int) == 0) = true
  ·go_enter Tryz.func190, Tryz.ntmps190
   go_wp2
   go_ret
   exact ⟨by simp [k1, k2], rfl⟩
  ·rw [Bool.not_eq_true] at k2
   go_enter Tryz.func190, Tryz.ntmps190
   go_wp2
   go_ret
   exact ⟨by simp [k1, k2], rfl⟩
 ·rw [Bool.not_eq_true] at k1
  have k3 : ((a : Int) != 2047) = true := by unfold bne; rw [k1]; rfl
  go_enter Tryz.func190, Tryz.ntmps190
  go_wp2
  go_ret
  exact ⟨by simp [k1], rfl⟩
theorem kd_of (x : Nat) : (nn x = true ∧ kd x = 4 ∧ cb x = 9221120237041090560) ∨ (nn x = false ∧ cb x = x ∧ mg x ≤ 9218868437227405312 ∧
  ((kd x = 3 ∧ mg x = 9218868437227405312) ∨ (kd x = 0 ∧ mg x = 0) ∨ (kd x = 1 ∧ mg x < 4503599627370496) ∨ (kd x = 2 ∧ 4503599627370496 ≤ mg x ∧ mg x < 9218868437227405312))) := by
 cases hn : nn x
 ·right
  have hle : mg x ≤ 9218868437227405312 := by rw [nn_mg] at hn; simpa using hn
  refine ⟨rfl, by simp [cb, hn], hle, ?_⟩
  by_cases h1 : mg x = 9218868437227405312
  ·exact .inl ⟨by simp [kd, hn, h1], h1⟩
  ·by_cases h0 : mg x = 0
   ·exact .inr (.inl ⟨by simp [kd, hn, h0], h0⟩)
   ·by_cases h2 : mg x < 4503599627370496
    ·exact .inr (.inr (.inl ⟨by simp [kd, hn, h0, h1, h2], h2⟩))
    ·exact .inr (.inr (.inr ⟨by simp [kd, hn, h0, h1, h2], by omega, by omega⟩))
 ·exact .inl ⟨rfl, by simp [kd, hn], by simp [cb, hn]⟩
set_option maxHeartbeats 1000000 in
theorem bits_c (x : Nat) (hx : x < 18446744073709551616) (w : World) :
  Calls Tryz.prog 110 #[.float .f64 x] w fun e w' => e = .returned (.int .u64 (cb x)) ∧ Below w.heap.size w w' := by
 have hm := mg_lt x
 rcases kd_of x with ⟨hn, hk, hc⟩ | ⟨hn, hc, hle, hkk⟩
 ·rw [hc]
  clear hc
  go_enter Tryz.func110, Tryz.ntmps110
  go_wp2_with fail
  refine (kind_c x hx _).mono ?_
  rintro e w' ⟨rfl, rfl⟩
  rw [hk]
  go_wp2
  go_ret
  exact ⟨rfl, Below.refl _ _⟩
 ·rw [hc]
  have hor := or_top (mg x) hm
  have hsp := mg_split x hx
  rcases hkk with ⟨hk, h3⟩ | ⟨hk, h3⟩ | ⟨hk, h3⟩ | ⟨hk, h3, h4⟩
  ·rw [h3] at hor hsp
   clear h3 hm hle hc
   rcases hsp with ⟨hg, hv⟩ | ⟨hg, hv⟩
   all_goals
    have HV := Lib.hid hv
    clear hv
    go_enter Tryz.func110, Tryz.ntmps110
    go_wp2_with fail
    refine (kind_c x hx _).mono ?_
    rintro e w' ⟨rfl, rfl⟩
    rw [hk]
    go_wp2_with fail
    refine (minus_c x hx _).mono ?_
    rintro e w' ⟨rfl, rfl⟩
    rw [hn, hg]
    go_wp2
    go_ret
    exact ⟨by rw [HV.out]; rfl, Below.refl _ _⟩
  ·rw [h3] at hor hsp
   clear h3 hm hle hc
   rcases hsp with ⟨hg, hv⟩ | ⟨hg, hv⟩
   all_goals
    have HV := Lib.hid hv
    clear hv
    go_enter Tryz.func110, Tryz.ntmps110
    go_wp2_with fail
    refine (kind_c x hx _).mono ?_
    rintro e w' ⟨rfl, rfl⟩
    rw [hk]
    go_wp2_with fail
    refine (minus_c x hx _).mono ?_
    rintro e w' ⟨rfl, rfl⟩
    rw [hn, hg]
    go_wp2
    go_ret
    exact ⟨by rw [HV.out]; rfl, Below.refl _ _⟩
  ·have hcv := fun wx => run_convert_float_int (P := Tryz.prog) wx 49 62 .f64 .u64 (en (mg x) B) (mg x : Int) (by kernel_rfl) Tryz.underlying62 (whole_en (mg x) (by omega))
   have h5 := small_en (mg x) h3
   rcases hsp with ⟨hg, hv⟩ | ⟨hg, hv⟩
   all_goals
    have HV := Lib.hid hv
    have H5 := Lib.hid h5
    clear hv hc h5
    go_enter Tryz.func110, Tryz.ntmps110
    go_wp2_with fail
    refine (kind_c x hx _).mono ?_
    rintro e w' ⟨rfl, rfl⟩
    rw [hk]
    go_wp2_with fail
    refine (abs_c x hx _).mono ?_
    rintro e w' ⟨rfl, rfl⟩
    go_wp2_with fail
    rw [show Value.float .f64 (mg x) = Value.float .f64 (en (mg x) 0) from by rw [← H5.out]]
    refine (times_c (mg x) 0 B _ (by omega) (by omega) (by rw [B_eq]; omega) (by rw [B_eq]; omega) (by rw [B_eq]; omega) _).mono ?_
    rintro e w' ⟨rfl, hb⟩
    go_wp2_with fail
    refine (minus_c x hx _).mono ?_
    rintro e w' ⟨rfl, rfl⟩
    rw [hn, hg]
    go_wp2
    go_ret
    exact ⟨congrArg (fun n : Nat => Ending.returned (Value.int .u64 (n : Int))) HV.out.symm, hb⟩
  ·obtain ⟨q, f, hq1, hq2, hf, hqf⟩ : ∃ q f, 1 ≤ q ∧ q ≤ 2046 ∧ f < 4503599627370496 ∧ mg x = nw q f := ⟨mg x / 4503599627370496, mg x % 4503599627370496, by omega, by omega, by omega, by unfold nw; omega⟩
   have hmul := fun wx => run_float_arith (P := Tryz.prog) wx .mul 49 .f64 _ _ _ (mul_nw 1023 1075 1075 f hf (by omega) (by omega) (by omega) (by omega) (by omega) (by omega) (by omega))
   have hcv := fun wx => run_convert_float_int (P := Tryz.prog) wx 49 62 .f64 .u64 (nw 1075 f) ((4503599627370496 + f : Nat) : Int) (by kernel_rfl) Tryz.underlying62 (whole_nw f hf)
   have hand := and_part (4503599627370496 + f) (by omega)
   rw [show (4503599627370496 + f) % 4503599627370496 = f from by omega] at hand
   have hj : bits .or .u64 ((q : Int) * 4503599627370496) (f : Int) = ((mg x : Nat) : Int) := by
    rw [show (q : Int) * 4503599627370496 = ((q * 4503599627370496 : Nat) : Int) from by omega, or_join q f (by omega) hf, hqf]; rfl
   have h1075 : (1075 * 4503599627370496 : Nat) = 4841369599423283200 := by decide
   rw [h1075] at hmul
   generalize 4503599627370496 + f = hid at *
   rcases hsp with ⟨hg, hv⟩ | ⟨hg, hv⟩
   all_goals
    have HV := Lib.hid hv
    have H5 := Lib.hid hqf
    clear hv hc hqf h1075
    go_enter Tryz.func110, Tryz.ntmps110
    go_wp2_with fail
    refine (kind_c x hx _).mono ?_
    rintro e w' ⟨rfl, rfl⟩
    rw [hk]
    go_wp2_with fail
    refine (abs_c x hx _).mono ?_
    rintro e w' ⟨rfl, rfl⟩
    go_wp2_with fail
    rw [show Value.float .f64 (mg x) = Value.float .f64 (nw q f) from by rw [← H5.out]]
    refine (part_c q f hq1 hq2 hf _).mono ?_
    rintro e w' ⟨rfl, hb⟩
    go_wp2_with fail
    refine (minus_c x hx _).mono ?_
    rintro e w' ⟨rfl, rfl⟩
    rw [hn, hg]
    go_wp2
    go_ret
    exact ⟨congrArg (fun n : Nat => Ending.returned (Value.int .u64 (n : Int))) HV.out.symm, hb⟩
end Go.Proofs.YtojhenpaeedimaaGreat
end
section
namespace Go.Proofs.YtojhenpaeedimaaGreat
open Go.RowKit
open Fl
set_option maxRecDepth 100000
theorem rMinus_c (x : Nat) (hx : x < 18446744073709551616) (w : World) :
  Calls Tryz.prog 115 #[.float .f64 x] w fun e w' => e = .returned (.bool (!nn x && ng x)) ∧ w = w' := by
 cases hn : nn x
 ·have hz := o_zero x hx hn
  by_cases h0 : mg x = 0
  ·rcases nought_of x hx h0 with ⟨hg, rfl⟩ | ⟨hg, rfl⟩
   ·rw [hg]
    have h1 : (FloatKind.f64.format.order 9223372036854775808 0 == some Ordering.lt) = false := by decide
    have h2 : (FloatKind.f64.format.order 9223372036854775808 0 == some Ordering.eq) = true := by decide
    have h3 := fun wx => run_float_arith (P := Tryz.prog) wx .quo 49 .f64 _ _ _ inv_neg
    have h4 : (FloatKind.f64.format.order 18442240474082181120 0 == some Ordering.lt) = true := by decide
    clear hz h0 hg
    go_enter Tryz.func115, Tryz.ntmps115
    go_wp2
    go_ret
    exact ⟨rfl, rfl⟩
   ·rw [hg]
    have h1 : (FloatKind.f64.format.order 0 0 == some Ordering.lt) = false := by decide
    have h2 : (FloatKind.f64.format.order 0 0 == some Ordering.eq) = true := by decide
    have h3 := fun wx => run_float_arith (P := Tryz.prog) wx .quo 49 .f64 _ _ _ inv_pos
    have h4 : (FloatKind.f64.format.order 9218868437227405312 0 == some Ordering.lt) = false := by decide
    clear hz h0 hg
    go_enter Tryz.func115, Tryz.ntmps115
    go_wp2
    go_ret
    exact ⟨rfl, rfl⟩
  ·rw [decide_eq_false h0] at hz
   cases hg : ng x
   ·have h1 := minus_pos x hx hn hg
    go_enter Tryz.func115, Tryz.ntmps115
    go_wp2
    go_ret
    exact ⟨rfl, rfl⟩
   ·have h1 := minus_neg x hx hn hg h0
    go_enter Tryz.func115, Tryz.ntmps115
    go_wp2
    go_ret
    exact ⟨rfl, rfl⟩
 ·have h1 : (FloatKind.f64.format.order x 0 == some Ordering.lt) = false := by rw [order_nn_left x 0 hx hn]; rfl
  have h2 : (FloatKind.f64.format.order x 0 == some Ordering.eq) = false := by rw [order_nn_left x 0 hx hn]; rfl
  go_enter Tryz.func115, Tryz.ntmps115
  go_wp2
  go_ret
  exact ⟨rfl, rfl⟩
end Go.Proofs.YtojhenpaeedimaaGreat
end
section
namespace Go.Proofs.YtojhenpaeedimaaGreat
open Go.RowKit
open Fl
set_option maxRecDepth 100000
/-- what comes behind the sign, as the function goes on: from slot 0 (the size) and slot 3 (the sign's share) on -/
theorem rBits_nan (x : Nat) (hx : x < 18446744073709551616) (hn : nn x = true) (w : World) :
  Calls Tryz.prog 65 #[.float .f64 x] w fun e w' => e = .returned (.int .u64 9221120237041090560) ∧ w = w' := by
 have h1 := o_self x hx
 rw [hn] at h1
 go_enter Tryz.func65, Tryz.ntmps65
 go_wp2_with fail
 refine (none_c _).mono ?_
 rintro e w' ⟨rfl, rfl⟩
 go_wp2
 go_ret
 exact ⟨rfl, rfl⟩
theorem rBits_zero (x : Nat) (hx : x < 18446744073709551616) (hn : nn x = false) (h0 : mg x = 0) (w : World) :
  Calls Tryz.prog 65 #[.float .f64 x] w fun e w' => e = .returned (.int .u64 (x : Int)) ∧ w = w' := by
 have h1 := o_self x hx
 rw [hn] at h1
 have h3 : (FloatKind.f64.format.order 0 0 == some Ordering.eq) = true := by decide
 have hmin := rMinus_c x hx
 rcases nought_of x hx h0 with ⟨hg, hv⟩ | ⟨hg, hv⟩
 ·have h4 := neg_mg x hx hg
  rw [h0] at h4
  have HV := Lib.hid hv
  clear hv h0
  rw [hn, hg] at hmin
  have HM := Lib.hid hmin
  clear hmin
  go_enter Tryz.func65, Tryz.ntmps65
  go_wp2_with fail
  refine (HM.out _).mono ?_
  rintro e w' ⟨rfl, rfl⟩
  go_wp2_with fail
  refine (top_c _).mono ?_
  rintro e w' ⟨rfl, rfl⟩
  go_wp2
  go_ret
  exact ⟨congrArg (fun n : Nat => Ending.returned (Value.int .u64 (n : Int))) HV.out.symm, rfl⟩
 ·subst hv
  rw [hn, hg] at hmin
  have HM := Lib.hid hmin
  clear hmin h0
  go_enter Tryz.func65, Tryz.ntmps65
  go_wp2_with fail
  refine (HM.out _).mono ?_
  rintro e w' ⟨rfl, rfl⟩
  go_wp2
  go_ret
  exact ⟨rfl, rfl⟩
theorem rBits_inf (x : Nat) (hx : x < 18446744073709551616) (hn : nn x = false) (h0 : mg x = 9218868437227405312) (w : World) :
  Calls Tryz.prog 65 #[.float .f64 x] w fun e w' => e = .returned (.int .u64 (x : Int)) ∧ w = w' := by
 have h1 := o_self x hx
 rw [hn] at h1
 have h3 : (FloatKind.f64.format.order 9218868437227405312 0 == some Ordering.eq) = false := by decide
 have h5 : (FloatKind.f64.format.order 9218868437227405312 9218868437227405312 == some Ordering.eq) = true := by decide
 have h6 := fun wx => run_float_arith (P := Tryz.prog) wx .mul 49 .f64 _ _ _ dbl_inf
 have hmin := rMinus_c x hx
 rcases mg_split x hx with ⟨hg, hv⟩ | ⟨hg, hv⟩
 ·have h4 := neg_mg x hx hg
  rw [h0] at h4 hv
  have HV := Lib.hid hv
  clear hv h0
  rw [hn, hg] at hmin
  have HM := Lib.hid hmin
  clear hmin
  go_enter Tryz.func65, Tryz.ntmps65
  go_wp2_with fail
  refine (HM.out _).mono ?_
  rintro e w' ⟨rfl, rfl⟩
  go_wp2_with fail
  refine (top_c _).mono ?_
  rintro e w' ⟨rfl, rfl⟩
  go_wp2
  go_ret
  exact ⟨congrArg (fun n : Nat => Ending.returned (Value.int .u64 (n : Int))) HV.out.symm, rfl⟩
 ·rw [h0] at hv
  subst hv
  rw [hn, hg] at hmin
  have HM := Lib.hid hmin
  clear hmin h0
  go_enter Tryz.func65, Tryz.ntmps65
  go_wp2_with fail
  refine (HM.out _).mono ?_
  rintro e w' ⟨rfl, rfl⟩
  go_wp2
  go_ret
  exact ⟨rfl, rfl⟩
end Go.Proofs.YtojhenpaeedimaaGreat
end
section
namespace Go.Proofs.YtojhenpaeedimaaGreat
open Go.RowKit
open Fl
set_option maxRecDepth 100000
theorem ret_u64 {a b : Int} (h : a = b) : Ending.returned (.int .u64 a) = .returned (.int .u64 b) := by rw [h]
set_option maxHeartbeats 1000000 in
theorem rBits_big (x q m : Nat) (hx : x < 18446744073709551616) (hn : nn x = false) (hq1 : 1023 ≤ q) (hq2 : q ≤ 2046) (hm : m < 4503599627370496) (h0 : mg x = nw q m) (w : World) :
  Calls Tryz.prog 65 #[.float .f64 x] w fun e w' => e = .returned (.int .u64 (x : Int)) ∧ w = w' := by
 have h1 := o_self x hx
 rw [hn] at h1
 have hmin := rMinus_c x hx
 have hnw : nw q m < 9218868437227405312 := nw_lt q m hq2 hm
 have hnw0 : 0 < nw q m := by unfold nw; omega
 have h3 : (FloatKind.f64.format.order (nw q m) 0 == some Ordering.eq) = false := by
  rw [s_eq (nw q m) 0 (by omega) (by omega)]; exact decide_eq_false (by omega)
 obtain ⟨d, hd, hde⟩ := dbl_ne (nw q m) hnw0 hnw
 have hmul := fun wx => run_float_arith (P := Tryz.prog) wx .mul 49 .f64 _ _ _ hd
 have hsub := fun wx => run_float_arith (P := Tryz.prog) wx .sub 49 .f64 _ _ _ (sub_nw m hm)
 have hcv := fun wx => run_convert_float_int (P := Tryz.prog) wx 49 62 .f64 .u64 (en m B) (m : Int) (by kernel_rfl) Tryz.underlying62 (whole_en m (by omega))
 rcases mg_split x hx with ⟨hg, hv⟩ | ⟨hg, hv⟩
 case' inl =>
  have h4 := neg_mg x hx hg
  rw [h0] at hv h4
  have HV : Hid ((x : Int) = 9223372036854775808 + (q : Int) * 4503599627370496 + m) := by
   show (x : Int) = _
   unfold nw at hv
   omega
  clear hv h0 hd
  rw [hn, hg] at hmin
  have HM := Lib.hid hmin
  clear hmin
  go_enter Tryz.func65, Tryz.ntmps65
  go_wp2_with fail
  refine (HM.out _).mono ?_
  rintro e w' ⟨rfl, rfl⟩
  go_wp2_with fail
  refine (top_c _).mono ?_
  rintro e w' ⟨rfl, rfl⟩
  go_wp2
 case' inr =>
  rw [h0] at hv
  subst hv
  have HV : Hid (((nw q m : Nat) : Int) = 0 + (q : Int) * 4503599627370496 + m) := by
   show ((nw q m : Nat) : Int) = _
   unfold nw
   omega
  rw [hn, hg] at hmin
  have HM := Lib.hid hmin
  clear hmin h0 hd
  go_enter Tryz.func65, Tryz.ntmps65
  go_wp2_with fail
  refine (HM.out _).mono ?_
  rintro e w' ⟨rfl, rfl⟩
  go_wp2
 all_goals
  clear hmul h1 h3 hde
  go_loop [0, 4] (fun f v => ∃ (k : Nat) (e : Int), f = .float .f64 (nw (q - k) m) ∧ v = .int .u64 e ∧ e ≤ 1023 + k ∧ 1023 + k ≤ e ∧ k + 1023 ≤ q) (fun _ v => (3000 - Go.RowKit.intOf v).toNat)
  case atStart => exact ⟨0, 1023, rfl, rfl, by omega, by omega, by omega⟩
  case round =>
   obtain ⟨k, e, rfl, rfl, he1, he2, hkq⟩ := hrel
   have hge := s_ge (nw (q - k) m) 4611686018427387904 (by unfold nw; omega) (by omega)
   by_cases hk : k + 1023 < q
   ·rw [decide_eq_true (show 4611686018427387904 ≤ nw (q - k) m from by unfold nw; omega)] at hge
    have hmul := fun wx => run_float_arith (P := Tryz.prog) wx .mul 49 .f64 _ _ _ (mul_nw (q - k) (q - (k + 1)) 1022 m hm (by omega) (by omega) (by omega) (by omega) (by omega) (by omega) (by omega))
    rw [show (1022 * 4503599627370496 : Nat) = 4602678819172646912 from by decide] at hmul
    go_wp2
    go_round
    case rel => exact ⟨k + 1, e + 1, rfl, rfl, by omega, by omega, by omega⟩
    case measure => simp only [Go.RowKit.intOf]; omega
   ·rw [decide_eq_false (show ¬ 4611686018427387904 ≤ nw (q - k) m from by unfold nw; omega)] at hge
    have hqk : q - k = 1023 := by omega
    rw [hqk] at hge ⊢
    clear hqk
    have hlt := s_lt (nw 1023 m) 4607182418800017408 (by unfold nw; omega) (by omega)
    rw [decide_eq_false (show ¬ nw 1023 m < 4607182418800017408 from by unfold nw; omega)] at hlt
    go_wp2
    refine wp_loop_rounds 1 ?_
    rw [rounds_succ]
    go_wp2
    clear hlt hge hsub
    go_loop [0, 5] (fun f v => ∃ j : Nat, j ≤ 52 ∧ v = .int .i64 j ∧ f = .float .f64 (en m (1022 + j))) (fun _ v => (52 - Go.RowKit.intOf v).toNat)
    case atStart => exact ⟨0, by omega, rfl, rfl⟩
    case round =>
     obtain ⟨j, hj, rfl, rfl⟩ := hrel
     by_cases hj2 : j < 52
     ·have hmul := fun wx => run_float_arith (P := Tryz.prog) wx .mul 49 .f64 _ _ _ (mul_two m (1022 + j) (by omega) (by omega))
      go_wp2
      go_round
      case rel => exact ⟨j + 1, by omega, by go_num, rfl⟩
      case measure => simp only [Go.RowKit.intOf]; omega
     ·obtain rfl : j = 52 := by omega
      rw [show en m (1022 + 52) = en m B from congrArg (en m) (show 1022 + 52 = B from rfl)]
      go_wp2
      go_ret
      exact ⟨ret_u64 (by rw [HV.out]; omega), rfl⟩
set_option maxHeartbeats 1000000 in
theorem rBits_low (x q m : Nat) (hx : x < 18446744073709551616) (hn : nn x = false) (hq1 : 1 ≤ q) (hq2 : q < 1023) (hm : m < 4503599627370496) (h0 : mg x = nw q m) (w : World) :
  Calls Tryz.prog 65 #[.float .f64 x] w fun e w' => e = .returned (.int .u64 (x : Int)) ∧ w = w' := by
 have h1 := o_self x hx
 rw [hn] at h1
 have hmin := rMinus_c x hx
 have hnw : nw q m < 9218868437227405312 := nw_lt q m (by omega) hm
 have hnw0 : 0 < nw q m := by unfold nw; omega
 have h3 : (FloatKind.f64.format.order (nw q m) 0 == some Ordering.eq) = false := by
  rw [s_eq (nw q m) 0 (by omega) (by omega)]; exact decide_eq_false (by omega)
 obtain ⟨d, hd, hde⟩ := dbl_ne (nw q m) hnw0 hnw
 have hmul := fun wx => run_float_arith (P := Tryz.prog) wx .mul 49 .f64 _ _ _ hd
 have hsub := fun wx => run_float_arith (P := Tryz.prog) wx .sub 49 .f64 _ _ _ (sub_nw m hm)
 have hcv := fun wx => run_convert_float_int (P := Tryz.prog) wx 49 62 .f64 .u64 (en m B) (m : Int) (by kernel_rfl) Tryz.underlying62 (whole_en m (by omega))
 rcases mg_split x hx with ⟨hg, hv⟩ | ⟨hg, hv⟩
 case' inl =>
  have h4 := neg_mg x hx hg
  rw [h0] at hv h4
  have HV : Hid ((x : Int) = 9223372036854775808 + (q : Int) * 4503599627370496 + m) := by
   show (x : Int) = _
   unfold nw at hv
   omega
  clear hv h0 hd
  rw [hn, hg] at hmin
  have HM := Lib.hid hmin
  clear hmin
  go_enter Tryz.func65, Tryz.ntmps65
  go_wp2_with fail
  refine (HM.out _).mono ?_
  rintro e w' ⟨rfl, rfl⟩
  go_wp2_with fail
  refine (top_c _).mono ?_
  rintro e w' ⟨rfl, rfl⟩
  go_wp2
 case' inr =>
  rw [h0] at hv
  subst hv
  have HV : Hid (((nw q m : Nat) : Int) = 0 + (q : Int) * 4503599627370496 + m) := by
   show ((nw q m : Nat) : Int) = _
   unfold nw
   omega
  rw [hn, hg] at hmin
  have HM := Lib.hid hmin
  clear hmin h0 hd
  go_enter Tryz.func65, Tryz.ntmps65
  go_wp2_with fail
  refine (HM.out _).mono ?_
  rintro e w' ⟨rfl, rfl⟩
  go_wp2
 all_goals
  clear hmul h1 h3 hde
  have hge := s_ge (nw q m) 4611686018427387904 (by unfold nw; omega) (by omega)
  rw [decide_eq_false (show ¬ 4611686018427387904 ≤ nw q m from by unfold nw; omega)] at hge
  refine wp_loop_rounds 1 ?_
  rw [rounds_succ]
  go_wp2
  clear hge
  go_loop [0, 4] (fun f v => ∃ (j : Nat) (e : Int), f = .float .f64 (nw (q + j) m) ∧ v = .int .u64 e ∧ e + j ≤ 1023 ∧ 1023 ≤ e + j ∧ q + j ≤ 1023) (fun _ v => (Go.RowKit.intOf v).toNat)
  case atStart => exact ⟨0, 1023, rfl, rfl, by omega, by omega, by omega⟩
  case round =>
   obtain ⟨j, e, rfl, rfl, he1, he2, hjq⟩ := hrel
   have hlt := s_lt (nw (q + j) m) 4607182418800017408 (by unfold nw; omega) (by omega)
   by_cases hj : q + j < 1023
   ·rw [decide_eq_true (show nw (q + j) m < 4607182418800017408 from by unfold nw; omega)] at hlt
    have hmul := fun wx => run_float_arith (P := Tryz.prog) wx .mul 49 .f64 _ _ _ (mul_nw (q + j) (q + (j + 1)) 1024 m hm (by omega) (by omega) (by omega) (by omega) (by omega) (by omega) (by omega))
    rw [show (1024 * 4503599627370496 : Nat) = 4611686018427387904 from by decide] at hmul
    go_wp2
    go_round
    case rel => exact ⟨j + 1, e - 1, rfl, rfl, by omega, by omega, by omega⟩
    case measure => simp only [Go.RowKit.intOf]; omega
   ·rw [decide_eq_false (show ¬ nw (q + j) m < 4607182418800017408 from by unfold nw; omega)] at hlt
    have hqk : q + j = 1023 := by omega
    rw [hqk] at hlt ⊢
    clear hqk
    go_wp2
    clear hlt hsub
    go_loop [0, 5] (fun f v => ∃ j : Nat, j ≤ 52 ∧ v = .int .i64 j ∧ f = .float .f64 (en m (1022 + j))) (fun _ v => (52 - Go.RowKit.intOf v).toNat)
    case atStart => exact ⟨0, by omega, rfl, rfl⟩
    case round =>
     obtain ⟨j, hj, rfl, rfl⟩ := hrel
     by_cases hj2 : j < 52
     ·have hmul := fun wx => run_float_arith (P := Tryz.prog) wx .mul 49 .f64 _ _ _ (mul_two m (1022 + j) (by omega) (by omega))
      go_wp2
      go_round
      case rel => exact ⟨j + 1, by omega, by go_num, rfl⟩
      case measure => simp only [Go.RowKit.intOf]; omega
     ·obtain rfl : j = 52 := by omega
      rw [show en m (1022 + 52) = en m B from congrArg (en m) (show 1022 + 52 = B from rfl)]
      go_wp2
      go_ret
      exact ⟨ret_u64 (by rw [HV.out]; omega), rfl⟩
set_option maxHeartbeats 1000000 in
theorem rBits_tiny (x m : Nat) (hx : x < 18446744073709551616) (hn : nn x = false) (hm1 : 0 < m) (hm : m < 4503599627370496) (h0 : mg x = m) (w : World) :
  Calls Tryz.prog 65 #[.float .f64 x] w fun e w' => e = .returned (.int .u64 (x : Int)) ∧ w = w' := by
 have h1 := o_self x hx
 rw [hn] at h1
 have hmin := rMinus_c x hx
 have hnw : m < 9218868437227405312 := by omega
 have hnw0 : 0 < m := hm1
 have h7 := small_en m hm
 have H7 := Lib.hid h7
 clear h7
 have h3 : (FloatKind.f64.format.order (m) 0 == some Ordering.eq) = false := by
  rw [s_eq (m) 0 (by omega) (by omega)]; exact decide_eq_false (by omega)
 obtain ⟨d, hd, hde⟩ := dbl_ne (m) hnw0 hnw
 have hmul := fun wx => run_float_arith (P := Tryz.prog) wx .mul 49 .f64 _ _ _ hd
 have hcv := fun wx => run_convert_float_int (P := Tryz.prog) wx 49 62 .f64 .u64 (en m B) (m : Int) (by kernel_rfl) Tryz.underlying62 (whole_en m (by omega))
 rcases mg_split x hx with ⟨hg, hv⟩ | ⟨hg, hv⟩
 case' inl =>
  have h4 := neg_mg x hx hg
  rw [h0] at hv h4
  have HV : Hid ((x : Int) = 9223372036854775808 + m) := by
   show (x : Int) = _
   omega
  clear hv h0 hd
  rw [hn, hg] at hmin
  have HM := Lib.hid hmin
  clear hmin
  go_enter Tryz.func65, Tryz.ntmps65
  go_wp2_with fail
  refine (HM.out _).mono ?_
  rintro e w' ⟨rfl, rfl⟩
  go_wp2_with fail
  refine (top_c _).mono ?_
  rintro e w' ⟨rfl, rfl⟩
  go_wp2
 case' inr =>
  rw [h0] at hv
  subst x
  have HV : Hid (((m : Nat) : Int) = 0 + m) := by
   show ((m : Nat) : Int) = _
   omega
  rw [hn, hg] at hmin
  have HM := Lib.hid hmin
  clear hmin h0 hd
  go_enter Tryz.func65, Tryz.ntmps65
  go_wp2_with fail
  refine (HM.out _).mono ?_
  rintro e w' ⟨rfl, rfl⟩
  go_wp2
 all_goals
  clear hmul h1 h3 hde
  have hge := s_ge m 4611686018427387904 (by omega) (by omega)
  rw [decide_eq_false (show ¬ 4611686018427387904 ≤ m from by omega)] at hge
  refine wp_loop_rounds 1 ?_
  rw [rounds_succ]
  go_wp2
  clear hge
  go_loop [0, 4] (fun f v => ∃ (j : Nat) (e : Int), f = .float .f64 (en m j) ∧ v = .int .u64 e ∧ e + j ≤ 1023 ∧ 1023 ≤ e + j ∧ j ≤ 1022) (fun _ v => (Go.RowKit.intOf v).toNat)
  case atStart => exact ⟨0, 1023, congrArg (Value.float .f64) H7.out, rfl, by omega, by omega, by omega⟩
  case round =>
   obtain ⟨j, e, rfl, rfl, he1, he2, hjq⟩ := hrel
   have hlm := en_small_lt m j hm hjq
   have hlt := s_lt (en m j) 4607182418800017408 (by omega) (by omega)
   rw [decide_eq_true hlm] at hlt
   by_cases hj : j < 1022
   ·have hmul := fun wx => run_float_arith (P := Tryz.prog) wx .mul 49 .f64 _ _ _ (mul_two m j (by omega) (by omega))
    go_wp2
    go_round
    case rel => exact ⟨j + 1, e - 1, rfl, rfl, by omega, by omega, by omega⟩
    case measure => simp only [Go.RowKit.intOf]; omega
   ·obtain rfl : j = 1022 := by omega
    go_wp2
    clear hlt hlm
    go_loop [0, 5] (fun f v => ∃ j : Nat, j ≤ 52 ∧ v = .int .i64 j ∧ f = .float .f64 (en m (1022 + j))) (fun _ v => (52 - Go.RowKit.intOf v).toNat)
    case atStart => exact ⟨0, by omega, rfl, rfl⟩
    case round =>
     obtain ⟨j, hj, rfl, rfl⟩ := hrel
     by_cases hj2 : j < 52
     ·have hmul := fun wx => run_float_arith (P := Tryz.prog) wx .mul 49 .f64 _ _ _ (mul_two m (1022 + j) (by omega) (by omega))
      go_wp2
      go_round
      case rel => exact ⟨j + 1, by omega, by go_num, rfl⟩
      case measure => simp only [Go.RowKit.intOf]; omega
     ·obtain rfl : j = 52 := by omega
      rw [show en m (1022 + 52) = en m B from congrArg (en m) (show 1022 + 52 = B from rfl)]
      go_wp2
      go_ret
      exact ⟨ret_u64 (by have := HV.out; omega), rfl⟩
end Go.Proofs.YtojhenpaeedimaaGreat
end
