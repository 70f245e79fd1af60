/-
 Contract of the document's answer for layer 1: Bits, of plain and tiny numbers.
-/
import Derived.Test.YtojhenpaeedimaaNh
namespace Go.Proofs.Ytojhenpaeedimaa
open Go.RowKit
open Fl
set_option maxRecDepth 100000
theorem ret_u64 {a b : Int} (h : a = b) : Ending.returned (.int .u64 a) = .returned (.int .u64 b) := by rw [h]
set_option maxHeartbeats 1000000 in
theorem rBits_big (x q m : Nat) (hx : x < 18446744073709551616) (hn : nn x = false) (hq1 : 1023 ≤ q) (hq2 : q ≤ 2046) (hm : m < 4503599627370496) (h0 : mg x = nw q m) (w : World) :
  Calls Try.prog 27 #[.float .f64 x] w fun e w' => e = .returned (.int .u64 (x : Int)) ∧ w = w' := by
 have h1 := o_self x hx
 rw [hn] at h1
 have hmin := rMinus_c x hx
 have hnw : nw q m < 9218868437227405312 := nw_lt q m hq2 hm
 have hnw0 : 0 < nw q m := by unfold nw; omega
 have h3 : (FloatKind.f64.format.order (nw q m) 0 == some Ordering.eq) = false := by
  rw [s_eq (nw q m) 0 (by omega) (by omega)]; exact decide_eq_false (by omega)
 obtain ⟨d, hd, hde⟩ := dbl_ne (nw q m) hnw0 hnw
 have hmul := fun wx => run_float_arith (P := Try.prog) wx .mul 28 .f64 _ _ _ hd
 have hsub := fun wx => run_float_arith (P := Try.prog) wx .sub 28 .f64 _ _ _ (sub_nw m hm)
 have hcv := fun wx => run_convert_float_int (P := Try.prog) wx 28 52 .f64 .u64 (en m B) (m : Int) (by kernel_rfl) Try.underlying52 (whole_en m (by omega))
 rcases mg_split x hx with ⟨hg, hv⟩ | ⟨hg, hv⟩
 case' inl =>
  have h4 := neg_mg x hx hg
  rw [h0] at hv h4
  have HV : Hid ((x : Int) = 9223372036854775808 + (q : Int) * 4503599627370496 + m) := by
   show (x : Int) = _
   unfold nw at hv
   omega
  clear hv h0 hd
  rw [hn, hg] at hmin
  have HM := Lib.hid hmin
  clear hmin
  go_enter Try.func27, Try.ntmps27
  go_wp2_with fail
  refine (HM.out _).mono ?_
  rintro e w' ⟨rfl, rfl⟩
  go_wp2_with fail
  refine (top_c _).mono ?_
  rintro e w' ⟨rfl, rfl⟩
  go_wp2
 case' inr =>
  rw [h0] at hv
  subst hv
  have HV : Hid (((nw q m : Nat) : Int) = 0 + (q : Int) * 4503599627370496 + m) := by
   show ((nw q m : Nat) : Int) = _
   unfold nw
   omega
  rw [hn, hg] at hmin
  have HM := Lib.hid hmin
  clear hmin h0 hd
  go_enter Try.func27, Try.ntmps27
  go_wp2_with fail
  refine (HM.out _).mono ?_
  rintro e w' ⟨rfl, rfl⟩
  go_wp2
 all_goals
  clear hmul h1 h3 hde
  go_loop [0, 4] (fun f v => ∃ (k : Nat) (e : Int), f = .float .f64 (nw (q - k) m) ∧ v = .int .u64 e ∧ e ≤ 1023 + k ∧ 1023 + k ≤ e ∧ k + 1023 ≤ q) (fun _ v => (3000 - Go.RowKit.intOf v).toNat)
  case atStart => exact ⟨0, 1023, rfl, rfl, by omega, by omega, by omega⟩
  case round =>
   obtain ⟨k, e, rfl, rfl, he1, he2, hkq⟩ := hrel
   have hge := s_ge (nw (q - k) m) 4611686018427387904 (by unfold nw; omega) (by omega)
   by_cases hk : k + 1023 < q
   ·rw [decide_eq_true (show 4611686018427387904 ≤ nw (q - k) m from by unfold nw; omega)] at hge
    have hmul := fun wx => run_float_arith (P := Try.prog) wx .mul 28 .f64 _ _ _ (mul_nw (q - k) (q - (k + 1)) 1022 m hm (by omega) (by omega) (by omega) (by omega) (by omega) (by omega) (by omega))
    rw [show (1022 * 4503599627370496 : Nat) = 4602678819172646912 from by decide] at hmul
    go_wp2
    go_round
    case rel => exact ⟨k + 1, e + 1, rfl, rfl, by omega, by omega, by omega⟩
    case measure => simp only [Go.RowKit.intOf]; omega
   ·rw [decide_eq_false (show ¬ 4611686018427387904 ≤ nw (q - k) m from by unfold nw; omega)] at hge
    have hqk : q - k = 1023 := by omega
    rw [hqk] at hge ⊢
    clear hqk
    have hlt := s_lt (nw 1023 m) 4607182418800017408 (by unfold nw; omega) (by omega)
    rw [decide_eq_false (show ¬ nw 1023 m < 4607182418800017408 from by unfold nw; omega)] at hlt
    go_wp2
    refine wp_loop_rounds 1 ?_
    rw [rounds_succ]
    go_wp2
    clear hlt hge hsub
    go_loop [0, 5] (fun f v => ∃ j : Nat, j ≤ 52 ∧ v = .int .i64 j ∧ f = .float .f64 (en m (1022 + j))) (fun _ v => (52 - Go.RowKit.intOf v).toNat)
    case atStart => exact ⟨0, by omega, rfl, rfl⟩
    case round =>
     obtain ⟨j, hj, rfl, rfl⟩ := hrel
     by_cases hj2 : j < 52
     ·have hmul := fun wx => run_float_arith (P := Try.prog) wx .mul 28 .f64 _ _ _ (mul_two m (1022 + j) (by omega) (by omega))
      go_wp2
      go_round
      case rel => exact ⟨j + 1, by omega, by go_num, rfl⟩
      case measure => simp only [Go.RowKit.intOf]; omega
     ·obtain rfl : j = 52 := by omega
      rw [show en m (1022 + 52) = en m B from congrArg (en m) (show 1022 + 52 = B from rfl)]
      go_wp2
      go_ret
      exact ⟨ret_u64 (by rw [HV.out]; omega), rfl⟩
set_option maxHeartbeats 1000000 in
theorem rBits_low (x q m : Nat) (hx : x < 18446744073709551616) (hn : nn x = false) (hq1 : 1 ≤ q) (hq2 : q < 1023) (hm : m < 4503599627370496) (h0 : mg x = nw q m) (w : World) :
  Calls Try.prog 27 #[.float .f64 x] w fun e w' => e = .returned (.int .u64 (x : Int)) ∧ w = w' := by
 have h1 := o_self x hx
 rw [hn] at h1
 have hmin := rMinus_c x hx
 have hnw : nw q m < 9218868437227405312 := nw_lt q m (by omega) hm
 have hnw0 : 0 < nw q m := by unfold nw; omega
 have h3 : (FloatKind.f64.format.order (nw q m) 0 == some Ordering.eq) = false := by
  rw [s_eq (nw q m) 0 (by omega) (by omega)]; exact decide_eq_false (by omega)
 obtain ⟨d, hd, hde⟩ := dbl_ne (nw q m) hnw0 hnw
 have hmul := fun wx => run_float_arith (P := Try.prog) wx .mul 28 .f64 _ _ _ hd
 have hsub := fun wx => run_float_arith (P := Try.prog) wx .sub 28 .f64 _ _ _ (sub_nw m hm)
 have hcv := fun wx => run_convert_float_int (P := Try.prog) wx 28 52 .f64 .u64 (en m B) (m : Int) (by kernel_rfl) Try.underlying52 (whole_en m (by omega))
 rcases mg_split x hx with ⟨hg, hv⟩ | ⟨hg, hv⟩
 case' inl =>
  have h4 := neg_mg x hx hg
  rw [h0] at hv h4
  have HV : Hid ((x : Int) = 9223372036854775808 + (q : Int) * 4503599627370496 + m) := by
   show (x : Int) = _
   unfold nw at hv
   omega
  clear hv h0 hd
  rw [hn, hg] at hmin
  have HM := Lib.hid hmin
  clear hmin
  go_enter Try.func27, Try.ntmps27
  go_wp2_with fail
  refine (HM.out _).mono ?_
  rintro e w' ⟨rfl, rfl⟩
  go_wp2_with fail
  refine (top_c _).mono ?_
  rintro e w' ⟨rfl, rfl⟩
  go_wp2
 case' inr =>
  rw [h0] at hv
  subst hv
  have HV : Hid (((nw q m : Nat) : Int) = 0 + (q : Int) * 4503599627370496 + m) := by
   show ((nw q m : Nat) : Int) = _
   unfold nw
   omega
  rw [hn, hg] at hmin
  have HM := Lib.hid hmin
  clear hmin h0 hd
  go_enter Try.func27, Try.ntmps27
  go_wp2_with fail
  refine (HM.out _).mono ?_
  rintro e w' ⟨rfl, rfl⟩
  go_wp2
 all_goals
  clear hmul h1 h3 hde
  have hge := s_ge (nw q m) 4611686018427387904 (by unfold nw; omega) (by omega)
  rw [decide_eq_false (show ¬ 4611686018427387904 ≤ nw q m from by unfold nw; omega)] at hge
  refine wp_loop_rounds 1 ?_
  rw [rounds_succ]
  go_wp2
  clear hge
  go_loop [0, 4] (fun f v => ∃ (j : Nat) (e : Int), f = .float .f64 (nw (q + j) m) ∧ v = .int .u64 e ∧ e + j ≤ 1023 ∧ 1023 ≤ e + j ∧ q + j ≤ 1023) (fun _ v => (Go.RowKit.intOf v).toNat)
  case atStart => exact ⟨0, 1023, rfl, rfl, by omega, by omega, by omega⟩
  case round =>
   obtain ⟨j, e, rfl, rfl, he1, he2, hjq⟩ := hrel
   have hlt := s_lt (nw (q + j) m) 4607182418800017408 (by unfold nw; omega) (by omega)
   by_cases hj : q + j < 1023
   ·rw [decide_eq_true (show nw (q + j) m < 4607182418800017408 from by unfold nw; omega)] at hlt
    have hmul := fun wx => run_float_arith (P := Try.prog) wx .mul 28 .f64 _ _ _ (mul_nw (q + j) (q + (j + 1)) 1024 m hm (by omega) (by omega) (by omega) (by omega) (by omega) (by omega) (by omega))
    rw [show (1024 * 4503599627370496 : Nat) = 4611686018427387904 from by decide] at hmul
    go_wp2
    go_round
    case rel => exact ⟨j + 1, e - 1, rfl, rfl, by omega, by omega, by omega⟩
    case measure => simp only [Go.RowKit.intOf]; omega
   ·rw [decide_eq_false (show ¬ nw (q + j) m < 4607182418800017408 from by unfold nw; omega)] at hlt
    have hqk : q + j = 1023 := by omega
    rw [hqk] at hlt ⊢
    clear hqk
    go_wp2
    clear hlt hsub
    go_loop [0, 5] (fun f v => ∃ j : Nat, j ≤ 52 ∧ v = .int .i64 j ∧ f = .float .f64 (en m (1022 + j))) (fun _ v => (52 - Go.RowKit.intOf v).toNat)
    case atStart => exact ⟨0, by omega, rfl, rfl⟩
    case round =>
     obtain ⟨j, hj, rfl, rfl⟩ := hrel
     by_cases hj2 : j < 52
     ·have hmul := fun wx => run_float_arith (P := Try.prog) wx .mul 28 .f64 _ _ _ (mul_two m (1022 + j) (by omega) (by omega))
      go_wp2
      go_round
      case rel => exact ⟨j + 1, by omega, by go_num, rfl⟩
      case measure => simp only [Go.RowKit.intOf]; omega
     ·obtain rfl : j = 52 := by omega
      rw [show en m (1022 + 52) = en m B from congrArg (en m) (show 1022 + 52 = B from rfl)]
      go_wp2
      go_ret
      exact ⟨ret_u64 (by rw [HV.out]; omega), rfl⟩
set_option maxHeartbeats 1000000 in
theorem rBits_tiny (x m : Nat) (hx : x < 18446744073709551616) (hn : nn x = false) (hm1 : 0 < m) (hm : m < 4503599627370496) (h0 : mg x = m) (w : World) :
  Calls Try.prog 27 #[.float .f64 x] w fun e w' => e = .returned (.int .u64 (x : Int)) ∧ w = w' := by
 have h1 := o_self x hx
 rw [hn] at h1
 have hmin := rMinus_c x hx
 have hnw : m < 9218868437227405312 := by omega
 have hnw0 : 0 < m := hm1
 have h7 := small_en m hm
 have H7 := Lib.hid h7
 clear h7
 have h3 : (FloatKind.f64.format.order (m) 0 == some Ordering.eq) = false := by
  rw [s_eq (m) 0 (by omega) (by omega)]; exact decide_eq_false (by omega)
 obtain ⟨d, hd, hde⟩ := dbl_ne (m) hnw0 hnw
 have hmul := fun wx => run_float_arith (P := Try.prog) wx .mul 28 .f64 _ _ _ hd
 have hcv := fun wx => run_convert_float_int (P := Try.prog) wx 28 52 .f64 .u64 (en m B) (m : Int) (by kernel_rfl) Try.underlying52 (whole_en m (by omega))
 rcases mg_split x hx with ⟨hg, hv⟩ | ⟨hg, hv⟩
 case' inl =>
  have h4 := neg_mg x hx hg
  rw [h0] at hv h4
  have HV : Hid ((x : Int) = 9223372036854775808 + m) := by
   show (x : Int) = _
   omega
  clear hv h0 hd
  rw [hn, hg] at hmin
  have HM := Lib.hid hmin
  clear hmin
  go_enter Try.func27, Try.ntmps27
  go_wp2_with fail
  refine (HM.out _).mono ?_
  rintro e w' ⟨rfl, rfl⟩
  go_wp2_with fail
  refine (top_c _).mono ?_
  rintro e w' ⟨rfl, rfl⟩
  go_wp2
 case' inr =>
  rw [h0] at hv
  subst x
  have HV : Hid (((m : Nat) : Int) = 0 + m) := by
   show ((m : Nat) : Int) = _
   omega
  rw [hn, hg] at hmin
  have HM := Lib.hid hmin
  clear hmin h0 hd
  go_enter Try.func27, Try.ntmps27
  go_wp2_with fail
  refine (HM.out _).mono ?_
  rintro e w' ⟨rfl, rfl⟩
  go_wp2
 all_goals
  clear hmul h1 h3 hde
  have hge := s_ge m 4611686018427387904 (by omega) (by omega)
  rw [decide_eq_false (show ¬ 4611686018427387904 ≤ m from by omega)] at hge
  refine wp_loop_rounds 1 ?_
  rw [rounds_succ]
  go_wp2
  clear hge
  go_loop [0, 4] (fun f v => ∃ (j : Nat) (e : Int), f = .float .f64 (en m j) ∧ v = .int .u64 e ∧ e + j ≤ 1023 ∧ 1023 ≤ e + j ∧ j ≤ 1022) (fun _ v => (Go.RowKit.intOf v).toNat)
  case atStart => exact ⟨0, 1023, congrArg (Value.float .f64) H7.out, rfl, by omega, by omega, by omega⟩
  case round =>
   obtain ⟨j, e, rfl, rfl, he1, he2, hjq⟩ := hrel
   have hlm := en_small_lt m j hm hjq
   have hlt := s_lt (en m j) 4607182418800017408 (by omega) (by omega)
   rw [decide_eq_true hlm] at hlt
   by_cases hj : j < 1022
   ·have hmul := fun wx => run_float_arith (P := Try.prog) wx .mul 28 .f64 _ _ _ (mul_two m j (by omega) (by omega))
    go_wp2
    go_round
    case rel => exact ⟨j + 1, e - 1, rfl, rfl, by omega, by omega, by omega⟩
    case measure => simp only [Go.RowKit.intOf]; omega
   ·obtain rfl : j = 1022 := by omega
    go_wp2
    clear hlt hlm
    go_loop [0, 5] (fun f v => ∃ j : Nat, j ≤ 52 ∧ v = .int .i64 j ∧ f = .float .f64 (en m (1022 + j))) (fun _ v => (52 - Go.RowKit.intOf v).toNat)
    case atStart => exact ⟨0, by omega, rfl, rfl⟩
    case round =>
     obtain ⟨j, hj, rfl, rfl⟩ := hrel
     by_cases hj2 : j < 52
     ·have hmul := fun wx => run_float_arith (P := Try.prog) wx .mul 28 .f64 _ _ _ (mul_two m (1022 + j) (by omega) (by omega))
      go_wp2
      go_round
      case rel => exact ⟨j + 1, by omega, by go_num, rfl⟩
      case measure => simp only [Go.RowKit.intOf]; omega
     ·obtain rfl : j = 52 := by omega
      rw [show en m (1022 + 52) = en m B from congrArg (en m) (show 1022 + 52 = B from rfl)]
      go_wp2
      go_ret
      exact ⟨ret_u64 (by have := HV.out; omega), rfl⟩
end Go.Proofs.Ytojhenpaeedimaa
