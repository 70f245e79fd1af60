/-
 Contracts of bits.part, bits.Kind, bits.Minus, bits.Canon.
-/
import Derived.Test.YtojhenpaeedimaaNd
import Derived.Test.YtojhenpaeedimaaFf
namespace Go.Proofs.Ytojhenpaeedimaa
open Go.RowKit
open Fl
set_option maxRecDepth 100000
set_option maxHeartbeats 1000000 in
theorem part_c (q m : Nat) (hq1 : 1 ≤ q) (hq2 : q ≤ 2046) (hm : m < 4503599627370496) (w : World) :
  Calls Try.prog 48 #[.float .f64 (nw q m)] w fun e w' => e = .returned (.tuple #[.float .f64 (nw 1023 m), .int .i64 ((q : Int) - 1023)]) ∧ Below w.heap.size w w' := by
 go_enter Try.func48, Try.ntmps48
 go_wp2_with fail
 refine (powers_c _).mono ?_
 rintro e w1 ⟨rfl, hb1⟩
 go_wp2_with fail
 go_loopw [0, 4, 8] (fun f x i wr => ∃ (k d : Nat) (y : Int), k ≤ 10 ∧ i = .int .i64 k ∧ f = .float .f64 (nw d m) ∧ x = .int .i64 y ∧ 1 ≤ d ∧ d ≤ 2046 ∧ (d : Int) + y ≤ q ∧ (q : Int) ≤ d + y ∧ 1023 - bd k < d ∧ (d : Int) < 1023 + bd k ∧ Below w.heap.size w wr)
  (fun _ _ i _ => 10 - (Go.RowKit.intOf i).toNat)
 case atStart => exact ⟨0, q, 0, by omega, rfl, rfl, rfl, hq1, hq2, by omega, by omega, by rw [bd_zero]; omega, by rw [bd_zero]; omega, hb1⟩
 case round =>
  obtain ⟨k, d, y, hk, rfl, rfl, rfl, hd1, hd2, hy1, hy2, hb3, hb4, hb⟩ := hrel
  by_cases hlt : k < 10
  ·have hp := pw_bd k
   have hpd := bd_dbl k hlt
   have hidx := index_row k hlt
   have hup : pUp k = nw (1023 + (pw k).toNat) 0 := by unfold pUp nw; omega
   have hge := s_ge (nw d m) (pUp k) (by unfold nw; omega) (by unfold pUp; omega)
   by_cases h1 : 1023 + pw k ≤ d
   ·have h2 : pUp k ≤ nw d m := by unfold pUp nw; omega
    rw [decide_eq_true h2] at hge
    have hmul := fun wx => run_float_arith (P := Try.prog) wx .mul 28 .f64 _ _ _ (mul_nw d (d - (pw k).toNat) (1023 - (pw k).toNat) m hm hd1 hd2 (by omega) (by omega) (by omega) (by omega) (by omega))
    have hdn : (1023 - (pw k).toNat) * 4503599627370496 = pDn k := rfl
    rw [hdn] at hmul
    clear hup hdn h2
    go_wp2_with fail
    go_quiet (fail)
    go_wp2
    go_roundw
    case rel => exact ⟨k + 1, d - (pw k).toNat, y + pw k, by omega, by go_num, rfl, rfl, by omega, by omega, by omega, by omega, by rw [bd_succ]; omega, by rw [bd_succ]; omega, below_drewN (hb.alloc hb.size _) _⟩
    case measure => simp only [Go.RowKit.intOf]; omega
   ·have h2 : ¬ pUp k ≤ nw d m := by unfold pUp nw; omega
    rw [decide_eq_false h2] at hge
    have hmul := fun wx => run_float_arith (P := Try.prog) wx .mul 28 .f64 _ _ _ (mul_nw d (d + (pw k).toNat) (1023 + (pw k).toNat) m hm hd1 hd2 (by omega) (by omega) (by omega) (by omega) (by omega))
    have hdn : (1023 + (pw k).toNat) * 4503599627370496 = pUp k := rfl
    rw [hdn] at hmul
    have htw := s_lt (nw (d + (pw k).toNat) m) 4611686018427387904 (by unfold nw; omega) (by omega)
    clear hup hdn h2
    by_cases h3 : (d : Int) + pw k ≤ 1023
    ·have h4 : nw (d + (pw k).toNat) m < 4611686018427387904 := by unfold nw; omega
     rw [decide_eq_true h4] at htw
     go_wp2_with fail
     go_quiet (fail)
     go_wp2
     go_roundw
     case rel => exact ⟨k + 1, d + (pw k).toNat, y - pw k, by omega, by go_num, rfl, rfl, by omega, by omega, by omega, by omega, by rw [bd_succ]; omega, by rw [bd_succ]; omega, below_drewN (hb.alloc hb.size _) _⟩
     case measure => simp only [Go.RowKit.intOf]; omega
    ·have h4 : ¬ nw (d + (pw k).toNat) m < 4611686018427387904 := by unfold nw; omega
     rw [decide_eq_false h4] at htw
     go_wp2
     go_roundw
     case rel => exact ⟨k + 1, d, y, by omega, by go_num, rfl, rfl, by omega, by omega, by omega, by omega, by rw [bd_succ]; omega, by rw [bd_succ]; omega, hb.alloc hb.size _⟩
     case measure => simp only [Go.RowKit.intOf]; omega
  ·obtain rfl : k = 10 := by omega
   rw [bd_ten] at hb3 hb4
   obtain rfl : d = 1023 := by omega
   obtain rfl : y = (q : Int) - 1023 := by omega
   go_wp2
   go_ret2
   exact ⟨rfl, hb⟩
theorem kind_c (x : Nat) (hx : x < 18446744073709551616) (w : World) :
  Calls Try.prog 45 #[.float .f64 x] w fun e w' => e = .returned (.int .i64 (kd x)) ∧ w = w' := by
 have hm := mg_lt x
 cases hn : nn x
 ·have hz := o_zero x hx hn
  have hle : mg x ≤ 9218868437227405312 := by rw [nn_mg] at hn; simpa using hn
  by_cases h1 : mg x = 9218868437227405312
  ·have hk : kd x = 3 := by simp [kd, hn, h1]
   rw [hk]
   clear hz
   go_enter Try.func45, Try.ntmps45
   go_wp2_with (first | (go_at_call 68; refine (isNaN_c x hx _).mono ?_; rintro e w' ⟨rfl, rfl⟩; rw [hn]) | (go_at_call 69; refine (isInf_c x hx _).mono ?_; rintro e w' ⟨rfl, rfl⟩; rw [decide_eq_true h1]))
   go_ret
   exact ⟨rfl, rfl⟩
  ·by_cases h0 : mg x = 0
   ·have hk : kd x = 0 := by simp [kd, hn, h0]
    rw [hk]
    rw [decide_eq_true h0] at hz
    go_enter Try.func45, Try.ntmps45
    go_wp2_with (first | (go_at_call 68; refine (isNaN_c x hx _).mono ?_; rintro e w' ⟨rfl, rfl⟩; rw [hn]) | (go_at_call 69; refine (isInf_c x hx _).mono ?_; rintro e w' ⟨rfl, rfl⟩; rw [decide_eq_false h1]))
    go_ret
    exact ⟨rfl, rfl⟩
   ·rw [decide_eq_false h0] at hz
    have ht := s_lt (mg x) 4503599627370496 hle (by omega)
    by_cases h2 : mg x < 4503599627370496
    ·have hk : kd x = 1 := by simp [kd, hn, h0, h1, h2]
     rw [hk]
     rw [decide_eq_true h2] at ht
     go_enter Try.func45, Try.ntmps45
     go_wp2_with (first | (go_at_call 68; refine (isNaN_c x hx _).mono ?_; rintro e w' ⟨rfl, rfl⟩; rw [hn]) | (go_at_call 69; refine (isInf_c x hx _).mono ?_; rintro e w' ⟨rfl, rfl⟩; rw [decide_eq_false h1]) | (go_at_call 47; refine (abs_c x hx _).mono ?_; rintro e w' ⟨rfl, rfl⟩))
     go_ret
     exact ⟨rfl, rfl⟩
    ·have hk : kd x = 2 := by simp [kd, hn, h0, h1, h2]
     rw [hk]
     rw [decide_eq_false h2] at ht
     go_enter Try.func45, Try.ntmps45
     go_wp2_with (first | (go_at_call 68; refine (isNaN_c x hx _).mono ?_; rintro e w' ⟨rfl, rfl⟩; rw [hn]) | (go_at_call 69; refine (isInf_c x hx _).mono ?_; rintro e w' ⟨rfl, rfl⟩; rw [decide_eq_false h1]) | (go_at_call 47; refine (abs_c x hx _).mono ?_; rintro e w' ⟨rfl, rfl⟩))
     go_ret
     exact ⟨rfl, rfl⟩
 ·have hk : kd x = 4 := by simp [kd, hn]
  rw [hk]
  go_enter Try.func45, Try.ntmps45
  go_wp2_with (first | (go_at_call 68; refine (isNaN_c x hx _).mono ?_; rintro e w' ⟨rfl, rfl⟩; rw [hn]))
  go_ret
  exact ⟨rfl, rfl⟩
theorem minus_c (x : Nat) (hx : x < 18446744073709551616) (w : World) :
  Calls Try.prog 49 #[.float .f64 x] w fun e w' => e = .returned (.bool (!nn x && ng x)) ∧ w = w' := by
 cases hn : nn x
 ·go_enter Try.func49, Try.ntmps49
  go_wp2_with (first | (go_at_call 68; refine (isNaN_c x hx _).mono ?_; rintro e w' ⟨rfl, rfl⟩; rw [hn]) | (go_at_call 73; refine (signbit_c x hx _).mono ?_; rintro e w' ⟨rfl, rfl⟩))
  go_ret
  exact ⟨by simp, rfl⟩
 ·go_enter Try.func49, Try.ntmps49
  go_wp2_with (first | (go_at_call 68; refine (isNaN_c x hx _).mono ?_; rintro e w' ⟨rfl, rfl⟩; rw [hn]) | (go_at_call 73; refine (signbit_c x hx _).mono ?_; rintro e w' ⟨rfl, rfl⟩))
  go_ret
  exact ⟨rfl, rfl⟩
end Go.Proofs.Ytojhenpaeedimaa
