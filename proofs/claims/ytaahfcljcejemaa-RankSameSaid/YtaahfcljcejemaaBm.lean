/-
  Contracts of package rank's Key, Compare, Unkey, Between and of the document's.
-/
import Derived.Test.YtaahfcljcejemaaBl
import Derived.Test.YtaahfcljcejemaaFh
namespace Go.Proofs.Ytaahfcljcejemaa
open Go.RowKit
open Fl
set_option maxRecDepth 100000

theorem key_c (x : Nat) (hx : x < 18446744073709551616) (w : World) :
    Calls Try.prog 32 #[.float .f64 x] w fun e w' => e = .returned (.int .u64 (ky x : Int)) ∧ Below w.heap.size w w' := by
  have hc := cb_lt x hx
  have h1 := and_top (cb x) hc
  rcases ng_cases (cb x) with ⟨h, _⟩ | ⟨h, h0⟩
  · rw [h] at h1
    simp only [if_true] at h1
    rw [ky_neg h]
    have h2 := not_max (cb x) hc
    go_enter Try.func32, Try.ntmps32
    go_wp2_with fail
    refine (bits_c x hx _).mono ?_
    rintro e w1 ⟨rfl, hb1⟩
    go_wp2
    go_ret
    exact ⟨rfl, hb1⟩
  · rw [h] at h1
    simp only [Bool.false_eq_true, if_false] at h1
    rw [ky_pos h]
    have h2 := or_top (cb x) h0
    go_enter Try.func32, Try.ntmps32
    go_wp2_with fail
    refine (bits_c x hx _).mono ?_
    rintro e w1 ⟨rfl, hb1⟩
    go_wp2
    go_ret
    exact ⟨rfl, hb1⟩

theorem rKey_c (x : Nat) (hx : x < 18446744073709551616) (w : World) :
    Calls Try.prog 33 #[.float .f64 x] w fun e w' => e = .returned (.int .u64 (ky x : Int)) ∧ w = w' := by
  have hc := cb_lt x hx
  rcases ng_cases (cb x) with ⟨h, h0⟩ | ⟨h, h0⟩
  · have h1 : decide ((cb x : Int) < 9223372036854775808) = false := decide_eq_false (by omega)
    rw [ky_neg h]
    have hz : (18446744073709551615 : Int) - (cb x : Int) = ((18446744073709551615 - cb x : Nat) : Int) := by omega
    have HZ := Lib.hid hz
    clear h0 hz
    go_enter Try.func33, Try.ntmps33
    go_wp2_with fail
    refine (rBits_c x hx _).mono ?_
    rintro e w1 ⟨rfl, rfl⟩
    go_wp2
    go_ret
    exact ⟨ret_u64 HZ.out, rfl⟩
  · have h1 : decide ((cb x : Int) < 9223372036854775808) = true := decide_eq_true (by omega)
    rw [ky_pos h]
    have hu : (cb x : Int) + 9223372036854775808 ≤ 18446744073709551615 := by omega
    clear h0
    go_enter Try.func33, Try.ntmps33
    go_wp2_with fail
    refine (rBits_c x hx _).mono ?_
    rintro e w1 ⟨rfl, rfl⟩
    go_wp2
    go_ret
    exact ⟨rfl, rfl⟩

theorem cmp64_c (x y : Nat) (w : World) :
    Calls Try.prog 50 #[.int .u64 (x : Int), .int .u64 (y : Int)] w fun e w' => e = .returned (.int .i64 (cm x y)) ∧ w = w' := by
  rcases Nat.lt_trichotomy x y with h | h | h
  · have hc : cm x y = -1 := by unfold cm; rw [if_pos h]
    rw [hc]
    go_enter Try.func50, Try.ntmps50
    go_wp2
    go_ret
    exact ⟨rfl, rfl⟩
  · subst h
    have hc : cm x x = 0 := by unfold cm; rw [if_neg (by omega), if_neg (by omega)]
    rw [hc]
    go_enter Try.func50, Try.ntmps50
    go_wp2
    go_ret
    exact ⟨rfl, rfl⟩
  · have hc : cm x y = 1 := by unfold cm; rw [if_neg (by omega), if_pos h]
    rw [hc]
    go_enter Try.func50, Try.ntmps50
    go_wp2
    go_ret
    exact ⟨rfl, rfl⟩

theorem compare_c (x y : Nat) (hx : x < 18446744073709551616) (hy : y < 18446744073709551616) (w : World) :
    Calls Try.prog 34 #[.float .f64 x, .float .f64 y] w fun e w' => e = .returned (.int .i64 (cm (ky x) (ky y))) ∧ Below w.heap.size w w' := by
  go_enter Try.func34, Try.ntmps34
  go_wp2_with fail
  refine (key_c x hx _).mono ?_
  rintro e w1 ⟨rfl, hb1⟩
  go_wp2_with fail
  refine (key_c y hy _).mono ?_
  rintro e w2 ⟨rfl, hb2⟩
  go_wp2_with fail
  refine (cmp64_c (ky x) (ky y) _).mono ?_
  rintro e w3 ⟨rfl, rfl⟩
  go_wp2
  go_ret
  exact ⟨rfl, hb1.trans (hb2.mono hb1.size)⟩

theorem rCompare_c (x y : Nat) (hx : x < 18446744073709551616) (hy : y < 18446744073709551616) (w : World) :
    Calls Try.prog 35 #[.float .f64 x, .float .f64 y] w fun e w' => e = .returned (.int .i64 (cm (ky x) (ky y))) ∧ w = w' := by
  have hkx := ky_lt x
  have hky := ky_lt y
  rcases Nat.lt_trichotomy (ky x) (ky y) with h | h | h
  · have hc : cm (ky x) (ky y) = -1 := by unfold cm; rw [if_pos h]
    rw [hc]
    go_enter Try.func35, Try.ntmps35
    go_wp2_with fail
    refine (rKey_c x hx _).mono ?_
    rintro e w1 ⟨rfl, rfl⟩
    go_wp2_with fail
    refine (rKey_c y hy _).mono ?_
    rintro e w1 ⟨rfl, rfl⟩
    go_wp2
    go_ret
    exact ⟨rfl, rfl⟩
  · have hc : cm (ky x) (ky y) = 0 := by unfold cm; rw [if_neg (by omega), if_neg (by omega)]
    rw [hc]
    have h1 : ¬ ky x < ky y := by omega
    have h2 : ¬ ky y < ky x := by omega
    clear h hc
    go_enter Try.func35, Try.ntmps35
    go_wp2_with fail
    refine (rKey_c x hx _).mono ?_
    rintro e w1 ⟨rfl, rfl⟩
    go_wp2_with fail
    refine (rKey_c y hy _).mono ?_
    rintro e w1 ⟨rfl, rfl⟩
    go_wp2_with fail
    refine (rKey_c x hx _).mono ?_
    rintro e w1 ⟨rfl, rfl⟩
    go_wp2_with fail
    refine (rKey_c y hy _).mono ?_
    rintro e w1 ⟨rfl, rfl⟩
    go_wp2
    go_ret
    exact ⟨rfl, rfl⟩
  · have hc : cm (ky x) (ky y) = 1 := by unfold cm; rw [if_neg (by omega), if_pos h]
    rw [hc]
    go_enter Try.func35, Try.ntmps35
    go_wp2_with fail
    refine (rKey_c x hx _).mono ?_
    rintro e w1 ⟨rfl, rfl⟩
    go_wp2_with fail
    refine (rKey_c y hy _).mono ?_
    rintro e w1 ⟨rfl, rfl⟩
    go_wp2_with fail
    refine (rKey_c x hx _).mono ?_
    rintro e w1 ⟨rfl, rfl⟩
    go_wp2_with fail
    refine (rKey_c y hy _).mono ?_
    rintro e w1 ⟨rfl, rfl⟩
    go_wp2
    go_ret
    exact ⟨rfl, rfl⟩
end Go.Proofs.Ytaahfcljcejemaa
