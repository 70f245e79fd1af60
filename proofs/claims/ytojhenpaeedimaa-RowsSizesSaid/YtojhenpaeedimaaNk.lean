/-
 Contracts of the document's answer for layer 1: Bits in all, Canon, Kind, Same, and Float.
 Contract of the document's answer for layer 1: Float, and what an operation that has no answer gives.
-/
import Derived.Test.YtojhenpaeedimaaNi
section
namespace Go.Proofs.Ytojhenpaeedimaa
open Go.RowKit
open Fl
set_option maxRecDepth 100000
theorem rBits_c (x : Nat) (hx : x < 18446744073709551616) (w : World) :
  Calls Try.prog 27 #[.float .f64 x] w fun e w' => e = .returned (.int .u64 (cb x : Int)) ∧ w = w' := by
 rcases kd_of x with ⟨hn, _, hc⟩ | ⟨hn, hc, hle, hkk⟩
 ·rw [hc]
  exact rBits_nan x hx hn w
 ·rw [hc]
  rcases hkk with ⟨_, h3⟩ | ⟨_, h3⟩ | ⟨_, h3⟩ | ⟨_, h3, h4⟩
  ·exact rBits_inf x hx hn h3 w
  ·exact rBits_zero x hx hn h3 w
  ·rcases Nat.eq_zero_or_pos (mg x) with h0 | h0
   ·exact rBits_zero x hx hn h0 w
   ·exact rBits_tiny x (mg x) hx hn h0 h3 rfl w
  ·have hq : mg x = nw (mg x / 4503599627370496) (mg x % 4503599627370496) := by unfold nw; omega
   rcases Nat.lt_or_ge (mg x / 4503599627370496) 1023 with h5 | h5
   ·exact rBits_low x _ _ hx hn (by omega) h5 (by omega) hq w
   ·exact rBits_big x _ _ hx hn h5 (by omega) (by omega) hq w
theorem rSame_c (x y : Nat) (hx : x < 18446744073709551616) (hy : y < 18446744073709551616) (w : World) :
  Calls Try.prog 89 #[.float .f64 x, .float .f64 y] w fun e w' => e = .returned (.bool ((cb x : Int) == (cb y : Int))) ∧ w = w' := by
 go_enter Try.func89, Try.ntmps89
 go_wp2_with fail
 refine (rBits_c x hx _).mono ?_
 rintro e w1 ⟨rfl, rfl⟩
 go_wp2_with fail
 refine (rBits_c y hy _).mono ?_
 rintro e w2 ⟨rfl, rfl⟩
 go_wp2
 go_ret
 exact ⟨rfl, rfl⟩
theorem rCanon_c (u : Nat) (hu : u < 18446744073709551616) (w : World) :
  Calls Try.prog 37 #[.int .u64 (u : Int)] w fun e w' => e = .returned (.bool (cn u)) ∧ w = w' := by
 have hc : cn u = (!(((u / 4503599627370496 % 2048 : Nat) : Int) == 2047) || (((u % 4503599627370496 : Nat) : Int) == 0) || ((u : Int) == 9221120237041090560)) := by
  unfold cn
  rw [Bool.eq_iff_iff]
  simp only [decide_eq_true_eq, Bool.or_eq_true, Bool.not_eq_true', beq_iff_eq, beq_eq_false_iff_ne]
  omega
 rw [hc]
 clear hc
 have h1 : (u : Int) / 4503599627370496 % 2048 = ((u / 4503599627370496 % 2048 : Nat) : Int) := by omega
 have h2 : (u : Int) % 4503599627370496 = ((u % 4503599627370496 : Nat) : Int) := by omega
 generalize u / 4503599627370496 % 2048 = a at *
 generalize u % 4503599627370496 = b at *
 by_cases k1 : ((a : Int) == 2047) = true
 ·have k3 : ((a : Int) != 2047) = false := by unfold bne; rw [k1]; rfl
  by_cases k2 : ((b : Int) == 0) = true
  ·go_enter Try.func37, Try.ntmps37
   go_wp2_with fail
   go_ret
   exact ⟨by simp [k1, k2], rfl⟩
  ·rw [Bool.not_eq_true] at k2
   go_enter Try.func37, Try.ntmps37
   go_wp2_with (go_at_call 50; refine (none_c _).mono ?_; rintro e w' ⟨rfl, rfl⟩)
   go_ret
   exact ⟨by simp [k1, k2], rfl⟩
 ·rw [Bool.not_eq_true] at k1
  have k3 : ((a : Int) != 2047) = true := by unfold bne; rw [k1]; rfl
  go_enter Try.func37, Try.ntmps37
  go_wp2_with fail
  go_ret
  exact ⟨by simp [k1], rfl⟩
end Go.Proofs.Ytojhenpaeedimaa
end
section
namespace Go.Proofs.Ytojhenpaeedimaa
open Go.RowKit
open Fl
set_option maxRecDepth 100000
/-- the bits of no number that the run gives where an operation has no answer -/
def nanW (x y : Nat) (w : World) : Nat := (Question.nanBits .f64 x y).cut (w.tape w.drawn (Question.nanBits .f64 x y))
theorem nanW_nn (x y : Nat) (w : World) : nn (nanW x y w) = true ∧ nanW x y w < 18446744073709551616 := by
 unfold nanW
 generalize w.tape w.drawn (Question.nanBits .f64 x y) = t
 have h : (Question.nanBits .f64 x y).cut t = (t % 2) * 2 ^ 63 + 0x7ff0000000000000 + 1 + (t / 2) % (2 ^ 52 - 1) := rfl
 rw [h, p63]
 have h2 : (2 : Nat) ^ 52 - 1 = 4503599627370495 := by decide
 rw [h2]
 unfold nn
 have hr : t / 2 % 4503599627370495 < 4503599627370495 := Nat.mod_lt _ (by omega)
 generalize t / 2 % 4503599627370495 = r at *
 rcases Nat.mod_two_eq_zero_or_one t with h0 | h0
 ·rw [h0]
  exact ⟨decide_eq_true (by omega), by omega⟩
 ·rw [h0]
  exact ⟨decide_eq_true (by omega), by omega⟩
theorem run_float_none (P : Program) (w : World) (op : BinOp) (t : TypeId) (x y : Nat) (ho : op = .quo ∨ op = .mul ∨ op = .add ∨ op = .sub) (h : floatBits op .f64 x y = none) :
  (binOp op t (.float .f64 x) (.float .f64 y)).run P w = .ok (.float .f64 (nanW x y w)) w.drew := by
 rcases ho with rfl | rfl | rfl | rfl
 all_goals
  have h' := h
  simp only [floatBits] at h'
  simp only [binOp, Op.floatArith]
  rw [h']
  rfl
theorem neg_cases (u r : Nat) (hr : r < 9223372036854775808) (h : mg u = r) (hu : u < 18446744073709551616) : (ng u = true → Op.negFloat .f64 r = u) ∧ (ng u = false → r = u) := by
 rcases mg_split u hu with ⟨h1, h2⟩ | ⟨h1, h2⟩
 ·refine ⟨fun _ => ?_, fun h3 => absurd (h3.symm.trans h1) (by simp)⟩
  have := neg_eq false r hr
  have e1 : wd false r = r := by simp [wd]
  have e2 : wd (!false) r = u := by simp only [wd, Bool.not_false, if_true]; omega
  rw [e1, e2] at this
  exact this
 ·exact ⟨fun h3 => absurd (h3.symm.trans h1) (by simp), fun _ => by omega⟩
theorem ge_top {u : Nat} {b : Bool} (h : ng u = b) : decide ((9223372036854775808 : Int) ≤ (u : Int)) = b := by
 rw [← h]; unfold ng; exact decide_eq_decide.2 (by omega)
theorem ret_f64 {a b : Nat} (h : a = b) : Ending.returned (.float .f64 a) = .returned (.float .f64 b) := by rw [h]
theorem rFloat_nan (u m : Nat) (hm : 0 < m) (he : (u : Int) / 4503599627370496 % 2048 = 2047) (hr : (u : Int) % 4503599627370496 = m) (w : World) :
  Calls Try.prog 38 #[.int .u64 (u : Int)] w fun e w' => e = .returned (.float .f64 (nanW 0 0 w)) ∧ w.drew = w' := by
 have hd := fun wx => run_float_none Try.prog wx .quo 28 0 0 (.inl rfl) (by decide)
 have h2 : ((m : Int) != 0) = true := by rw [bne_iff_ne]; omega
 go_enter Try.func38, Try.ntmps38
 go_wp2
 go_ret
 exact ⟨rfl, rfl⟩
theorem rFloat_inf (u : Nat) (hu : u < 18446744073709551616) (he : (u : Int) / 4503599627370496 % 2048 = 2047) (hr : (u : Int) % 4503599627370496 = 0) (w : World) :
  Calls Try.prog 38 #[.int .u64 (u : Int)] w fun e w' => e = .returned (.float .f64 u) ∧ w = w' := by
 obtain ⟨I, hI⟩ : ∃ I : Nat, I = 9218868437227405312 := ⟨_, rfl⟩
 have hd := fun wx => run_float_arith (P := Try.prog) wx .quo 28 .f64 _ _ _ (inv_pos.trans (congrArg some hI.symm))
 obtain ⟨c1, c2⟩ := neg_cases u I (by omega) (by unfold mg; omega) hu
 clear hI
 rcases ng_cases u with ⟨h, hs⟩ | ⟨h, hs⟩
 case' inl => have c3 := Lib.hid (c1 h)
 case' inr => have c3 := Lib.hid (c2 h)
 all_goals
  have hb := Lib.hid (ge_top h)
  clear hs h c1 c2 hu
  go_enter Try.func38, Try.ntmps38
  go_wp2_with fail
  refine (top_c _).mono ?_
  rintro e w' ⟨rfl, rfl⟩
  have hb' := hb.out
  go_wp2
  go_ret
  exact ⟨ret_f64 c3.out, rfl⟩
set_option maxHeartbeats 1000000 in
theorem rFloat_tiny (u m : Nat) (hu : u < 18446744073709551616) (hm : m < 4503599627370496) (he : (u : Int) / 4503599627370496 % 2048 = 0) (hr : (u : Int) % 4503599627370496 = m) (w : World) :
  Calls Try.prog 38 #[.int .u64 (u : Int)] w fun e w' => e = .returned (.float .f64 u) ∧ w = w' := by
 have h4 := ofNat_en m (by omega)
 obtain ⟨c1, c2⟩ := neg_cases u (en m 0) (by have := small_en m hm; omega) (by have := small_en m hm; unfold mg; omega) hu
 rcases ng_cases u with ⟨h, hs⟩ | ⟨h, hs⟩
 case' inl => have c3 := Lib.hid (c1 h)
 case' inr => have c3 := Lib.hid (c2 h)
 all_goals
  have hb := Lib.hid (ge_top h)
  clear hs h c1 c2
  go_enter Try.func38, Try.ntmps38
  go_wp2
  go_loop [5, 7] (fun f v => ∃ j s : Nat, j + s ≤ 1074 ∧ 1074 ≤ j + s ∧ v = .int .i64 j ∧ f = .float .f64 (en m s)) (fun _ v => (1074 - Go.RowKit.intOf v).toNat)
  case atStart => exact ⟨0, B, by rw [B_eq]; omega, by rw [B_eq]; omega, rfl, rfl⟩
  case round =>
   obtain ⟨j, s, hj, hjs, rfl, rfl⟩ := hrel
   by_cases hj2 : j < 1074
   ·obtain ⟨p, rfl⟩ : ∃ p, s = p + 1 := ⟨s - 1, by omega⟩
    have hmul := fun wx => run_float_arith (P := Try.prog) wx .mul 28 .f64 _ _ _ (mul_half m p (by omega) (by omega))
    go_wp2
    go_round
    case rel => exact ⟨j + 1, p, by omega, by omega, by go_num, rfl⟩
    case measure => simp only [Go.RowKit.intOf]; omega
   ·obtain rfl : s = 0 := by omega
    go_wp2
    refine wp_loop_rounds 1 ?_
    rw [rounds_succ]
    go_wp2_with fail
    refine (top_c _).mono ?_
    rintro e w' ⟨rfl, rfl⟩
    have hb' := hb.out
    go_wp2
    go_ret
    exact ⟨ret_f64 c3.out, rfl⟩
set_option maxHeartbeats 1000000 in
theorem rFloat_plain (u q m : Nat) (hu : u < 18446744073709551616) (hq1 : 1 ≤ q) (hq2 : q ≤ 2046) (hm : m < 4503599627370496) (he : (u : Int) / 4503599627370496 % 2048 = q) (hr : (u : Int) % 4503599627370496 = m) (w : World) :
  Calls Try.prog 38 #[.int .u64 (u : Int)] w fun e w' => e = .returned (.float .f64 u) ∧ w = w' := by
 have hqe : ((q : Int) == 2047) = false := by rw [beq_eq_false_iff_ne]; omega
 have hnw := nw_en q m hm hq1 hq2
 obtain ⟨c1, c2⟩ := neg_cases u (en (4503599627370496 + m) (q - 1)) (by have := nw_lt q m hq2 hm; omega) (by rw [← hnw]; unfold mg nw; omega) hu
 obtain ⟨M, hM1, hM2⟩ : ∃ M : Nat, M = 4503599627370496 + m ∧ (m : Int) + 4503599627370496 = M := ⟨_, rfl, by omega⟩
 rw [← hM1] at c1 c2
 have hM : M < 9007199254740992 := by omega
 have h4 := ofNat_en M hM
 clear hM1 hnw
 rcases ng_cases u with ⟨h, hs⟩ | ⟨h, hs⟩
 case' inl => have c3 := Lib.hid (c1 h)
 case' inr => have c3 := Lib.hid (c2 h)
 all_goals
  have hb := Lib.hid (ge_top h)
  clear hs h c1 c2
  go_enter Try.func38, Try.ntmps38
  go_wp2
  clear hM2 h4
  go_loop [5, 7] (fun f v => ∃ j s : Nat, j + s ≤ 1074 ∧ 1074 ≤ j + s ∧ (j = 0 ∨ (j : Int) ≤ 1075 - q) ∧ v = .int .i64 j ∧ f = .float .f64 (en M s)) (fun _ v => (2000 - Go.RowKit.intOf v).toNat)
  case atStart => exact ⟨0, B, by rw [B_eq]; omega, by rw [B_eq]; omega, by omega, rfl, rfl⟩
  case round =>
   obtain ⟨j, s, hjs1, hjs2, hj, rfl, rfl⟩ := hrel
   by_cases hj2 : (j : Int) < 1075 - q
   ·obtain ⟨p, rfl⟩ : ∃ p, s = p + 1 := ⟨s - 1, by omega⟩
    have hmul := fun wx => run_float_arith (P := Try.prog) wx .mul 28 .f64 _ _ _ (mul_half M p hM (by omega))
    go_wp2
    go_round
    case rel => exact ⟨j + 1, p, by omega, by omega, by omega, by go_num, rfl⟩
    case measure => simp only [Go.RowKit.intOf]; omega
   ·go_wp2
    go_loop [5, 8] (fun f v => ∃ i z : Nat, z ≤ s + i ∧ s + i ≤ z ∧ (i = 0 ∨ (i : Int) ≤ q - 1075) ∧ v = .int .i64 i ∧ f = .float .f64 (en M z)) (fun _ v => (2000 - Go.RowKit.intOf v).toNat)
    case atStart => exact ⟨0, s, by omega, by omega, by omega, rfl, rfl⟩
    case round =>
     obtain ⟨i, z, hz1, hz2, hi, rfl, rfl⟩ := hrel
     by_cases hi2 : (i : Int) < q - 1075
     ·have hmul := fun wx => run_float_arith (P := Try.prog) wx .mul 28 .f64 _ _ _ (mul_two M z hM (by omega))
      go_wp2
      go_round
      case rel => exact ⟨i + 1, z + 1, by omega, by omega, by omega, by go_num, rfl⟩
      case measure => simp only [Go.RowKit.intOf]; omega
     ·have hT : z = q - 1 := by omega
      rw [hT]
      clear hT
      go_wp2_with fail
      refine (top_c _).mono ?_
      rintro e w' ⟨rfl, rfl⟩
      have hb' := hb.out
      go_wp2
      go_ret
      exact ⟨ret_f64 c3.out, rfl⟩
end Go.Proofs.Ytojhenpaeedimaa
end
