/-
  Contracts of the document's answer for layer 1: Bits in all, Canon, Kind, Same, and Float.
-/
import Derived.Test.YtjjbiepmfngipaaNi
namespace Go.Proofs.Ytjjbiepmfngipaa
open Go.RowKit
open Fl
set_option maxRecDepth 100000

theorem rBits_c (x : Nat) (hx : x < 18446744073709551616) (w : World) :
    Calls Try.prog 38 #[.float .f64 x] w fun e w' => e = .returned (.int .u64 (cb x : Int)) ∧ w = w' := by
  rcases kd_of x with ⟨hn, _, hc⟩ | ⟨hn, hc, hle, hkk⟩
  · rw [hc]
    exact rBits_nan x hx hn w
  · rw [hc]
    rcases hkk with ⟨_, h3⟩ | ⟨_, h3⟩ | ⟨_, h3⟩ | ⟨_, h3, h4⟩
    · exact rBits_inf x hx hn h3 w
    · exact rBits_zero x hx hn h3 w
    · rcases Nat.eq_zero_or_pos (mg x) with h0 | h0
      · exact rBits_zero x hx hn h0 w
      · exact rBits_tiny x (mg x) hx hn h0 h3 rfl w
    · have hq : mg x = nw (mg x / 4503599627370496) (mg x % 4503599627370496) := by unfold nw; omega
      rcases Nat.lt_or_ge (mg x / 4503599627370496) 1023 with h5 | h5
      · exact rBits_low x _ _ hx hn (by omega) h5 (by omega) hq w
      · exact rBits_big x _ _ hx hn h5 (by omega) (by omega) hq w

theorem rSame_c (x y : Nat) (hx : x < 18446744073709551616) (hy : y < 18446744073709551616) (w : World) :
    Calls Try.prog 41 #[.float .f64 x, .float .f64 y] w fun e w' => e = .returned (.bool ((cb x : Int) == (cb y : Int))) ∧ w = w' := by
  go_enter Try.func41, Try.ntmps41
  go_wp2_with fail
  refine (rBits_c x hx _).mono ?_
  rintro e w1 ⟨rfl, rfl⟩
  go_wp2_with fail
  refine (rBits_c y hy _).mono ?_
  rintro e w2 ⟨rfl, rfl⟩
  go_wp2
  go_ret
  exact ⟨rfl, rfl⟩

theorem rCanon_c (u : Nat) (hu : u < 18446744073709551616) (w : World) :
    Calls Try.prog 50 #[.int .u64 (u : Int)] w fun e w' => e = .returned (.bool (cn u)) ∧ w = w' := by
  have hc : cn u = (!(((u / 4503599627370496 % 2048 : Nat) : Int) == 2047) || (((u % 4503599627370496 : Nat) : Int) == 0) || ((u : Int) == 9221120237041090560)) := by
    unfold cn
    rw [Bool.eq_iff_iff]
    simp only [decide_eq_true_eq, Bool.or_eq_true, Bool.not_eq_true', beq_iff_eq, beq_eq_false_iff_ne]
    omega
  rw [hc]
  clear hc
  have h1 : (u : Int) / 4503599627370496 % 2048 = ((u / 4503599627370496 % 2048 : Nat) : Int) := by omega
  have h2 : (u : Int) % 4503599627370496 = ((u % 4503599627370496 : Nat) : Int) := by omega
  generalize u / 4503599627370496 % 2048 = a at *
  generalize u % 4503599627370496 = b at *
  by_cases k1 : ((a : Int) == 2047) = true
  · have k3 : ((a : Int) != 2047) = false := by unfold bne; rw [k1]; rfl
    by_cases k2 : ((b : Int) == 0) = true
    · go_enter Try.func50, Try.ntmps50
      go_wp2_with fail
      go_ret
      exact ⟨by simp [k1, k2], rfl⟩
    · rw [Bool.not_eq_true] at k2
      go_enter Try.func50, Try.ntmps50
      go_wp2_with (go_at_call 65; refine (none_c _).mono ?_; rintro e w' ⟨rfl, rfl⟩)
      go_ret
      exact ⟨by simp [k1, k2], rfl⟩
  · rw [Bool.not_eq_true] at k1
    have k3 : ((a : Int) != 2047) = true := by unfold bne; rw [k1]; rfl
    go_enter Try.func50, Try.ntmps50
    go_wp2_with fail
    go_ret
    exact ⟨by simp [k1], rfl⟩

/-- e and m of the bits tell the kind -/
theorem kd_cb (x : Nat) :
    (kd x = 4 ∧ cb x / 4503599627370496 % 2048 = 2047 ∧ 0 < cb x % 4503599627370496) ∨ (kd x = 3 ∧ cb x / 4503599627370496 % 2048 = 2047 ∧ cb x % 4503599627370496 = 0) ∨
    (kd x = 2 ∧ cb x / 4503599627370496 % 2048 < 2047 ∧ 0 < cb x / 4503599627370496 % 2048) ∨ (kd x = 1 ∧ cb x / 4503599627370496 % 2048 = 0 ∧ 0 < cb x % 4503599627370496) ∨ (kd x = 0 ∧ cb x / 4503599627370496 % 2048 = 0 ∧ cb x % 4503599627370496 = 0) := by
  rcases kd_of x with ⟨_, hk, hc⟩ | ⟨hn, hc, hle, hkk⟩
  · left
    refine ⟨hk, ?_, ?_⟩ <;> rw [hc] <;> decide
  · right
    rw [hc]
    have hm : mg x = x % 9223372036854775808 := rfl
    rcases hkk with ⟨h, h3⟩ | ⟨h, h3⟩ | ⟨h, h3⟩ | ⟨h, h3, h4⟩
    · exact .inl ⟨h, by omega, by omega⟩
    · exact .inr (.inr (.inr ⟨h, by omega, by omega⟩))
    · by_cases h0 : mg x = 0
      · have : kd x = 0 := by simp [kd, hn, h0]
        rw [this] at h; cases h
      · exact .inr (.inr (.inl ⟨h, by omega, by omega⟩))
    · exact .inr (.inl ⟨h, by omega, by omega⟩)

end Go.Proofs.Ytjjbiepmfngipaa
