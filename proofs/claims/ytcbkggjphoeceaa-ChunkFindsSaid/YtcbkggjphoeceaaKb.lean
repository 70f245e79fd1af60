/-
  Contracts of a step by one byte: the program's and the document's.
-/
import Derived.Test.YtcbkggjphoeceaaKa
import Derived.Test.YtcbkggjphoeceaaBa
namespace Go.Proofs.Ytcbkggjphoeceaa
open Go.RowKit
open Cr
set_option maxRecDepth 100000

theorem and1_32 (x : Nat) (hx : x < 4294967296) : bits .and .u32 (x : Int) 1 = ((x % 2 : Nat) : Int) := by
  have := u32_and_nat x 1 hx (by decide)
  rw [Nat.and_one_is_mod] at this
  exact this
theorem xorP (x : Nat) (hx : x < 4294967296) : bits .xor .u32 ((x : Int) / 2) 3988292384 = ((x / 2 ^^^ P32 : Nat) : Int) := by
  have := u32_xor_nat (x / 2) 3988292384 (by omega) (by decide)
  have e : (x : Int) / 2 = ((x / 2 : Nat) : Int) := by omega
  rw [e]; exact this

theorem step_c (c b : Nat) (hc : c < 4294967296) (hb : b < 256) (w : World) :
    Calls Try.prog 47 #[.int .u32 (c : Int), .int .u8 (b : Int)] w fun e w' => e = .returned (.int .u32 (st c b : Nat)) ∧ w = w' := by
  have hx := u32_xor_nat c b hc (by omega)
  go_enter Try.func47, Try.ntmps47
  go_wp2
  go_loop [5, 6, 11] (fun x _ i => ∃ (k y : Nat), k ≤ 8 ∧ i = .int .i64 (k : Int) ∧ x = .int .u32 (y : Int) ∧ y < 4294967296 ∧ hn (8 - k) y = st c b) (fun _ _ i => 8 - (intOf i).toNat)
  case atStart => exact ⟨0, c ^^^ b, by omega, rfl, rfl, xor_lt hc (by omega), rfl⟩
  case round =>
    obtain ⟨k, y, hk, rfl, rfl, hy, hrun⟩ := hrel
    clear hx
    by_cases hlt : k < 8
    · have e : 8 - k = (8 - (k + 1)) + 1 := by omega
      rw [e] at hrun
      have H := Lib.hid hrun
      clear hrun
      have h1 := and1_32 y hy
      by_cases ho : y % 2 = 1
      · have h2 := xorP y hy
        have h3 : ((((y % 2 : Nat) : Int)) == 1) = true := by rw [ho]; rfl
        go_wp2
        go_round
        case rel => exact ⟨k + 1, y / 2 ^^^ P32, by omega, by go_num, rfl, xor_lt (by omega) (by decide), by have := H.out; rw [hn, Cr.h1, if_pos ho] at this; exact this⟩
        case measure => simp [intOf]; omega
      · have h3 : ((((y % 2 : Nat) : Int)) == 1) = false := by rw [show y % 2 = 0 by omega]; rfl
        go_wp2
        go_round
        case rel => exact ⟨k + 1, y / 2, by omega, by go_num, by go_num, by omega, by have := H.out; rw [hn, Cr.h1, if_neg ho] at this; exact this⟩
        case measure => simp [intOf]; omega
    · obtain rfl : k = 8 := by omega
      go_wp2
      go_ret
      exact ⟨ret_int (by rw [← hrun]; rfl), rfl⟩

theorem xorR (x : Nat) (hx : x < 4294967296) : bits .xor .u32 (Int.tdiv (x : Int) 2) 3988292384 = ((x / 2 ^^^ P32 : Nat) : Int) := by
  have e : Int.tdiv (x : Int) 2 = (x : Int) / 2 := Int.tdiv_eq_ediv_of_nonneg (by omega)
  rw [e]; exact xorP x hx

theorem rstep_c (c b : Nat) (hc : c < 4294967296) (hb : b < 256) (w : World) :
    Calls Try.prog 48 #[.int .u32 (c : Int), .int .u8 (b : Int)] w fun e w' => e = .returned (.int .u32 (st c b : Nat)) ∧ w = w' := by
  have hx := u32_xor_nat c b hc (by omega)
  go_enter Try.func48, Try.ntmps48
  go_wp2
  go_loop [5, 6] (fun x i => ∃ (k y : Nat), k ≤ 8 ∧ i = .int .i64 (k : Int) ∧ x = .int .u32 (y : Int) ∧ y < 4294967296 ∧ hn (8 - k) y = st c b) (fun _ i => 8 - (intOf i).toNat)
  case atStart => exact ⟨0, c ^^^ b, by omega, rfl, rfl, xor_lt hc (by omega), rfl⟩
  case round =>
    obtain ⟨k, y, hk, rfl, rfl, hy, hrun⟩ := hrel
    clear hx
    by_cases hlt : k < 8
    · have e : 8 - k = (8 - (k + 1)) + 1 := by omega
      rw [e] at hrun
      have H := Lib.hid hrun
      clear hrun
      by_cases ho : y % 2 = 1
      · have h2 := xorP y hy
        have h3 : (((y : Int) % 2) == 1) = true := by rw [beq_iff_eq]; omega
        go_wp2
        go_round
        case rel => exact ⟨k + 1, y / 2 ^^^ P32, by omega, by go_num, rfl, xor_lt (by omega) (by decide), by have := H.out; rw [hn, Cr.h1, if_pos ho] at this; exact this⟩
        case measure => simp [intOf]; omega
      · have h3 : (((y : Int) % 2) == 1) = false := by rw [beq_eq_false_iff_ne]; omega
        go_wp2
        go_round
        case rel => exact ⟨k + 1, y / 2, by omega, by go_num, by go_num, by omega, by have := H.out; rw [hn, Cr.h1, if_neg ho] at this; exact this⟩
        case measure => simp [intOf]; omega
    · obtain rfl : k = 8 := by omega
      go_wp2
      go_ret
      exact ⟨ret_int (by rw [← hrun]; rfl), rfl⟩
end Go.Proofs.Ytcbkggjphoeceaa
