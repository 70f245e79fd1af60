/-
  Contracts of Fixed, Zig, Zag.
-/
import Derived.Test.YtacnbgfddidfiaaBa
namespace Go.Proofs.Ytacnbgfddidfiaa
open Go.RowKit
open Pk
set_option maxRecDepth 100000

theorem zig_c (n : Int) (h1 : -9223372036854775808 ≤ n) (h2 : n < 9223372036854775808) (w : World) :
    Calls Try.prog 43 #[.int .i64 n] w fun e w' => e = .returned (.int .u64 (zig n : Int)) ∧ w = w' := by
  by_cases h : n < 0
  · have hor : bits BinOp.or IntKind.u64 ((-1 - n) * 2) 1 = (zig n : Int) := by
      obtain ⟨m, hm⟩ := Int.eq_ofNat_of_zero_le (show 0 ≤ -1 - n by omega)
      have e : (-1 - n) * 2 = ((m * 2 ^ 1 : Nat) : Int) := by rw [hm]; omega
      have e1 : (1 : Int) = ((1 : Nat) : Int) := rfl
      rw [e, e1, u64_or_nat _ _ (by omega) (by omega), Nat.or_comm, or_add (by omega)]
      unfold zig
      rw [if_neg (by omega)]
      omega
    go_enter Try.func43, Try.ntmps43
    go_wp2
    go_ret
    exact ⟨rfl, rfl⟩
  · have hz : n * 2 = (zig n : Int) := by unfold zig; rw [if_pos (by omega)]; omega
    go_enter Try.func43, Try.ntmps43
    go_wp2
    go_ret
    exact ⟨rfl, rfl⟩
theorem rZig_c (n : Int) (h1 : -9223372036854775808 ≤ n) (h2 : n < 9223372036854775808) (w : World) :
    Calls Try.prog 26 #[.int .i64 n] w fun e w' => e = .returned (.int .u64 (zig n : Int)) ∧ w = w' := by
  by_cases h : n < 0
  · have hz : (zig n : Int) = 2 * (-1 - n) + 1 := by unfold zig; rw [if_neg (by omega)]; omega
    have HZ := Lib.hid hz
    clear hz
    go_enter Try.func26, Try.ntmps26
    go_wp2
    go_ret
    exact ⟨ret_int (by rw [HZ.out]), rfl⟩
  · have hz : (zig n : Int) = 2 * n := by unfold zig; rw [if_pos (by omega)]; omega
    have HZ := Lib.hid hz
    clear hz
    go_enter Try.func26, Try.ntmps26
    go_wp2
    go_ret
    exact ⟨ret_int (by rw [HZ.out]), rfl⟩
theorem zag_c (n : Nat) (hn : n < 18446744073709551616) (w : World) :
    Calls Try.prog 69 #[.int .u64 (n : Int)] w fun e w' => e = .returned (.int .i64 (zag n)) ∧ w = w' := by
  have h1 := and_one_u64 (n : Int) (by omega) (by omega)
  by_cases h : n % 2 = 1
  · have hz : -1 - (n : Int) / 2 = zag n := by unfold zag; rw [if_pos h]; omega
    have hd : (bits BinOp.and IntKind.u64 (n : Int) 1 == 1) = true := by rw [h1]; simp; omega
    clear h1
    go_enter Try.func69, Try.ntmps69
    go_wp2
    go_ret
    exact ⟨rfl, rfl⟩
  · have hz : (n : Int) / 2 = zag n := by unfold zag; rw [if_neg h]; omega
    have hd : (bits BinOp.and IntKind.u64 (n : Int) 1 == 1) = false := by rw [h1]; simp; omega
    clear h1
    go_enter Try.func69, Try.ntmps69
    go_wp2
    go_ret
    exact ⟨rfl, rfl⟩
theorem rZag_c (n : Nat) (hn : n < 18446744073709551616) (w : World) :
    Calls Try.prog 64 #[.int .u64 (n : Int)] w fun e w' => e = .returned (.int .i64 (zag n)) ∧ w = w' := by
  by_cases h : n % 2 = 1
  · have hz : -1 - (n : Int) / 2 = zag n := by unfold zag; rw [if_pos h]; omega
    have hd : ((n : Int) % 2 == 1) = true := by simp; omega
    go_enter Try.func64, Try.ntmps64
    go_wp2
    go_ret
    exact ⟨rfl, rfl⟩
  · have hz : (n : Int) / 2 = zag n := by unfold zag; rw [if_neg h]; omega
    have hd : ((n : Int) % 2 == 1) = false := by simp; omega
    go_enter Try.func64, Try.ntmps64
    go_wp2
    go_ret
    exact ⟨rfl, rfl⟩
end Go.Proofs.Ytacnbgfddidfiaa
