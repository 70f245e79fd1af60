/-
  Contracts of the small functions that bits leans on (math's, and the two of the document's answer that take nothing), and of bits.powers.
-/
import Derived.Test.YtjjbiepmfngipaaRows
import Derived.Test.YtjjbiepmfngipaaFb
import Derived.WalkKit
import Derived.WalkLawsBesides
import Derived.Lib.Hide
import Derived.Outline
namespace Go.Proofs.Ytjjbiepmfngipaa
open Go.RowKit
open Fl
set_option maxRecDepth 100000

/-- a float is stored in its one cell -/
@[go_sem] theorem run_store_float {P : Program} (w : World) (a : Addr) (m : Mode) (k : FloatKind) (x : Nat) : (store a (.float k x) m).run P w = stored P w a (.float k x) m := run_store P w a _ m rfl

/-- the minus before a float -/
@[go_sem] theorem run_neg_float {P : Program} (w : World) (x : Nat) : (Op.unary .neg (.float .f64 x)).run P w = .ok (.float .f64 (Op.negFloat .f64 x)) w := rfl

theorem bits_of (x : Nat) (w : World) : (callFunc 79 #[.float .f64 x]).run Try.prog w = .ok (.value (.int .u64 x)) w := by
  rw [run_callFunc_extern Try.func79 (by kernel_rfl) (by kernel_rfl) (by kernel_rfl) (e := Extern.MathFloatBits.float64bits) (by kernel_rfl)]
  rfl
theorem from_bits (n : Int) (w : World) : (callFunc 78 #[.int .u64 n]).run Try.prog w = .ok (.value (.float .f64 n.toNat)) w := by
  rw [run_callFunc_extern Try.func78 (by kernel_rfl) (by kernel_rfl) (by kernel_rfl) (e := Extern.MathFloatBits.float64frombits) (by kernel_rfl)]
  rfl

theorem isNaN_c (x : Nat) (hx : x < 18446744073709551616) (w : World) :
    Calls Try.prog 75 #[.float .f64 x] w fun e w' => e = .returned (.bool (nn x)) ∧ w = w' := by
  have h1 := o_self x hx
  go_enter Try.func75, Try.ntmps75
  go_wp2
  go_ret
  exact ⟨rfl, rfl⟩

theorem abs_c (x : Nat) (hx : x < 18446744073709551616) (w : World) :
    Calls Try.prog 62 #[.float .f64 x] w fun e w' => e = .returned (.float .f64 (mg x)) ∧ w = w' := by
  have h1 := bits_of x
  have h2 := andnot_top x hx
  have h3 := from_bits ((mg x : Nat) : Int)
  go_enter Try.func62, Try.ntmps62
  go_wp2
  go_ret
  exact ⟨rfl, rfl⟩

theorem isInf_c (x : Nat) (hx : x < 18446744073709551616) (w : World) :
    Calls Try.prog 76 #[.float .f64 x, .int .i64 0] w fun e w' => e = .returned (.bool (decide (mg x = 9218868437227405312))) ∧ w = w' := by
  have hm := mg_lt x
  have h1 : (FloatKind.f64.format.order (mg x) 9218868437227405311 == some Ordering.gt) = decide (mg x = 9218868437227405312) := by
    cases h : nn (mg x)
    · have hq : mg x ≤ 9218868437227405312 := by
        unfold nn at h; rw [Nat.mod_eq_of_lt hm] at h; simpa using h
      rw [o_gt (mg x) _ (by omega) (by omega) h (nn_small _ (by omega)), vl_small _ hm, vl_small _ (by omega)]
      exact decide_eq_decide.2 (by omega)
    · rw [order_nn_left (mg x) _ (by omega) h]
      have hq : 9218868437227405312 < mg x := by
        unfold nn at h; rw [Nat.mod_eq_of_lt hm] at h; simpa using h
      have : ¬ mg x = 9218868437227405312 := by omega
      rw [decide_eq_false this]; rfl
  go_enter Try.func76, Try.ntmps76
  go_wp2_with fail
  refine (abs_c x hx _).mono ?_
  rintro e w' ⟨rfl, rfl⟩
  go_wp2
  go_ret
  exact ⟨rfl, rfl⟩

theorem signbit_c (x : Nat) (hx : x < 18446744073709551616) (w : World) :
    Calls Try.prog 80 #[.float .f64 x] w fun e w' => e = .returned (.bool (ng x)) ∧ w = w' := by
  have h1 := bits_of x
  have h2 : decide (wrap64 (x : Int) < 0) = ng x := by
    unfold wrap64 ng
    exact decide_eq_decide.2 (by omega)
  go_enter Try.func80, Try.ntmps80
  go_wp2
  go_ret
  exact ⟨rfl, rfl⟩

theorem nan_c (w : World) :
    Calls Try.prog 84 #[] w fun e w' => e = .returned (.float .f64 9221120237041090561) ∧ w = w' := by
  have h3 := from_bits 9221120237041090561
  go_enter Try.func84, Try.ntmps84
  go_wp2
  go_ret
  exact ⟨rfl, rfl⟩

theorem inf_c (w : World) :
    Calls Try.prog 85 #[.int .i64 1] w fun e w' => e = .returned (.float .f64 9218868437227405312) ∧ w = w' := by
  have h3 := from_bits 9218868437227405312
  go_enter Try.func85, Try.ntmps85
  go_wp2
  go_ret
  exact ⟨rfl, rfl⟩

theorem top_c (w : World) :
    Calls Try.prog 67 #[] w fun e w' => e = .returned (.int .u64 9223372036854775808) ∧ w = w' := by
  go_enter Try.func67, Try.ntmps67
  go_wp2
  go_ret
  exact ⟨rfl, rfl⟩

theorem none_c (w : World) :
    Calls Try.prog 65 #[] w fun e w' => e = .returned (.int .u64 9221120237041090560) ∧ w = w' := by
  go_enter Try.func65, Try.ntmps65
  go_wp2
  go_ret
  exact ⟨rfl, rfl⟩
end Go.Proofs.Ytjjbiepmfngipaa
