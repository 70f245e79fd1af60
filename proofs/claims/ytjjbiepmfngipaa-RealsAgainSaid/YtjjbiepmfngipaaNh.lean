/-
  Contract of the document's answer for layer 1: Bits. By where the number lies: no number, nought, endless, plain from one on, plain below one, tiny.
-/
import Derived.Test.YtjjbiepmfngipaaNg
namespace Go.Proofs.Ytjjbiepmfngipaa
open Go.RowKit
open Fl
set_option maxRecDepth 100000

/-- what comes behind the sign, as the function goes on: from slot 0 (the size) and slot 3 (the sign's share) on -/
theorem rBits_nan (x : Nat) (hx : x < 18446744073709551616) (hn : nn x = true) (w : World) :
    Calls Try.prog 38 #[.float .f64 x] w fun e w' => e = .returned (.int .u64 9221120237041090560) ∧ w = w' := by
  have h1 := o_self x hx
  rw [hn] at h1
  go_enter Try.func38, Try.ntmps38
  go_wp2_with fail
  refine (none_c _).mono ?_
  rintro e w' ⟨rfl, rfl⟩
  go_wp2
  go_ret
  exact ⟨rfl, rfl⟩

theorem rBits_zero (x : Nat) (hx : x < 18446744073709551616) (hn : nn x = false) (h0 : mg x = 0) (w : World) :
    Calls Try.prog 38 #[.float .f64 x] w fun e w' => e = .returned (.int .u64 (x : Int)) ∧ w = w' := by
  have h1 := o_self x hx
  rw [hn] at h1
  have h3 : (FloatKind.f64.format.order 0 0 == some Ordering.eq) = true := by decide
  have hmin := rMinus_c x hx
  rcases nought_of x hx h0 with ⟨hg, hv⟩ | ⟨hg, hv⟩
  · have h4 := neg_mg x hx hg
    rw [h0] at h4
    have HV := Lib.hid hv
    clear hv h0
    rw [hn, hg] at hmin
    have HM := Lib.hid hmin
    clear hmin
    go_enter Try.func38, Try.ntmps38
    go_wp2_with fail
    refine (HM.out _).mono ?_
    rintro e w' ⟨rfl, rfl⟩
    go_wp2_with fail
    refine (top_c _).mono ?_
    rintro e w' ⟨rfl, rfl⟩
    go_wp2
    go_ret
    exact ⟨congrArg (fun n : Nat => Ending.returned (Value.int .u64 (n : Int))) HV.out.symm, rfl⟩
  · subst hv
    rw [hn, hg] at hmin
    have HM := Lib.hid hmin
    clear hmin h0
    go_enter Try.func38, Try.ntmps38
    go_wp2_with fail
    refine (HM.out _).mono ?_
    rintro e w' ⟨rfl, rfl⟩
    go_wp2
    go_ret
    exact ⟨rfl, rfl⟩

theorem rBits_inf (x : Nat) (hx : x < 18446744073709551616) (hn : nn x = false) (h0 : mg x = 9218868437227405312) (w : World) :
    Calls Try.prog 38 #[.float .f64 x] w fun e w' => e = .returned (.int .u64 (x : Int)) ∧ w = w' := by
  have h1 := o_self x hx
  rw [hn] at h1
  have h3 : (FloatKind.f64.format.order 9218868437227405312 0 == some Ordering.eq) = false := by decide
  have h5 : (FloatKind.f64.format.order 9218868437227405312 9218868437227405312 == some Ordering.eq) = true := by decide
  have h6 := fun wx => run_float_arith (P := Try.prog) wx .mul 33 .f64 _ _ _ dbl_inf
  have hmin := rMinus_c x hx
  rcases mg_split x hx with ⟨hg, hv⟩ | ⟨hg, hv⟩
  · have h4 := neg_mg x hx hg
    rw [h0] at h4 hv
    have HV := Lib.hid hv
    clear hv h0
    rw [hn, hg] at hmin
    have HM := Lib.hid hmin
    clear hmin
    go_enter Try.func38, Try.ntmps38
    go_wp2_with fail
    refine (HM.out _).mono ?_
    rintro e w' ⟨rfl, rfl⟩
    go_wp2_with fail
    refine (top_c _).mono ?_
    rintro e w' ⟨rfl, rfl⟩
    go_wp2
    go_ret
    exact ⟨congrArg (fun n : Nat => Ending.returned (Value.int .u64 (n : Int))) HV.out.symm, rfl⟩
  · rw [h0] at hv
    subst hv
    rw [hn, hg] at hmin
    have HM := Lib.hid hmin
    clear hmin h0
    go_enter Try.func38, Try.ntmps38
    go_wp2_with fail
    refine (HM.out _).mono ?_
    rintro e w' ⟨rfl, rfl⟩
    go_wp2
    go_ret
    exact ⟨rfl, rfl⟩
end Go.Proofs.Ytjjbiepmfngipaa
