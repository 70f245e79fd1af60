/-
  Contracts of the document's Before and Less; and 'live' of layer 2's statements.
-/
import Derived.Test.YtaahfcljcejemaaBr
namespace Go.Proofs.Ytaahfcljcejemaa
open Go.RowKit
open Fl
set_option maxRecDepth 100000

theorem ci_lt {x y : Int} (h : x < y) : ci x y = -1 := by unfold ci; rw [if_pos h]
theorem ci_eq (x : Int) : ci x x = 0 := by unfold ci; rw [if_neg (by omega), if_neg (by omega)]
theorem ci_gt {x y : Int} (h : y < x) : ci x y = 1 := by unfold ci; rw [if_neg (by omega), if_pos h]
theorem ci_neg (x y : Int) : decide (ci x y < 0) = decide (x < y) := by
  rcases Int.lt_trichotomy x y with h | h | h
  · rw [ci_lt h]; exact decide_eq_decide.2 (by omega)
  · subst h; rw [ci_eq]; exact decide_eq_decide.2 (by omega)
  · rw [ci_gt h]; exact decide_eq_decide.2 (by omega)
theorem fr_zero (v : Int) : fr 0 v = v := by simp [fr]
theorem ret_bool {a b : Bool} (h : a = b) : Ending.returned (.bool a) = .returned (.bool b) := by rw [h]

theorem rBefore_c (c1 r1 c2 r2 : Int) (w : World) :
    Calls Try.prog 40 #[.agg #[.int .i64 c1, .int .i64 r1], .agg #[.int .i64 c2, .int .i64 r2]] w fun e w' => e = .returned (.bool (decide (fr (ci c1 c2) (ci r1 r2) < 0))) ∧ Below w.heap.size w w' := by
  rcases Int.lt_trichotomy c1 c2 with h | h | h
  · have hv : decide (fr (ci c1 c2) (ci r1 r2) < 0) = true := by rw [ci_lt h]; rfl
    rw [hv]
    clear hv
    go_enter Try.func40, Try.ntmps40
    go_wp2
    go_ret
    exact ⟨rfl, by go_grown⟩
  · subst h
    have hv : decide (fr (ci c1 c1) (ci r1 r2) < 0) = decide (r1 < r2) := by rw [ci_eq, fr_zero, ci_neg]
    rw [hv]
    clear hv
    go_enter Try.func40, Try.ntmps40
    go_wp2
    go_ret
    exact ⟨rfl, by go_grown⟩
  · have hv : decide (fr (ci c1 c2) (ci r1 r2) < 0) = false := by rw [ci_gt h]; rfl
    rw [hv]
    clear hv
    have h1 : ¬ c1 < c2 := by omega
    have h2 : (c1 == c2) = false := by rw [beq_eq_false_iff_ne]; omega
    go_enter Try.func40, Try.ntmps40
    go_wp2
    go_ret
    exact ⟨rfl, by go_grown⟩

theorem cm_cases (a b : Nat) : (cm a b = -1 ∧ a < b) ∨ (cm a b = 0 ∧ a = b) ∨ (cm a b = 1 ∧ b < a) := by
  unfold cm
  by_cases h : a < b
  · rw [if_pos h]; exact .inl ⟨rfl, h⟩
  · rw [if_neg h]
    by_cases h2 : b < a
    · rw [if_pos h2]; exact .inr (.inr ⟨rfl, h2⟩)
    · rw [if_neg h2]; exact .inr (.inl ⟨rfl, by omega⟩)

theorem rLess_c (a1 p1 a2 p2 : Int) (n1 n2 : ByteArray) (x y : Nat) (hx : x < 18446744073709551616) (hy : y < 18446744073709551616) (w : World) :
    Calls Try.prog 38 #[.agg #[.int .i64 a1, .int .i64 p1, .string n1, .float .f64 x], .agg #[.int .i64 a2, .int .i64 p2, .string n2, .float .f64 y]] w fun e w' => e = .returned (.bool (decide (fr (cm (ky x) (ky y)) (ci a1 a2) < 0))) ∧ Below w.heap.size w w' := by
  rcases cm_cases (ky x) (ky y) with ⟨h, _⟩ | ⟨h, _⟩ | ⟨h, _⟩
  · have hv : decide (fr (cm (ky x) (ky y)) (ci a1 a2) < 0) = true := by rw [h]; rfl
    rw [hv]
    clear hv
    go_enter Try.func38, Try.ntmps38
    go_wp2_with fail
    refine (rCompare_c x y hx hy _).mono ?_
    rintro e w1 ⟨rfl, rfl⟩
    rw [h]
    go_wp2
    go_ret
    exact ⟨rfl, by go_grown⟩
  · have hv : decide (fr (cm (ky x) (ky y)) (ci a1 a2) < 0) = decide (a1 < a2) := by rw [h, fr_zero, ci_neg]
    rw [hv]
    clear hv
    go_enter Try.func38, Try.ntmps38
    go_wp2_with fail
    refine (rCompare_c x y hx hy _).mono ?_
    rintro e w1 ⟨rfl, rfl⟩
    rw [h]
    go_wp2
    go_ret
    exact ⟨rfl, by go_grown⟩
  · have hv : decide (fr (cm (ky x) (ky y)) (ci a1 a2) < 0) = false := by rw [h]; rfl
    rw [hv]
    clear hv
    go_enter Try.func38, Try.ntmps38
    go_wp2_with fail
    refine (rCompare_c x y hx hy _).mono ?_
    rintro e w1 ⟨rfl, rfl⟩
    rw [h]
    go_wp2
    go_ret
    exact ⟨rfl, by go_grown⟩
end Go.Proofs.Ytaahfcljcejemaa
