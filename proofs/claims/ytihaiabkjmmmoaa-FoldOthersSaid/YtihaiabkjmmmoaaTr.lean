/-
  The program's order of rows by their children.
-/
import Derived.Test.YtihaiabkjmmmoaaTk
import Derived.Test.YtihaiabkjmmmoaaNm
namespace Go.Proofs.Ytihaiabkjmmmoaa
open Go.RowKit Go.IntWalk
open Fl
set_option maxRecDepth 100000
attribute [local go_sem] Oper.semAt_some

theorem ordF_c (x y : Rw) (w : World) :
    Calls Try.prog 97 #[rv x, rv y] w fun e w' => e = .returned (.int .i64 (ci (ch x) (ch y))) ∧ Below w.heap.size w w' := by
  show Calls Try.prog 97 #[.agg #[.int .i64 (ch x), .int .i64 (pa x), .string (ba (nm x)), .float .f64 (rk x)], .agg #[.int .i64 (ch y), .int .i64 (pa y), .string (ba (nm y)), .float .f64 (rk y)]] w _
  have hb := ((Below.refl w.heap.size w).alloc (Nat.le_refl _) (.cells #[.int .i64 (ch x), .int .i64 (pa x), .string (ba (nm x)), .float .f64 (rk x)] 33)).alloc (by simp) (.cells #[.int .i64 (ch y), .int .i64 (pa y), .string (ba (nm y)), .float .f64 (rk y)] 33)
  go_enter Try.func97, Try.ntmps97
  go_wp2_with fail
  refine (cmpInt_c _ _ _).mono ?_
  rintro e w1 ⟨rfl, rfl⟩
  go_wp2_with fail
  go_ret
  exact ⟨rfl, hb⟩
theorem parF_c (x : Rw) (c : Int) (w : World) :
    Calls Try.prog 116 #[rv x, .int .i64 c] w fun e w' => e = .returned (.int .i64 (ci (ch x) c)) ∧ Below w.heap.size w w' := by
  show Calls Try.prog 116 #[.agg #[.int .i64 (ch x), .int .i64 (pa x), .string (ba (nm x)), .float .f64 (rk x)], .int .i64 c] w _
  have hb := (Below.refl w.heap.size w).alloc (Nat.le_refl _) (.cells #[.int .i64 (ch x), .int .i64 (pa x), .string (ba (nm x)), .float .f64 (rk x)] 33)
  go_enter Try.func116, Try.ntmps116
  go_wp2_with fail
  refine (cmpInt_c _ _ _).mono ?_
  rintro e w1 ⟨rfl, rfl⟩
  go_wp2_with fail
  go_ret
  exact ⟨rfl, hb⟩
end Go.Proofs.Ytihaiabkjmmmoaa
