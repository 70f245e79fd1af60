/-
  Contracts of cmp.Compare of ints, and of the closures of package rank.
-/
import Derived.Test.YtaahfcljcejemaaBo
import Derived.LoopN
import Derived.Handy
namespace Go.Proofs.Ytaahfcljcejemaa
open Go.RowKit
open Fl
set_option maxRecDepth 100000

/-- how two ints stand -/
def ci (x y : Int) : Int := if x < y then -1 else if y < x then 1 else 0

theorem cmpInt_c (x y : Int) (w : World) :
    Calls Try.prog 54 #[.int .i64 x, .int .i64 y] w fun e w' => e = .returned (.int .i64 (ci x y)) ∧ w = w' := by
  rcases Int.lt_trichotomy x y with h | h | h
  · have hc : ci x y = -1 := by unfold ci; rw [if_pos h]
    rw [hc]
    go_enter Try.func54, Try.ntmps54
    go_wp2
    go_ret
    exact ⟨rfl, rfl⟩
  · subst h
    have hc : ci x x = 0 := by unfold ci; rw [if_neg (by omega), if_neg (by omega)]
    rw [hc]
    go_enter Try.func54, Try.ntmps54
    go_wp2
    go_ret
    exact ⟨rfl, rfl⟩
  · have hc : ci x y = 1 := by unfold ci; rw [if_neg (by omega), if_pos h]
    rw [hc]
    go_enter Try.func54, Try.ntmps54
    go_wp2
    go_ret
    exact ⟨rfl, rfl⟩


theorem bef1_c (Ba Bb : Nat) (x y : Int) (w : World) (h1 : w.cell? ⟨Ba, 0, none⟩ = some (.int .i64 x)) (h2 : w.cell? ⟨Bb, 0, none⟩ = some (.int .i64 y)) :
    Calls Try.prog 55 #[.pointer (some ⟨Ba, 0, none⟩), .pointer (some ⟨Bb, 0, none⟩)] w fun e w' => e = .returned (.int .i64 (ci x y)) ∧ w = w' := by
  go_enter Try.func55, Try.ntmps55
  go_wp2_with fail
  refine (cmpInt_c x y _).mono ?_
  rintro e w1 ⟨rfl, rfl⟩
  go_wp2
  go_ret
  exact ⟨rfl, rfl⟩

theorem bef2_c (Ba Bb : Nat) (x y : Int) (w : World) (h1 : w.cell? ⟨Ba, 1, none⟩ = some (.int .i64 x)) (h2 : w.cell? ⟨Bb, 1, none⟩ = some (.int .i64 y)) :
    Calls Try.prog 56 #[.pointer (some ⟨Ba, 0, none⟩), .pointer (some ⟨Bb, 0, none⟩)] w fun e w' => e = .returned (.int .i64 (ci x y)) ∧ w = w' := by
  go_enter Try.func56, Try.ntmps56
  go_wp2_with fail
  refine (cmpInt_c x y _).mono ?_
  rintro e w1 ⟨rfl, rfl⟩
  go_wp2
  go_ret
  exact ⟨rfl, rfl⟩

theorem les2_c (Ba Bb : Nat) (x y : Int) (w : World) (h1 : w.cell? ⟨Ba, 0, none⟩ = some (.int .i64 x)) (h2 : w.cell? ⟨Bb, 0, none⟩ = some (.int .i64 y)) :
    Calls Try.prog 53 #[.pointer (some ⟨Ba, 0, none⟩), .pointer (some ⟨Bb, 0, none⟩)] w fun e w' => e = .returned (.int .i64 (ci x y)) ∧ w = w' := by
  go_enter Try.func53, Try.ntmps53
  go_wp2_with fail
  refine (cmpInt_c x y _).mono ?_
  rintro e w1 ⟨rfl, rfl⟩
  go_wp2
  go_ret
  exact ⟨rfl, rfl⟩

theorem les1_c (Ba Bb : Nat) (x y : Nat) (hx : x < 18446744073709551616) (hy : y < 18446744073709551616) (w : World) (h1 : w.cell? ⟨Ba, 3, none⟩ = some (.float .f64 x)) (h2 : w.cell? ⟨Bb, 3, none⟩ = some (.float .f64 y)) :
    Calls Try.prog 52 #[.pointer (some ⟨Ba, 0, none⟩), .pointer (some ⟨Bb, 0, none⟩)] w fun e w' => e = .returned (.int .i64 (cm (ky x) (ky y))) ∧ Below w.heap.size w w' := by
  go_enter Try.func52, Try.ntmps52
  go_wp2_with fail
  refine (compare_c x y hx hy _).mono ?_
  rintro e w1 ⟨rfl, hb1⟩
  go_wp2
  go_ret
  exact ⟨rfl, hb1⟩
end Go.Proofs.Ytaahfcljcejemaa
