/-
  Contract of package rank's first, at the two pairs of ways that are handed to it.
-/
import Derived.Test.YtaahfcljcejemaaBp
import Derived.LoopN
import Derived.Handy
namespace Go.Proofs.Ytaahfcljcejemaa
open Go.RowKit
open Fl
set_option maxRecDepth 100000

/-- what 'first' tells of two ways, by what these tell -/
def fr (v1 v2 : Int) : Int := if v1 = 0 then v2 else v1

set_option maxHeartbeats 1000000 in
theorem firstB_c (p q : Value) (B : Nat) (v1 v2 : Int) (w : World)
    (hc1 : w.cell? ⟨B, 0, none⟩ = some (.func (.func 55) #[] #[p, q])) (hc2 : w.cell? ⟨B, 1, none⟩ = some (.func (.func 56) #[] #[p, q])) (hB : B < w.heap.size)
    (H1 : Hid (∀ wx, Below w.heap.size w wx → Calls Try.prog 55 #[p, q] wx fun e w' => e = .returned (.int .i64 v1) ∧ Below w.heap.size w w'))
    (H2 : Hid (∀ wx, Below w.heap.size w wx → Calls Try.prog 56 #[p, q] wx fun e w' => e = .returned (.int .i64 v2) ∧ Below w.heap.size w w')) :
    Calls Try.prog 51 #[.slice (some ⟨B, 0, none⟩) 2 2] w fun e w' => e = .returned (.int .i64 (fr v1 v2)) ∧ Below w.heap.size w w' := by
  by_cases h0 : v1 = 0
  · subst h0
    have hfr : fr 0 v2 = v2 := by simp [fr]
    rw [hfr]
    clear hfr
    by_cases h2 : v2 = 0
    · subst h2
      go_enter Try.func51, Try.ntmps51
      go_wp2_with fail
      refine wp_loop_rounds 3 ?_
      rw [rounds_succ]
      go_wp2_with fail
      refine (H1.out _ (Below.refl _ _)).mono ?_
      rintro e w1 ⟨rfl, hb1⟩
      have hc2' := (hb1.cell (p := ⟨B, 1, none⟩) hB).trans hc2
      go_wp2_with fail
      rw [rounds_succ]
      go_wp2_with fail
      refine (H2.out _ hb1).mono ?_
      rintro e w2 ⟨rfl, hb2⟩
      clear hc2'
      go_wp2
      rw [rounds_succ]
      go_wp2
      go_ret
      exact ⟨rfl, hb2⟩
    · have h3 : (v2 != 0) = true := by rw [bne_iff_ne]; exact h2
      go_enter Try.func51, Try.ntmps51
      go_wp2_with fail
      refine wp_loop_rounds 2 ?_
      rw [rounds_succ]
      go_wp2_with fail
      refine (H1.out _ (Below.refl _ _)).mono ?_
      rintro e w1 ⟨rfl, hb1⟩
      have hc2' := (hb1.cell (p := ⟨B, 1, none⟩) hB).trans hc2
      go_wp2_with fail
      rw [rounds_succ]
      go_wp2_with fail
      refine (H2.out _ hb1).mono ?_
      rintro e w2 ⟨rfl, hb2⟩
      clear hc2'
      go_wp2
      go_ret
      exact ⟨rfl, hb2⟩
  · have hfr : fr v1 v2 = v1 := by simp [fr, h0]
    rw [hfr]
    clear hfr
    have h3 : (v1 != 0) = true := by rw [bne_iff_ne]; exact h0
    go_enter Try.func51, Try.ntmps51
    go_wp2_with fail
    refine wp_loop_rounds 1 ?_
    rw [rounds_succ]
    go_wp2_with fail
    refine (H1.out _ (Below.refl _ _)).mono ?_
    rintro e w1 ⟨rfl, hb1⟩
    go_wp2
    go_ret
    exact ⟨rfl, hb1⟩

set_option maxHeartbeats 1000000 in
theorem firstL_c (p q : Value) (B : Nat) (v1 v2 : Int) (w : World)
    (hc1 : w.cell? ⟨B, 0, none⟩ = some (.func (.func 52) #[] #[p, q])) (hc2 : w.cell? ⟨B, 1, none⟩ = some (.func (.func 53) #[] #[p, q])) (hB : B < w.heap.size)
    (H1 : Hid (∀ wx, Below w.heap.size w wx → Calls Try.prog 52 #[p, q] wx fun e w' => e = .returned (.int .i64 v1) ∧ Below w.heap.size w w'))
    (H2 : Hid (∀ wx, Below w.heap.size w wx → Calls Try.prog 53 #[p, q] wx fun e w' => e = .returned (.int .i64 v2) ∧ Below w.heap.size w w')) :
    Calls Try.prog 51 #[.slice (some ⟨B, 0, none⟩) 2 2] w fun e w' => e = .returned (.int .i64 (fr v1 v2)) ∧ Below w.heap.size w w' := by
  by_cases h0 : v1 = 0
  · subst h0
    have hfr : fr 0 v2 = v2 := by simp [fr]
    rw [hfr]
    clear hfr
    by_cases h2 : v2 = 0
    · subst h2
      go_enter Try.func51, Try.ntmps51
      go_wp2_with fail
      refine wp_loop_rounds 3 ?_
      rw [rounds_succ]
      go_wp2_with fail
      refine (H1.out _ (Below.refl _ _)).mono ?_
      rintro e w1 ⟨rfl, hb1⟩
      have hc2' := (hb1.cell (p := ⟨B, 1, none⟩) hB).trans hc2
      go_wp2_with fail
      rw [rounds_succ]
      go_wp2_with fail
      refine (H2.out _ hb1).mono ?_
      rintro e w2 ⟨rfl, hb2⟩
      clear hc2'
      go_wp2
      rw [rounds_succ]
      go_wp2
      go_ret
      exact ⟨rfl, hb2⟩
    · have h3 : (v2 != 0) = true := by rw [bne_iff_ne]; exact h2
      go_enter Try.func51, Try.ntmps51
      go_wp2_with fail
      refine wp_loop_rounds 2 ?_
      rw [rounds_succ]
      go_wp2_with fail
      refine (H1.out _ (Below.refl _ _)).mono ?_
      rintro e w1 ⟨rfl, hb1⟩
      have hc2' := (hb1.cell (p := ⟨B, 1, none⟩) hB).trans hc2
      go_wp2_with fail
      rw [rounds_succ]
      go_wp2_with fail
      refine (H2.out _ hb1).mono ?_
      rintro e w2 ⟨rfl, hb2⟩
      clear hc2'
      go_wp2
      go_ret
      exact ⟨rfl, hb2⟩
  · have hfr : fr v1 v2 = v1 := by simp [fr, h0]
    rw [hfr]
    clear hfr
    have h3 : (v1 != 0) = true := by rw [bne_iff_ne]; exact h0
    go_enter Try.func51, Try.ntmps51
    go_wp2_with fail
    refine wp_loop_rounds 1 ?_
    rw [rounds_succ]
    go_wp2_with fail
    refine (H1.out _ (Below.refl _ _)).mono ?_
    rintro e w1 ⟨rfl, hb1⟩
    go_wp2
    go_ret
    exact ⟨rfl, hb1⟩

end Go.Proofs.Ytaahfcljcejemaa
