/-
  Contracts of package rank's Before and of the document's: times by their counters, and replicas.
-/
import Derived.Test.YtbhejaokkkggjaaUa
namespace Go.Proofs.Ytbhejaokkkggjaa
open Go.RowKit
open Fl
set_option maxRecDepth 100000

theorem bef1_c (Ba Bb : Nat) (x y : Int) (w : World) (h1 : w.cell? ⟨Ba, 0, none⟩ = some (.int .i64 x)) (h2 : w.cell? ⟨Bb, 0, none⟩ = some (.int .i64 y)) :
    Calls Try.prog 125 #[.pointer (some ⟨Ba, 0, none⟩), .pointer (some ⟨Bb, 0, none⟩)] w fun e w' => e = .returned (.int .i64 (ci x y)) ∧ w = w' := by
  go_enter Try.func125, Try.ntmps125
  go_wp2_with fail
  refine (cmpInt_c x y _).mono ?_
  rintro e w1 ⟨rfl, rfl⟩
  go_wp2
  go_ret
  exact ⟨rfl, rfl⟩

theorem bef2_c (Ba Bb : Nat) (x y : Int) (w : World) (h1 : w.cell? ⟨Ba, 1, none⟩ = some (.int .i64 x)) (h2 : w.cell? ⟨Bb, 1, none⟩ = some (.int .i64 y)) :
    Calls Try.prog 126 #[.pointer (some ⟨Ba, 0, none⟩), .pointer (some ⟨Bb, 0, none⟩)] w fun e w' => e = .returned (.int .i64 (ci x y)) ∧ w = w' := by
  go_enter Try.func126, Try.ntmps126
  go_wp2_with fail
  refine (cmpInt_c x y _).mono ?_
  rintro e w1 ⟨rfl, rfl⟩
  go_wp2
  go_ret
  exact ⟨rfl, rfl⟩

set_option maxHeartbeats 1000000 in
theorem firstB_c (p q : Value) (B : Nat) (v1 v2 : Int) (w : World)
    (hc1 : w.cell? ⟨B, 0, none⟩ = some (.func (.func 125) #[] #[p, q])) (hc2 : w.cell? ⟨B, 1, none⟩ = some (.func (.func 126) #[] #[p, q])) (hB : B < w.heap.size)
    (H1 : Hid (∀ wx, Below w.heap.size w wx → Calls Try.prog 125 #[p, q] wx fun e w' => e = .returned (.int .i64 v1) ∧ Below w.heap.size w w'))
    (H2 : Hid (∀ wx, Below w.heap.size w wx → Calls Try.prog 126 #[p, q] wx fun e w' => e = .returned (.int .i64 v2) ∧ Below w.heap.size w w')) :
    Calls Try.prog 124 #[.slice (some ⟨B, 0, none⟩) 2 2] w fun e w' => e = .returned (.int .i64 (fr v1 v2)) ∧ Below w.heap.size w w' := by
  by_cases h0 : v1 = 0
  · subst h0
    have hfr : fr 0 v2 = v2 := by simp [fr]
    rw [hfr]
    clear hfr
    by_cases h2 : v2 = 0
    · subst h2
      go_enter Try.func124, Try.ntmps124
      go_wp2_with fail
      refine wp_loop_rounds 3 ?_
      rw [rounds_succ]
      go_wp2_with fail
      refine (H1.out _ (Below.refl _ _)).mono ?_
      rintro e w1 ⟨rfl, hb1⟩
      have hc2' := (hb1.cell (p := ⟨B, 1, none⟩) hB).trans hc2
      go_wp2_with fail
      rw [rounds_succ]
      go_wp2_with fail
      refine (H2.out _ hb1).mono ?_
      rintro e w2 ⟨rfl, hb2⟩
      clear hc2'
      go_wp2
      rw [rounds_succ]
      go_wp2
      go_ret
      exact ⟨rfl, hb2⟩
    · have h3 : (v2 != 0) = true := by rw [bne_iff_ne]; exact h2
      go_enter Try.func124, Try.ntmps124
      go_wp2_with fail
      refine wp_loop_rounds 2 ?_
      rw [rounds_succ]
      go_wp2_with fail
      refine (H1.out _ (Below.refl _ _)).mono ?_
      rintro e w1 ⟨rfl, hb1⟩
      have hc2' := (hb1.cell (p := ⟨B, 1, none⟩) hB).trans hc2
      go_wp2_with fail
      rw [rounds_succ]
      go_wp2_with fail
      refine (H2.out _ hb1).mono ?_
      rintro e w2 ⟨rfl, hb2⟩
      clear hc2'
      go_wp2
      go_ret
      exact ⟨rfl, hb2⟩
  · have hfr : fr v1 v2 = v1 := by simp [fr, h0]
    rw [hfr]
    clear hfr
    have h3 : (v1 != 0) = true := by rw [bne_iff_ne]; exact h0
    go_enter Try.func124, Try.ntmps124
    go_wp2_with fail
    refine wp_loop_rounds 1 ?_
    rw [rounds_succ]
    go_wp2_with fail
    refine (H1.out _ (Below.refl _ _)).mono ?_
    rintro e w1 ⟨rfl, hb1⟩
    go_wp2
    go_ret
    exact ⟨rfl, hb1⟩

theorem before_c (c1 r1 c2 r2 : Int) (w : World) :
    Calls Try.prog 104 #[.agg #[.int .i64 c1, .int .i64 r1], .agg #[.int .i64 c2, .int .i64 r2]] w fun e w' => e = .returned (.bool (decide (fr (ci c1 c2) (ci r1 r2) < 0))) ∧ Below w.heap.size w w' := by
  have hF := three_facts w #[.int .i64 c1, .int .i64 r1] #[.int .i64 c2, .int .i64 r2]
    #[.func (.func 125) #[] #[.pointer (some ⟨w.heap.size, 0, none⟩), .pointer (some ⟨w.heap.size + 1, 0, none⟩)], .func (.func 126) #[] #[.pointer (some ⟨w.heap.size, 0, none⟩), .pointer (some ⟨w.heap.size + 1, 0, none⟩)]] 35 145
  have HF := Lib.hid hF
  clear hF
  go_enter Try.func104, Try.ntmps104
  go_wp2_with fail
  obtain ⟨f1, f2, f3, f4, f5⟩ := HF.out
  refine (firstB_c (.pointer (some ⟨w.heap.size, 0, none⟩)) (.pointer (some ⟨w.heap.size + 1, 0, none⟩)) (w.heap.size + 1 + 1) (ci c1 c2) (ci r1 r2)
    (three w #[.int .i64 c1, .int .i64 r1] #[.int .i64 c2, .int .i64 r2]
      #[.func (.func 125) #[] #[.pointer (some ⟨w.heap.size, 0, none⟩), .pointer (some ⟨w.heap.size + 1, 0, none⟩)], .func (.func 126) #[] #[.pointer (some ⟨w.heap.size, 0, none⟩), .pointer (some ⟨w.heap.size + 1, 0, none⟩)]] 35 145)
    (f3 0) (f3 1) f4 ?_ ?_).mono ?_
  · intro wx hb
    refine (bef1_c w.heap.size (w.heap.size + 1) c1 c2 wx ((hb.cell (p := ⟨w.heap.size, 0, none⟩) (Nat.lt_of_succ_lt (Nat.lt_of_succ_lt f4))).trans (f1 0)) ((hb.cell (p := ⟨w.heap.size + 1, 0, none⟩) (Nat.lt_of_succ_lt f4)).trans (f2 0))).mono ?_
    rintro e w' ⟨rfl, rfl⟩
    exact ⟨rfl, hb⟩
  · intro wx hb
    refine (bef2_c w.heap.size (w.heap.size + 1) r1 r2 wx ((hb.cell (p := ⟨w.heap.size, 1, none⟩) (Nat.lt_of_succ_lt (Nat.lt_of_succ_lt f4))).trans (f1 1)) ((hb.cell (p := ⟨w.heap.size + 1, 1, none⟩) (Nat.lt_of_succ_lt f4)).trans (f2 1))).mono ?_
    rintro e w' ⟨rfl, rfl⟩
    exact ⟨rfl, hb⟩
  · rintro e w' ⟨rfl, hb⟩
    clear f1 f2 f3
    go_wp2
    go_ret
    exact ⟨rfl, f5.trans (hb.mono f5.size)⟩

theorem rBefore_c (c1 r1 c2 r2 : Int) (w : World) :
    Calls Try.prog 31 #[.agg #[.int .i64 c1, .int .i64 r1], .agg #[.int .i64 c2, .int .i64 r2]] w fun e w' => e = .returned (.bool (decide (fr (ci c1 c2) (ci r1 r2) < 0))) ∧ Below w.heap.size w w' := by
  rcases Int.lt_trichotomy c1 c2 with h | h | h
  · have hv : decide (fr (ci c1 c2) (ci r1 r2) < 0) = true := by rw [ci_lt h]; rfl
    rw [hv]
    clear hv
    go_enter Try.func31, Try.ntmps31
    go_wp2
    go_ret
    exact ⟨rfl, by go_grown⟩
  · subst h
    have hv : decide (fr (ci c1 c1) (ci r1 r2) < 0) = decide (r1 < r2) := by rw [ci_eq, fr_zero, ci_neg]
    rw [hv]
    clear hv
    go_enter Try.func31, Try.ntmps31
    go_wp2
    go_ret
    exact ⟨rfl, by go_grown⟩
  · have hv : decide (fr (ci c1 c2) (ci r1 r2) < 0) = false := by rw [ci_gt h]; rfl
    rw [hv]
    clear hv
    have h1 : ¬ c1 < c2 := by omega
    have h2 : (c1 == c2) = false := by rw [beq_eq_false_iff_ne]; omega
    go_enter Try.func31, Try.ntmps31
    go_wp2
    go_ret
    exact ⟨rfl, by go_grown⟩

/-- is the one time ahead of the other -/
def befT (c1 r1 c2 r2 : Int) : Bool := decide (c1 < c2) || (decide (c1 = c2) && decide (r1 < r2))
theorem bef_eq (c1 r1 c2 r2 : Int) : decide (fr (ci c1 c2) (ci r1 r2) < 0) = befT c1 r1 c2 r2 := by
  unfold befT
  rcases Int.lt_trichotomy c1 c2 with h | h | h
  · rw [ci_lt h, decide_eq_true (show c1 < c2 from h)]; rfl
  · subst h; rw [ci_eq, fr_zero, ci_neg]; simp
  · rw [ci_gt h, decide_eq_false (show ¬ c1 < c2 by omega), decide_eq_false (show ¬ c1 = c2 by omega)]; rfl
theorem bef_c (c1 r1 c2 r2 : Int) (w : World) :
    Calls Try.prog 104 #[.agg #[.int .i64 c1, .int .i64 r1], .agg #[.int .i64 c2, .int .i64 r2]] w fun e w' => e = .returned (.bool (befT c1 r1 c2 r2)) ∧ Below w.heap.size w w' := by
  rw [← bef_eq]; exact before_c c1 r1 c2 r2 w
theorem rbef_c (c1 r1 c2 r2 : Int) (w : World) :
    Calls Try.prog 31 #[.agg #[.int .i64 c1, .int .i64 r1], .agg #[.int .i64 c2, .int .i64 r2]] w fun e w' => e = .returned (.bool (befT c1 r1 c2 r2)) ∧ Below w.heap.size w w' := by
  rw [← bef_eq]; exact rBefore_c c1 r1 c2 r2 w
end Go.Proofs.Ytbhejaokkkggjaa
