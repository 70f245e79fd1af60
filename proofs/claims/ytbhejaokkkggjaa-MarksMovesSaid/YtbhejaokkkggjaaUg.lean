/-
  Whether a move may be, whether moves may be: the program's, and the document's.
-/
import Derived.Test.YtbhejaokkkggjaaUe
import Derived.Test.YtbhejaokkkggjaaTk
namespace Go.Proofs.Ytbhejaokkkggjaa
open Go.RowKit Go.IntWalk
open Wd Fl
set_option maxRecDepth 100000
attribute [local go_sem] Oper.semAt_some

theorem rtime_c (c r : Int) (w : World) :
    Calls Try.prog 53 #[.agg #[.int .i64 c, .int .i64 r]] w fun e w' => e = .returned (.bool (decide (1 ≤ c) && (decide (c ≤ 4611686018427387903) && (decide (1 ≤ r) && decide (r ≤ 255))))) ∧ Below w.heap.size w w' := by
  have hb := (Below.refl w.heap.size w).alloc (Nat.le_refl _) (.cells #[.int .i64 c, .int .i64 r] 35)
  by_cases h1 : 1 ≤ c
  case neg =>
    rw [decide_eq_false h1, Bool.false_and]
    go_enter Try.func53, Try.ntmps53
    go_wp2_with fail
    go_ret
    exact ⟨rfl, hb⟩
  by_cases h2 : c ≤ 4611686018427387903
  case neg =>
    rw [decide_eq_true h1, Bool.true_and, decide_eq_false h2, Bool.false_and]
    go_enter Try.func53, Try.ntmps53
    go_wp2_with fail
    go_ret
    exact ⟨rfl, hb⟩
  by_cases h3 : 1 ≤ r
  case neg =>
    rw [decide_eq_true h1, Bool.true_and, decide_eq_true h2, Bool.true_and, decide_eq_false h3, Bool.false_and]
    go_enter Try.func53, Try.ntmps53
    go_wp2_with fail
    go_ret
    exact ⟨rfl, hb⟩
  by_cases h4 : r ≤ 255
  case neg =>
    rw [decide_eq_true h1, Bool.true_and, decide_eq_true h2, Bool.true_and, decide_eq_true h3, Bool.true_and, decide_eq_false h4]
    go_enter Try.func53, Try.ntmps53
    go_wp2_with fail
    go_ret
    exact ⟨rfl, hb⟩
  rw [decide_eq_true h1, Bool.true_and, decide_eq_true h2, Bool.true_and, decide_eq_true h3, Bool.true_and, decide_eq_true h4]
  go_enter Try.func53, Try.ntmps53
  go_wp2_with fail
  go_ret
  exact ⟨rfl, hb⟩

theorem rmone_c (m : Mv) (hn : (nm (mw m)).length ≤ maxLen) (w : World) :
    Calls Try.prog 33 #[mv m] w fun e w' => e = .returned (.bool (oneM m)) ∧ Below w.heap.size w w' := by
  obtain ⟨c, r, k, p, n, f⟩ := m
  have hrow : ∀ W, Calls Try.prog 66 #[.agg #[.int .i64 c, .int .i64 r, .int .i64 p, .int .i64 k, .string (ba n), .float .f64 f]] W fun e w' => e = .returned (.agg #[.int .i64 k, .int .i64 p, .string (ba n), .float .f64 f]) ∧ Below W.heap.size W w' := fun W => rmrow_c (c, r, k, p, n, f) W
  have hone : ∀ W, Calls Try.prog 54 #[.agg #[.int .i64 k, .int .i64 p, .string (ba n), .float .f64 f]] W fun e w' => e = .returned (.bool (oneP (k, p, n, f))) ∧ Below W.heap.size W w' := fun W => rone_c (k, p, n, f) hn W
  have htime := fun W => rtime_c c r W
  have hval : oneM (c, r, k, p, n, f) = ((decide (1 ≤ c) && (decide (c ≤ 4611686018427387903) && (decide (1 ≤ r) && decide (r ≤ 255)))) && oneP (k, p, n, f)) := by
    unfold oneM
    simp only [Bool.and_assoc]
  rw [hval]
  show Calls Try.prog 33 #[.agg #[.int .i64 c, .int .i64 r, .int .i64 p, .int .i64 k, .string (ba n), .float .f64 f]] w _
  have hb := (Below.refl w.heap.size w).alloc (Nat.le_refl _) (.cells #[.int .i64 c, .int .i64 r, .int .i64 p, .int .i64 k, .string (ba n), .float .f64 f] 38)
  obtain ⟨q, hq⟩ : ∃ q, (decide (1 ≤ c) && (decide (c ≤ 4611686018427387903) && (decide (1 ≤ r) && decide (r ≤ 255)))) = q := ⟨_, rfl⟩
  rw [hq] at htime ⊢
  have HROW := Lib.hid hrow
  have HONE := Lib.hid hone
  have HTIME := Lib.hid htime
  clear hrow hone hn htime hval hq
  cases q
  · rw [Bool.false_and]
    go_enter Try.func33, Try.ntmps33
    go_wp2_with fail
    refine (HTIME.out _).mono ?_
    rintro e w1 ⟨rfl, hb1⟩
    go_wp2_with fail
    go_ret
    exact ⟨rfl, hb.trans (hb1.mono hb.size)⟩
  · rw [Bool.true_and]
    have b0 := fun v (h : (w.alloc (.cells #[.int .i64 c, .int .i64 r, .int .i64 p, .int .i64 k, .string (ba n), .float .f64 f] 38)).cell? ⟨w.heap.size, 0, none⟩ = some v) => h
    have hI0 : Is (w.alloc (.cells #[.int .i64 c, .int .i64 r, .int .i64 p, .int .i64 k, .string (ba n), .float .f64 f] 38)) w.heap.size 38 [.int .i64 c, .int .i64 r, .int .i64 p, .int .i64 k, .string (ba n), .float .f64 f] := is_new w 38 [.int .i64 c, .int .i64 r, .int .i64 p, .int .i64 k, .string (ba n), .float .f64 f]
    have HI0 := Lib.hid hI0
    clear b0 hI0
    go_enter Try.func33, Try.ntmps33
    go_wp2_with fail
    refine (HTIME.out _).mono ?_
    rintro e w1 ⟨rfl, hb1⟩
    have hI := is_below HI0.out hb1 (is_lt HI0.out)
    have i0 := is_cell hI 0
    have i1 := is_cell hI 1
    have i2 := is_cell hI 2
    have i3 := is_cell hI 3
    have i4 := is_cell hI 4
    have i5 := is_cell hI 5
    go_wp2_with fail
    refine (HROW.out _).mono ?_
    rintro e w2 ⟨rfl, hb2⟩
    go_wp2_with fail
    refine (HONE.out _).mono ?_
    rintro e w3 ⟨rfl, hb3⟩
    go_wp2_with fail
    go_ret
    have hb4 := hb.trans (hb1.mono hb.size)
    have hb5 := hb4.trans (hb2.mono hb4.size)
    exact ⟨rfl, hb5.trans (hb3.mono hb5.size)⟩
end Go.Proofs.Ytbhejaokkkggjaa
