/-
 A row that is set: the document's.
 Who is above whom: the document's.
 What may be a tree: the document's.
 A move's row, whether it may be, and its place by its time: the program's, and the document's.
 Whether a move may be, whether moves may be: the program's, and the document's.
-/
import Derived.Test.YtojhenpaeedimaaUb
import Derived.Deep.QuietTactic
import Derived.BigQuiet
import Derived.Test.YtojhenpaeedimaaVj
import Derived.Laws.StructEq
section
namespace Go.Proofs.Ytojhenpaeedimaa
open Go.RowKit Go.IntWalk
set_option maxRecDepth 100000
attribute [local go_sem] Oper.semAt_some
end Go.Proofs.Ytojhenpaeedimaa
end
section
namespace Go.Proofs.Ytojhenpaeedimaa
open Go.RowKit Go.IntWalk
set_option maxRecDepth 100000
attribute [local go_sem] Oper.semAt_some
end Go.Proofs.Ytojhenpaeedimaa
end
section
namespace Go.Proofs.Ytojhenpaeedimaa
open Go.RowKit Go.IntWalk
set_option maxRecDepth 100000
attribute [local go_sem] Oper.semAt_some
/-- a region that only reads but for calls that keep C -/
theorem quiet_held {P : Program} {id : Nat} {Q : Exit → Act → World → Prop} {a : Act} {w : World} {l : List Oper} (C : World → Prop) (hm : P.follows .mixedOrders = true) (hB : Region.lexB .any l.toArray = true) (hC : C w.drew)
  (h : wpQuiet P l.toArray C (fun a' => ∀ w', C w' → Q .normal a' w') l a) : (Code.region id l.toArray true).wp P Q a w :=
 wp_region_quiet (C := C) hm hB hC (by simpa using h)
end Go.Proofs.Ytojhenpaeedimaa
end
section
namespace Go.Proofs.Ytojhenpaeedimaa
open Go.RowKit Go.IntWalk
open Wd Fl
set_option maxRecDepth 100000
attribute [local go_sem] Oper.semAt_some
attribute [-go_sem] run_eql_struct
theorem mrow_c (m : Mv) (w : World) :
  Calls Try.prog 75 #[mv m] w fun e w' => e = .returned (rv (mw m)) ∧ Below w.heap.size w w' := by
 obtain ⟨c, r, k, p, n, f⟩ := m
 show Calls Try.prog 75 #[.agg #[.int .i64 c, .int .i64 r, .int .i64 p, .int .i64 k, .string (ba n), .float .f64 f]] w fun e w' => e = .returned (.agg #[.int .i64 k, .int .i64 p, .string (ba n), .float .f64 f]) ∧ _
 go_enter Try.func75, Try.ntmps75
 go_wp2
 refine bodyPost_ret (v := .agg #[.int .i64 k, .int .i64 p, .string (ba n), .float .f64 f]) (by simp [results, Try.f75, go_sem]) rfl ?_
 exact ⟨rfl, by go_grown⟩
theorem rmrow_c (m : Mv) (w : World) :
  Calls Try.prog 64 #[mv m] w fun e w' => e = .returned (rv (mw m)) ∧ Below w.heap.size w w' := by
 obtain ⟨c, r, k, p, n, f⟩ := m
 show Calls Try.prog 64 #[.agg #[.int .i64 c, .int .i64 r, .int .i64 p, .int .i64 k, .string (ba n), .float .f64 f]] w fun e w' => e = .returned (.agg #[.int .i64 k, .int .i64 p, .string (ba n), .float .f64 f]) ∧ _
 go_enter Try.func64, Try.ntmps64
 go_wp2
 refine bodyPost_ret (v := .agg #[.int .i64 k, .int .i64 p, .string (ba n), .float .f64 f]) (by simp [results, Try.f64, go_sem]) rfl ?_
 exact ⟨rfl, by go_grown⟩
theorem box6 {w : World} {G : Nat} {m : Mv} (h : Is w G 30 [.int .i64 (mc m), .int .i64 (mr m), .int .i64 (pa (mw m)), .int .i64 (ch (mw m)), .string (ba (nm (mw m))), .float .f64 (rk (mw m))]) :
  w.cell? ⟨G, 0, none⟩ = some (.int .i64 (mc m)) ∧ w.cell? ⟨G, 1, none⟩ = some (.int .i64 (mr m)) ∧ w.cell? ⟨G, 2, none⟩ = some (.int .i64 (pa (mw m))) ∧ w.cell? ⟨G, 3, none⟩ = some (.int .i64 (ch (mw m))) ∧ w.cell? ⟨G, 4, none⟩ = some (.string (ba (nm (mw m)))) ∧ w.cell? ⟨G, 5, none⟩ = some (.float .f64 (rk (mw m))) :=
 ⟨is_cell h 0, is_cell h 1, is_cell h 2, is_cell h 3, is_cell h 4, is_cell h 5⟩
end Go.Proofs.Ytojhenpaeedimaa
end
section
namespace Go.Proofs.Ytojhenpaeedimaa
open Go.RowKit Go.IntWalk
open Wd Fl
set_option maxRecDepth 100000
attribute [local go_sem] Oper.semAt_some
theorem mone_c (m : Mv) (hn : (nm (mw m)).length ≤ maxLen) (w : World) :
  Calls Try.prog 53 #[mv m] w fun e w' => e = .returned (.bool (oneM m)) ∧ Below w.heap.size w w' := by
 obtain ⟨c, r, k, p, n, f⟩ := m
 have hrow : ∀ W, Calls Try.prog 75 #[.agg #[.int .i64 c, .int .i64 r, .int .i64 p, .int .i64 k, .string (ba n), .float .f64 f]] W fun e w' => e = .returned (.agg #[.int .i64 k, .int .i64 p, .string (ba n), .float .f64 f]) ∧ Below W.heap.size W w' := fun W => mrow_c (c, r, k, p, n, f) W
 have hone : ∀ W, Calls Try.prog 74 #[.agg #[.int .i64 k, .int .i64 p, .string (ba n), .float .f64 f]] W fun e w' => e = .returned (.bool (oneP (k, p, n, f))) ∧ Below W.heap.size W w' := fun W => one_c (k, p, n, f) hn W
 show Calls Try.prog 53 #[.agg #[.int .i64 c, .int .i64 r, .int .i64 p, .int .i64 k, .string (ba n), .float .f64 f]] w fun e w' => e = .returned (.bool (decide (1 ≤ c) && (decide (c ≤ 4611686018427387903) && (decide (1 ≤ r) && (decide (r ≤ 255) && oneP (k, p, n, f)))))) ∧ _
 have hb := (Below.refl w.heap.size w).alloc (Nat.le_refl _) (.cells #[.int .i64 c, .int .i64 r, .int .i64 p, .int .i64 k, .string (ba n), .float .f64 f] 30)
 have HROW := Lib.hid hrow
 have HONE := Lib.hid hone
 clear hrow hone hn
 by_cases h1 : 1 ≤ c
 case neg =>
  have g1b : ¬ 0 < c := by omega
  rw [decide_eq_false h1, Bool.false_and]
  go_enter Try.func53, Try.ntmps53
  go_wp2_with fail
  go_ret
  exact ⟨rfl, hb⟩
 have q1 : 0 < c := by omega
 by_cases h2 : c ≤ 4611686018427387903
 case neg =>
  rw [decide_eq_true h1, Bool.true_and, decide_eq_false h2, Bool.false_and]
  go_enter Try.func53, Try.ntmps53
  go_wp2_with fail
  go_ret
  exact ⟨rfl, hb⟩
 by_cases h3 : 1 ≤ r
 case neg =>
  have g1b : ¬ 0 < r := by omega
  rw [decide_eq_true h1, Bool.true_and, decide_eq_true h2, Bool.true_and, decide_eq_false h3, Bool.false_and]
  go_enter Try.func53, Try.ntmps53
  go_wp2_with fail
  go_ret
  exact ⟨rfl, hb⟩
 have q3 : 0 < r := by omega
 by_cases h4 : r ≤ 255
 case neg =>
  rw [decide_eq_true h1, Bool.true_and, decide_eq_true h2, Bool.true_and, decide_eq_true h3, Bool.true_and, decide_eq_false h4, Bool.false_and]
  go_enter Try.func53, Try.ntmps53
  go_wp2_with fail
  go_ret
  exact ⟨rfl, hb⟩
 rw [decide_eq_true h1, Bool.true_and, decide_eq_true h2, Bool.true_and, decide_eq_true h3, Bool.true_and, decide_eq_true h4, Bool.true_and]
 go_enter Try.func53, Try.ntmps53
 go_wp2_with fail
 refine (HROW.out _).mono ?_
 rintro e w1 ⟨rfl, hb1⟩
 go_wp2_with fail
 refine (HONE.out _).mono ?_
 rintro e w2 ⟨rfl, hb2⟩
 go_wp2_with fail
 go_ret
 have hb3 := hb.trans (hb1.mono hb.size)
 exact ⟨rfl, hb3.trans (hb2.mono hb3.size)⟩
theorem rtime_c (c r : Int) (w : World) :
  Calls Try.prog 62 #[.agg #[.int .i64 c, .int .i64 r]] w fun e w' => e = .returned (.bool (decide (1 ≤ c) && (decide (c ≤ 4611686018427387903) && (decide (1 ≤ r) && decide (r ≤ 255))))) ∧ Below w.heap.size w w' := by
 have hb := (Below.refl w.heap.size w).alloc (Nat.le_refl _) (.cells #[.int .i64 c, .int .i64 r] 27)
 by_cases h1 : 1 ≤ c
 case neg =>
  rw [decide_eq_false h1, Bool.false_and]
  go_enter Try.func62, Try.ntmps62
  go_wp2_with fail
  go_ret
  exact ⟨rfl, hb⟩
 by_cases h2 : c ≤ 4611686018427387903
 case neg =>
  rw [decide_eq_true h1, Bool.true_and, decide_eq_false h2, Bool.false_and]
  go_enter Try.func62, Try.ntmps62
  go_wp2_with fail
  go_ret
  exact ⟨rfl, hb⟩
 by_cases h3 : 1 ≤ r
 case neg =>
  rw [decide_eq_true h1, Bool.true_and, decide_eq_true h2, Bool.true_and, decide_eq_false h3, Bool.false_and]
  go_enter Try.func62, Try.ntmps62
  go_wp2_with fail
  go_ret
  exact ⟨rfl, hb⟩
 by_cases h4 : r ≤ 255
 case neg =>
  rw [decide_eq_true h1, Bool.true_and, decide_eq_true h2, Bool.true_and, decide_eq_true h3, Bool.true_and, decide_eq_false h4]
  go_enter Try.func62, Try.ntmps62
  go_wp2_with fail
  go_ret
  exact ⟨rfl, hb⟩
 rw [decide_eq_true h1, Bool.true_and, decide_eq_true h2, Bool.true_and, decide_eq_true h3, Bool.true_and, decide_eq_true h4]
 go_enter Try.func62, Try.ntmps62
 go_wp2_with fail
 go_ret
 exact ⟨rfl, hb⟩
theorem rmone_c (m : Mv) (hn : (nm (mw m)).length ≤ maxLen) (w : World) :
  Calls Try.prog 39 #[mv m] w fun e w' => e = .returned (.bool (oneM m)) ∧ Below w.heap.size w w' := by
 obtain ⟨c, r, k, p, n, f⟩ := m
 have hrow : ∀ W, Calls Try.prog 64 #[.agg #[.int .i64 c, .int .i64 r, .int .i64 p, .int .i64 k, .string (ba n), .float .f64 f]] W fun e w' => e = .returned (.agg #[.int .i64 k, .int .i64 p, .string (ba n), .float .f64 f]) ∧ Below W.heap.size W w' := fun W => rmrow_c (c, r, k, p, n, f) W
 have hone : ∀ W, Calls Try.prog 63 #[.agg #[.int .i64 k, .int .i64 p, .string (ba n), .float .f64 f]] W fun e w' => e = .returned (.bool (oneP (k, p, n, f))) ∧ Below W.heap.size W w' := fun W => rone_c (k, p, n, f) hn W
 have htime := fun W => rtime_c c r W
 have hval : oneM (c, r, k, p, n, f) = ((decide (1 ≤ c) && (decide (c ≤ 4611686018427387903) && (decide (1 ≤ r) && decide (r ≤ 255)))) && oneP (k, p, n, f)) := by
  unfold oneM
  simp only [Bool.and_assoc]
 rw [hval]
 show Calls Try.prog 39 #[.agg #[.int .i64 c, .int .i64 r, .int .i64 p, .int .i64 k, .string (ba n), .float .f64 f]] w _
 have hb := (Below.refl w.heap.size w).alloc (Nat.le_refl _) (.cells #[.int .i64 c, .int .i64 r, .int .i64 p, .int .i64 k, .string (ba n), .float .f64 f] 30)
 obtain ⟨q, hq⟩ : ∃ q, (decide (1 ≤ c) && (decide (c ≤ 4611686018427387903) && (decide (1 ≤ r) && decide (r ≤ 255)))) = q := ⟨_, rfl⟩
 rw [hq] at htime ⊢
 have HROW := Lib.hid hrow
 have HONE := Lib.hid hone
 have HTIME := Lib.hid htime
 clear hrow hone hn htime hval hq
 cases q
 ·rw [Bool.false_and]
  go_enter Try.func39, Try.ntmps39
  go_wp2_with fail
  refine (HTIME.out _).mono ?_
  rintro e w1 ⟨rfl, hb1⟩
  go_wp2_with fail
  go_ret
  exact ⟨rfl, hb.trans (hb1.mono hb.size)⟩
 ·rw [Bool.true_and]
  have b0 := fun v (h : (w.alloc (.cells #[.int .i64 c, .int .i64 r, .int .i64 p, .int .i64 k, .string (ba n), .float .f64 f] 30)).cell? ⟨w.heap.size, 0, none⟩ = some v) => h
  have hI0 : Is (w.alloc (.cells #[.int .i64 c, .int .i64 r, .int .i64 p, .int .i64 k, .string (ba n), .float .f64 f] 30)) w.heap.size 30 [.int .i64 c, .int .i64 r, .int .i64 p, .int .i64 k, .string (ba n), .float .f64 f] := is_new w 30 [.int .i64 c, .int .i64 r, .int .i64 p, .int .i64 k, .string (ba n), .float .f64 f]
  have HI0 := Lib.hid hI0
  clear b0 hI0
  go_enter Try.func39, Try.ntmps39
  go_wp2_with fail
  refine (HTIME.out _).mono ?_
  rintro e w1 ⟨rfl, hb1⟩
  have hI := is_below HI0.out hb1 (is_lt HI0.out)
  have i0 := is_cell hI 0
  have i1 := is_cell hI 1
  have i2 := is_cell hI 2
  have i3 := is_cell hI 3
  have i4 := is_cell hI 4
  have i5 := is_cell hI 5
  go_wp2_with fail
  refine (HROW.out _).mono ?_
  rintro e w2 ⟨rfl, hb2⟩
  go_wp2_with fail
  refine (HONE.out _).mono ?_
  rintro e w3 ⟨rfl, hb3⟩
  go_wp2_with fail
  go_ret
  have hb4 := hb.trans (hb1.mono hb.size)
  have hb5 := hb4.trans (hb2.mono hb4.size)
  exact ⟨rfl, hb5.trans (hb3.mono hb5.size)⟩
end Go.Proofs.Ytojhenpaeedimaa
end
