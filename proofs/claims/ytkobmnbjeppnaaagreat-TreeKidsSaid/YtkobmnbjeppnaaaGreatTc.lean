/-
 Whether a row may be, and whether two are alike; lists of rows held against each other; few rows.
-/
import Derived.Test.YtkobmnbjeppnaaaGreatTb
import Derived.Test.YtkobmnbjeppnaaaGreatEa
import Derived.Deep.RegionHeld3
namespace Go.Proofs.YtkobmnbjeppnaaaGreat
open Go.RowKit Go.IntWalk
open Wd Fl
set_option maxRecDepth 100000
attribute [local go_sem] Oper.semAt_some
theorem ba_beq (a b : List UInt8) : ((ba a).toList == (ba b).toList) = decide (a = b) := by
 rw [ByteArray.toList_eq, ByteArray.toList_eq, ba_list, ba_list]
 by_cases h : a = b <;> simp [h]
def oneP (r : Rw) : Bool := decide (1 ≤ ch r) && (decide (ch r ≤ 2147483647) && (decide (0 ≤ pa r) && (decide (pa r ≤ 2147483647) && (decide ((nm r).length ≤ 64) && valid (nm r)))))
def alikeP (a b : Rw) : Bool := decide (ch a = ch b) && (decide (pa a = pa b) && (decide (nm a = nm b) && ((cb (rk a) : Int) == (cb (rk b) : Int))))
theorem one_c (r : Rw) (hn : (nm r).length ≤ maxLen) (w : World) :
  Calls Tryz.prog 12 #[rv r] w fun e w' => e = .returned (.bool (oneP r)) ∧ Below w.heap.size w w' := by
 obtain ⟨c, p, n, f⟩ := r
 show Calls Tryz.prog 12 #[.agg #[.int .i64 c, .int .i64 p, .string (ba n), .float .f64 f]] w _
 have hs := ba_size n
 have hb := (Below.refl w.heap.size w).alloc (Nat.le_refl _) (.cells #[.int .i64 c, .int .i64 p, .string (ba n), .float .f64 f] 28)
 unfold maxLen at hn
 change n.length ≤ _ at hn
 show Calls _ _ _ _ fun e w' => e = .returned (.bool (decide (1 ≤ c) && (decide (c ≤ 2147483647) && (decide (0 ≤ p) && (decide (p ≤ 2147483647) && (decide (n.length ≤ 64) && valid n)))))) ∧ _
 by_cases h1 : 1 ≤ c
 case neg =>
  have g1 : c < 1 := by omega
  have g1b : ¬ 0 < c := by omega
  rw [decide_eq_false h1, Bool.false_and]
  go_enter Tryz.func12, Tryz.ntmps12
  go_wp2
  go_ret
  exact ⟨rfl, hb⟩
 have q1 : 0 < c := by omega
 by_cases h2 : c ≤ 2147483647
 case neg =>
  have g2 : 2147483647 < c := by omega
  rw [decide_eq_true h1, Bool.true_and, decide_eq_false h2, Bool.false_and]
  go_enter Tryz.func12, Tryz.ntmps12
  go_wp2
  go_ret
  exact ⟨rfl, hb⟩
 by_cases h3 : 0 ≤ p
 case neg =>
  have g3 : p < 0 := by omega
  rw [decide_eq_true h1, Bool.true_and, decide_eq_true h2, Bool.true_and, decide_eq_false h3, Bool.false_and]
  go_enter Tryz.func12, Tryz.ntmps12
  go_wp2
  go_ret
  exact ⟨rfl, hb⟩
 by_cases h4 : p ≤ 2147483647
 case neg =>
  have g4 : 2147483647 < p := by omega
  rw [decide_eq_true h1, Bool.true_and, decide_eq_true h2, Bool.true_and, decide_eq_true h3, Bool.true_and, decide_eq_false h4, Bool.false_and]
  go_enter Tryz.func12, Tryz.ntmps12
  go_wp2
  go_ret
  exact ⟨rfl, hb⟩
 by_cases h5 : n.length ≤ 64
 case neg =>
  have g5 : (64 : Int) < (n.length : Int) := by omega
  have g5b : ¬ (n.length : Int) ≤ 64 := by omega
  rw [decide_eq_true h1, Bool.true_and, decide_eq_true h2, Bool.true_and, decide_eq_true h3, Bool.true_and, decide_eq_true h4, Bool.true_and, decide_eq_false h5, Bool.false_and]
  go_enter Tryz.func12, Tryz.ntmps12
  go_wp2
  go_ret
  exact ⟨rfl, hb⟩
 have q5 : (n.length : Int) ≤ 64 := by omega
 rw [decide_eq_true h1, Bool.true_and, decide_eq_true h2, Bool.true_and, decide_eq_true h3, Bool.true_and, decide_eq_true h4, Bool.true_and, decide_eq_true h5, Bool.true_and]
 go_enter Tryz.func12, Tryz.ntmps12
 go_wp2_with fail
 refine (valid_c n (by omega) _).mono ?_
 rintro e w1 ⟨rfl, rfl⟩
 go_wp2_with fail
 go_ret
 exact ⟨rfl, hb⟩
theorem rone_c (r : Rw) (hn : (nm r).length ≤ maxLen) (w : World) :
  Calls Tryz.prog 13 #[rv r] w fun e w' => e = .returned (.bool (oneP r)) ∧ Below w.heap.size w w' := by
 obtain ⟨c, p, n, f⟩ := r
 show Calls Tryz.prog 13 #[.agg #[.int .i64 c, .int .i64 p, .string (ba n), .float .f64 f]] w _
 have hs := ba_size n
 have hb := (Below.refl w.heap.size w).alloc (Nat.le_refl _) (.cells #[.int .i64 c, .int .i64 p, .string (ba n), .float .f64 f] 28)
 unfold maxLen at hn
 change n.length ≤ _ at hn
 show Calls _ _ _ _ fun e w' => e = .returned (.bool (decide (1 ≤ c) && (decide (c ≤ 2147483647) && (decide (0 ≤ p) && (decide (p ≤ 2147483647) && (decide (n.length ≤ 64) && valid n)))))) ∧ _
 by_cases h1 : 1 ≤ c
 case neg =>
  have g1 : c < 1 := by omega
  have g1b : ¬ 0 < c := by omega
  rw [decide_eq_false h1, Bool.false_and]
  go_enter Tryz.func13, Tryz.ntmps13
  go_wp2
  go_ret
  exact ⟨rfl, hb⟩
 have q1 : 0 < c := by omega
 by_cases h2 : c ≤ 2147483647
 case neg =>
  have g2 : 2147483647 < c := by omega
  rw [decide_eq_true h1, Bool.true_and, decide_eq_false h2, Bool.false_and]
  go_enter Tryz.func13, Tryz.ntmps13
  go_wp2
  go_ret
  exact ⟨rfl, hb⟩
 by_cases h3 : 0 ≤ p
 case neg =>
  have g3 : p < 0 := by omega
  rw [decide_eq_true h1, Bool.true_and, decide_eq_true h2, Bool.true_and, decide_eq_false h3, Bool.false_and]
  go_enter Tryz.func13, Tryz.ntmps13
  go_wp2
  go_ret
  exact ⟨rfl, hb⟩
 by_cases h4 : p ≤ 2147483647
 case neg =>
  have g4 : 2147483647 < p := by omega
  rw [decide_eq_true h1, Bool.true_and, decide_eq_true h2, Bool.true_and, decide_eq_true h3, Bool.true_and, decide_eq_false h4, Bool.false_and]
  go_enter Tryz.func13, Tryz.ntmps13
  go_wp2
  go_ret
  exact ⟨rfl, hb⟩
 by_cases h5 : n.length ≤ 64
 case neg =>
  have g5 : (64 : Int) < (n.length : Int) := by omega
  have g5b : ¬ (n.length : Int) ≤ 64 := by omega
  rw [decide_eq_true h1, Bool.true_and, decide_eq_true h2, Bool.true_and, decide_eq_true h3, Bool.true_and, decide_eq_true h4, Bool.true_and, decide_eq_false h5, Bool.false_and]
  go_enter Tryz.func13, Tryz.ntmps13
  go_wp2
  go_ret
  exact ⟨rfl, hb⟩
 have q5 : (n.length : Int) ≤ 64 := by omega
 rw [decide_eq_true h1, Bool.true_and, decide_eq_true h2, Bool.true_and, decide_eq_true h3, Bool.true_and, decide_eq_true h4, Bool.true_and, decide_eq_true h5, Bool.true_and]
 go_enter Tryz.func13, Tryz.ntmps13
 go_wp2_with fail
 refine (rValid_c n (by omega) _).mono ?_
 rintro e w1 ⟨rfl, rfl⟩
 go_wp2_with fail
 go_ret
 exact ⟨rfl, hb⟩
set_option maxHeartbeats 1000000 in
theorem sameF_c (a b : Rw) (ha : rk a < 18446744073709551616) (hb : rk b < 18446744073709551616) (w : World) :
  Calls Tryz.prog 43 #[rv a, rv b] w fun e w' => e = .returned (.bool (alikeP a b)) ∧ Below w.heap.size w w' := by
 obtain ⟨c1, p1, n1, f1⟩ := a
 obtain ⟨c2, p2, n2, f2⟩ := b
 show Calls Tryz.prog 43 #[.agg #[.int .i64 c1, .int .i64 p1, .string (ba n1), .float .f64 f1], .agg #[.int .i64 c2, .int .i64 p2, .string (ba n2), .float .f64 f2]] w _
 have hbw := ((Below.refl w.heap.size w).alloc (Nat.le_refl _) (.cells #[.int .i64 c1, .int .i64 p1, .string (ba n1), .float .f64 f1] 28)).alloc (by simp) (.cells #[.int .i64 c2, .int .i64 p2, .string (ba n2), .float .f64 f2] 28)
 show Calls _ _ _ _ fun e w' => e = .returned (.bool (decide (c1 = c2) && (decide (p1 = p2) && (decide (n1 = n2) && ((cb f1 : Int) == (cb f2 : Int)))))) ∧ _
 change f1 < _ at ha
 change f2 < _ at hb
 have hst := ba_beq n1 n2
 by_cases h1 : c1 = c2
 case neg =>
  have g : (c1 == c2) = false := by simpa using h1
  rw [decide_eq_false h1, Bool.false_and]
  clear hst
  go_enter Tryz.func43, Tryz.ntmps43
  go_wp2
  go_ret
  exact ⟨rfl, hbw⟩
 by_cases h2 : p1 = p2
 case neg =>
  have g1 : (c1 == c2) = true := by simpa using h1
  have g : (p1 == p2) = false := by simpa using h2
  rw [decide_eq_true h1, Bool.true_and, decide_eq_false h2, Bool.false_and]
  clear hst h1
  go_enter Tryz.func43, Tryz.ntmps43
  go_wp2
  go_ret
  exact ⟨rfl, hbw⟩
 by_cases h3 : n1 = n2
 case neg =>
  have g1 : (c1 == c2) = true := by simpa using h1
  have g2 : (p1 == p2) = true := by simpa using h2
  rw [decide_eq_false h3] at hst
  rw [decide_eq_true h1, Bool.true_and, decide_eq_true h2, Bool.true_and, decide_eq_false h3, Bool.false_and]
  clear h1 h2
  go_enter Tryz.func43, Tryz.ntmps43
  go_wp2
  go_ret
  exact ⟨rfl, hbw⟩
 have g1 : (c1 == c2) = true := by simpa using h1
 have g2 : (p1 == p2) = true := by simpa using h2
 rw [decide_eq_true h3] at hst
 rw [decide_eq_true h1, Bool.true_and, decide_eq_true h2, Bool.true_and, decide_eq_true h3, Bool.true_and]
 clear h1 h2 h3
 go_enter Tryz.func43, Tryz.ntmps43
 go_wp2_with fail
 refine (same_c f1 f2 ha hb _).mono ?_
 rintro e w1 ⟨rfl, hb1⟩
 go_wp2_with fail
 go_ret
 exact ⟨rfl, hbw.trans (hb1.mono hbw.size)⟩
set_option maxHeartbeats 1000000 in
theorem alike_c (a b : Rw) (ha : rk a < 18446744073709551616) (hb : rk b < 18446744073709551616) (w : World) :
  Calls Tryz.prog 20 #[rv a, rv b] w fun e w' => e = .returned (.bool (alikeP a b)) ∧ Below w.heap.size w w' := by
 obtain ⟨c1, p1, n1, f1⟩ := a
 obtain ⟨c2, p2, n2, f2⟩ := b
 show Calls Tryz.prog 20 #[.agg #[.int .i64 c1, .int .i64 p1, .string (ba n1), .float .f64 f1], .agg #[.int .i64 c2, .int .i64 p2, .string (ba n2), .float .f64 f2]] w _
 have hbw := ((Below.refl w.heap.size w).alloc (Nat.le_refl _) (.cells #[.int .i64 c1, .int .i64 p1, .string (ba n1), .float .f64 f1] 28)).alloc (by simp) (.cells #[.int .i64 c2, .int .i64 p2, .string (ba n2), .float .f64 f2] 28)
 show Calls _ _ _ _ fun e w' => e = .returned (.bool (decide (c1 = c2) && (decide (p1 = p2) && (decide (n1 = n2) && ((cb f1 : Int) == (cb f2 : Int)))))) ∧ _
 change f1 < _ at ha
 change f2 < _ at hb
 have hst := ba_beq n1 n2
 by_cases h1 : c1 = c2
 case neg =>
  have g : (c1 == c2) = false := by simpa using h1
  rw [decide_eq_false h1, Bool.false_and]
  clear hst
  go_enter Tryz.func20, Tryz.ntmps20
  go_wp2
  go_ret
  exact ⟨rfl, hbw⟩
 by_cases h2 : p1 = p2
 case neg =>
  have g1 : (c1 == c2) = true := by simpa using h1
  have g : (p1 == p2) = false := by simpa using h2
  rw [decide_eq_true h1, Bool.true_and, decide_eq_false h2, Bool.false_and]
  clear hst h1
  go_enter Tryz.func20, Tryz.ntmps20
  go_wp2
  go_ret
  exact ⟨rfl, hbw⟩
 by_cases h3 : n1 = n2
 case neg =>
  have g1 : (c1 == c2) = true := by simpa using h1
  have g2 : (p1 == p2) = true := by simpa using h2
  rw [decide_eq_false h3] at hst
  rw [decide_eq_true h1, Bool.true_and, decide_eq_true h2, Bool.true_and, decide_eq_false h3, Bool.false_and]
  clear h1 h2
  go_enter Tryz.func20, Tryz.ntmps20
  go_wp2
  go_ret
  exact ⟨rfl, hbw⟩
 have g1 : (c1 == c2) = true := by simpa using h1
 have g2 : (p1 == p2) = true := by simpa using h2
 rw [decide_eq_true h3] at hst
 rw [decide_eq_true h1, Bool.true_and, decide_eq_true h2, Bool.true_and, decide_eq_true h3, Bool.true_and]
 clear h1 h2 h3
 go_enter Tryz.func20, Tryz.ntmps20
 go_wp2_with fail
 refine (rSame_c f1 f2 ha hb _).mono ?_
 rintro e w1 ⟨rfl, rfl⟩
 go_wp2_with fail
 go_ret
 exact ⟨rfl, hbw⟩
end Go.Proofs.YtkobmnbjeppnaaaGreat
