/-
 Contract of the document's answer for layer 1: Float in all; contracts at whatever integer; and 'live' of layer 1's statements.
 Contracts of cmp.Compare of ints, and of the closures of package rank.
 Contract of package rank's first, at the two pairs of ways that are handed to it.
 Contracts of package rank's Before and Less, and of the document's.
 Contracts of the document's Before and Less; and 'live' of layer 2's statements.
 Rows as cells; the place of the first row that fits (slices.IndexFunc, slices.ContainsFunc).
 The first row of a child: its place, and itself, by the program and by the document.
 Whether a row may be, and whether two are alike; lists of rows held against each other; few rows.
-/
import Derived.Test.YtojhenpaeedimaaNk
import Derived.Test.YtojhenpaeedimaaFf
import Derived.LoopN
import Derived.Handy
import Derived.Test.YtojhenpaeedimaaCue
import Derived.Deep.LoopGhost
import Derived.WalkMore
import Derived.Shelf.Abstract
import Derived.Test.YtojhenpaeedimaaEe
import Derived.Deep.RegionHeld3
section
namespace Go.Proofs.Ytojhenpaeedimaa
open Go.RowKit
open Fl
set_option maxRecDepth 100000
/-- what the document's Float gives for u -/
def RF (u y : Nat) : Prop := y < 18446744073709551616 ∧ (nn u = false → y = u) ∧ (nn u = true → nn y = true)
theorem rFloat_c (u : Nat) (hu : u < 18446744073709551616) (w : World) :
  Calls Try.prog 38 #[.int .u64 (u : Int)] w fun e w' => ∃ y, e = .returned (.float .f64 y) ∧ RF u y ∧ Below w.heap.size w w' := by
 by_cases h1 : u / 4503599627370496 % 2048 = 2047
 ·by_cases h2 : u % 4503599627370496 = 0
  ·refine (rFloat_inf u hu (by omega) (by omega) w).mono ?_
   rintro e w' ⟨rfl, rfl⟩
   refine ⟨u, rfl, ⟨hu, fun _ => rfl, fun h => ?_⟩, Below.refl _ _⟩
   unfold nn at h
   have := of_decide_eq_true h
   omega
  ·refine (rFloat_nan u (u % 4503599627370496) (by omega) (by omega) (by omega) w).mono ?_
   rintro e w' ⟨rfl, rfl⟩
   have hn := nanW_nn 0 0 w
   refine ⟨_, rfl, ⟨hn.2, fun h => ?_, fun _ => hn.1⟩, (Below.refl _ _).drew⟩
   unfold nn at h
   have := of_decide_eq_false h
   omega
 ·have hn : nn u = false := by unfold nn; exact decide_eq_false (by omega)
  by_cases h0 : u / 4503599627370496 % 2048 = 0
  ·refine (rFloat_tiny u (u % 4503599627370496) hu (by omega) (by omega) (by omega) w).mono ?_
   rintro e w' ⟨rfl, rfl⟩
   exact ⟨u, rfl, ⟨hu, fun _ => rfl, fun h => absurd (h.symm.trans hn) (by simp)⟩, Below.refl _ _⟩
  ·refine (rFloat_plain u (u / 4503599627370496 % 2048) (u % 4503599627370496) hu (by omega) (by omega) (by omega) (by omega) (by omega) w).mono ?_
   rintro e w' ⟨rfl, rfl⟩
   exact ⟨u, rfl, ⟨hu, fun _ => rfl, fun h => absurd (h.symm.trans hn) (by simp)⟩, Below.refl _ _⟩
end Go.Proofs.Ytojhenpaeedimaa
end
section
namespace Go.Proofs.Ytojhenpaeedimaa
open Go.RowKit
open Fl
set_option maxRecDepth 100000
/-- how two ints stand -/
def ci (x y : Int) : Int := if x < y then -1 else if y < x then 1 else 0
theorem cmpInt_c (x y : Int) (w : World) :
  Calls Try.prog 78 #[.int .i64 x, .int .i64 y] w fun e w' => e = .returned (.int .i64 (ci x y)) ∧ w = w' := by
 rcases Int.lt_trichotomy x y with h | h | h
 ·have hc : ci x y = -1 := by unfold ci; rw [if_pos h]
  rw [hc]
  go_enter Try.func78, Try.ntmps78
  go_wp2
  go_ret
  exact ⟨rfl, rfl⟩
 ·subst h
  have hc : ci x x = 0 := by unfold ci; rw [if_neg (by omega), if_neg (by omega)]
  rw [hc]
  go_enter Try.func78, Try.ntmps78
  go_wp2
  go_ret
  exact ⟨rfl, rfl⟩
 ·have hc : ci x y = 1 := by unfold ci; rw [if_neg (by omega), if_pos h]
  rw [hc]
  go_enter Try.func78, Try.ntmps78
  go_wp2
  go_ret
  exact ⟨rfl, rfl⟩
end Go.Proofs.Ytojhenpaeedimaa
end
section
namespace Go.Proofs.Ytojhenpaeedimaa
open Go.RowKit
open Fl
set_option maxRecDepth 100000
/-- what 'first' tells of two ways, by what these tell -/
def fr (v1 v2 : Int) : Int := if v1 = 0 then v2 else v1
end Go.Proofs.Ytojhenpaeedimaa
end
section
namespace Go.Proofs.Ytojhenpaeedimaa
open Go.RowKit
open Fl
set_option maxRecDepth 100000
/-- three blocks, laid one behind the other -/
def three (w : World) (A B C : Array Value) (T T2 : TypeId) : World := ((w.alloc (.cells A T)).alloc (.cells B T)).alloc (.cells C T2)
theorem three_facts (w : World) (A B C : Array Value) (T T2 : TypeId) :
  (∀ j, (three w A B C T T2).cell? ⟨w.heap.size, j, none⟩ = A[j]?) ∧ (∀ j, (three w A B C T T2).cell? ⟨w.heap.size + 1, j, none⟩ = B[j]?) ∧ (∀ j, (three w A B C T T2).cell? ⟨w.heap.size + 1 + 1, j, none⟩ = C[j]?) ∧
  w.heap.size + 1 + 1 < (three w A B C T T2).heap.size ∧ Below w.heap.size w (three w A B C T T2) := by
 have s1 : (w.alloc (.cells A T)).heap.size = w.heap.size + 1 := by simp
 have s2 : ((w.alloc (.cells A T)).alloc (.cells B T)).heap.size = w.heap.size + 1 + 1 := by simp
 have s3 : (three w A B C T T2).heap.size = w.heap.size + 1 + 1 + 1 := by simp [three]
 refine ⟨fun j => ?_, fun j => ?_, fun j => ?_, by omega, ?_⟩
 ·unfold three
  rw [World.cell?_alloc_past _ _ _ (by omega), World.cell?_alloc_past _ _ _ (by omega), World.cell?_alloc_at _ _ _ _ rfl]
 ·unfold three
  rw [World.cell?_alloc_past _ _ _ (by omega), World.cell?_alloc_at _ _ _ _ s1.symm]
 ·unfold three
  rw [World.cell?_alloc_at _ _ _ _ s2.symm]
 ·exact (((Below.refl _ _).alloc (Nat.le_refl _) _).alloc (by omega) _).alloc (by omega) _
end Go.Proofs.Ytojhenpaeedimaa
end
section
namespace Go.Proofs.Ytojhenpaeedimaa
open Go.RowKit
open Fl
set_option maxRecDepth 100000
theorem ci_lt {x y : Int} (h : x < y) : ci x y = -1 := by unfold ci; rw [if_pos h]
theorem ci_eq (x : Int) : ci x x = 0 := by unfold ci; rw [if_neg (by omega), if_neg (by omega)]
theorem ci_gt {x y : Int} (h : y < x) : ci x y = 1 := by unfold ci; rw [if_neg (by omega), if_pos h]
theorem ci_neg (x y : Int) : decide (ci x y < 0) = decide (x < y) := by
 rcases Int.lt_trichotomy x y with h | h | h
 ·rw [ci_lt h]; exact decide_eq_decide.2 (by omega)
 ·subst h; rw [ci_eq]; exact decide_eq_decide.2 (by omega)
 ·rw [ci_gt h]; exact decide_eq_decide.2 (by omega)
theorem fr_zero (v : Int) : fr 0 v = v := by simp [fr]
end Go.Proofs.Ytojhenpaeedimaa
end
section
namespace Go.Proofs.Ytojhenpaeedimaa
open Go.RowKit Go.IntWalk
set_option maxRecDepth 100000
attribute [local go_sem] Oper.semAt_some
/-- a row: its child, its parent, its name, its rank -/
abbrev Rw := Int × Int × List UInt8 × Nat
abbrev ch (r : Rw) : Int := r.1
abbrev pa (r : Rw) : Int := r.2.1
abbrev nm (r : Rw) : List UInt8 := r.2.2.1
abbrev rk (r : Rw) : Nat := r.2.2.2
def rv (r : Rw) : Value := .agg #[.int .i64 (ch r), .int .i64 (pa r), .string (ba (nm r)), .float .f64 (rk r)]
theorem Try.info93 : (Try.prog.info? 93).map (fun i => (i.zero, i.size, i.bytes)) = some (some (.agg #[.int .i64 0, .int .i64 0, .string ByteArray.empty, .float .f64 0]), 4, 40) := by kernel_rfl
end Go.Proofs.Ytojhenpaeedimaa
end
section
namespace Go.Proofs.Ytojhenpaeedimaa
open Go.RowKit Go.IntWalk
set_option maxRecDepth 100000
attribute [local go_sem] Oper.semAt_some
end Go.Proofs.Ytojhenpaeedimaa
end
section
namespace Go.Proofs.Ytojhenpaeedimaa
open Go.RowKit Go.IntWalk
open Wd Fl
set_option maxRecDepth 100000
attribute [local go_sem] Oper.semAt_some
theorem ba_beq (a b : List UInt8) : ((ba a).toList == (ba b).toList) = decide (a = b) := by
 rw [ByteArray.toList_eq, ByteArray.toList_eq, ba_list, ba_list]
 by_cases h : a = b <;> simp [h]
def oneP (r : Rw) : Bool := decide (1 ≤ ch r) && (decide (ch r ≤ 2147483647) && (decide (0 ≤ pa r) && (decide (pa r ≤ 2147483647) && (decide ((nm r).length ≤ 64) && valid (nm r)))))
def alikeP (a b : Rw) : Bool := decide (ch a = ch b) && (decide (pa a = pa b) && (decide (nm a = nm b) && ((cb (rk a) : Int) == (cb (rk b) : Int))))
theorem one_c (r : Rw) (hn : (nm r).length ≤ maxLen) (w : World) :
  Calls Try.prog 74 #[rv r] w fun e w' => e = .returned (.bool (oneP r)) ∧ Below w.heap.size w w' := by
 obtain ⟨c, p, n, f⟩ := r
 show Calls Try.prog 74 #[.agg #[.int .i64 c, .int .i64 p, .string (ba n), .float .f64 f]] w _
 have hs := ba_size n
 have hb := (Below.refl w.heap.size w).alloc (Nat.le_refl _) (.cells #[.int .i64 c, .int .i64 p, .string (ba n), .float .f64 f] 93)
 unfold maxLen at hn
 change n.length ≤ _ at hn
 show Calls _ _ _ _ fun e w' => e = .returned (.bool (decide (1 ≤ c) && (decide (c ≤ 2147483647) && (decide (0 ≤ p) && (decide (p ≤ 2147483647) && (decide (n.length ≤ 64) && valid n)))))) ∧ _
 by_cases h1 : 1 ≤ c
 case neg =>
  have g1 : c < 1 := by omega
  have g1b : ¬ 0 < c := by omega
  rw [decide_eq_false h1, Bool.false_and]
  go_enter Try.func74, Try.ntmps74
  go_wp2
  go_ret
  exact ⟨rfl, hb⟩
 have q1 : 0 < c := by omega
 by_cases h2 : c ≤ 2147483647
 case neg =>
  have g2 : 2147483647 < c := by omega
  rw [decide_eq_true h1, Bool.true_and, decide_eq_false h2, Bool.false_and]
  go_enter Try.func74, Try.ntmps74
  go_wp2
  go_ret
  exact ⟨rfl, hb⟩
 by_cases h3 : 0 ≤ p
 case neg =>
  have g3 : p < 0 := by omega
  rw [decide_eq_true h1, Bool.true_and, decide_eq_true h2, Bool.true_and, decide_eq_false h3, Bool.false_and]
  go_enter Try.func74, Try.ntmps74
  go_wp2
  go_ret
  exact ⟨rfl, hb⟩
 by_cases h4 : p ≤ 2147483647
 case neg =>
  have g4 : 2147483647 < p := by omega
  rw [decide_eq_true h1, Bool.true_and, decide_eq_true h2, Bool.true_and, decide_eq_true h3, Bool.true_and, decide_eq_false h4, Bool.false_and]
  go_enter Try.func74, Try.ntmps74
  go_wp2
  go_ret
  exact ⟨rfl, hb⟩
 by_cases h5 : n.length ≤ 64
 case neg =>
  have g5 : (64 : Int) < (n.length : Int) := by omega
  have g5b : ¬ (n.length : Int) ≤ 64 := by omega
  rw [decide_eq_true h1, Bool.true_and, decide_eq_true h2, Bool.true_and, decide_eq_true h3, Bool.true_and, decide_eq_true h4, Bool.true_and, decide_eq_false h5, Bool.false_and]
  go_enter Try.func74, Try.ntmps74
  go_wp2
  go_ret
  exact ⟨rfl, hb⟩
 have q5 : (n.length : Int) ≤ 64 := by omega
 rw [decide_eq_true h1, Bool.true_and, decide_eq_true h2, Bool.true_and, decide_eq_true h3, Bool.true_and, decide_eq_true h4, Bool.true_and, decide_eq_true h5, Bool.true_and]
 go_enter Try.func74, Try.ntmps74
 go_wp2_with fail
 refine (valid_c n (by omega) _).mono ?_
 rintro e w1 ⟨rfl, rfl⟩
 go_wp2_with fail
 go_ret
 exact ⟨rfl, hb⟩
theorem rone_c (r : Rw) (hn : (nm r).length ≤ maxLen) (w : World) :
  Calls Try.prog 63 #[rv r] w fun e w' => e = .returned (.bool (oneP r)) ∧ Below w.heap.size w w' := by
 obtain ⟨c, p, n, f⟩ := r
 show Calls Try.prog 63 #[.agg #[.int .i64 c, .int .i64 p, .string (ba n), .float .f64 f]] w _
 have hs := ba_size n
 have hb := (Below.refl w.heap.size w).alloc (Nat.le_refl _) (.cells #[.int .i64 c, .int .i64 p, .string (ba n), .float .f64 f] 93)
 unfold maxLen at hn
 change n.length ≤ _ at hn
 show Calls _ _ _ _ fun e w' => e = .returned (.bool (decide (1 ≤ c) && (decide (c ≤ 2147483647) && (decide (0 ≤ p) && (decide (p ≤ 2147483647) && (decide (n.length ≤ 64) && valid n)))))) ∧ _
 by_cases h1 : 1 ≤ c
 case neg =>
  have g1 : c < 1 := by omega
  have g1b : ¬ 0 < c := by omega
  rw [decide_eq_false h1, Bool.false_and]
  go_enter Try.func63, Try.ntmps63
  go_wp2
  go_ret
  exact ⟨rfl, hb⟩
 have q1 : 0 < c := by omega
 by_cases h2 : c ≤ 2147483647
 case neg =>
  have g2 : 2147483647 < c := by omega
  rw [decide_eq_true h1, Bool.true_and, decide_eq_false h2, Bool.false_and]
  go_enter Try.func63, Try.ntmps63
  go_wp2
  go_ret
  exact ⟨rfl, hb⟩
 by_cases h3 : 0 ≤ p
 case neg =>
  have g3 : p < 0 := by omega
  rw [decide_eq_true h1, Bool.true_and, decide_eq_true h2, Bool.true_and, decide_eq_false h3, Bool.false_and]
  go_enter Try.func63, Try.ntmps63
  go_wp2
  go_ret
  exact ⟨rfl, hb⟩
 by_cases h4 : p ≤ 2147483647
 case neg =>
  have g4 : 2147483647 < p := by omega
  rw [decide_eq_true h1, Bool.true_and, decide_eq_true h2, Bool.true_and, decide_eq_true h3, Bool.true_and, decide_eq_false h4, Bool.false_and]
  go_enter Try.func63, Try.ntmps63
  go_wp2
  go_ret
  exact ⟨rfl, hb⟩
 by_cases h5 : n.length ≤ 64
 case neg =>
  have g5 : (64 : Int) < (n.length : Int) := by omega
  have g5b : ¬ (n.length : Int) ≤ 64 := by omega
  rw [decide_eq_true h1, Bool.true_and, decide_eq_true h2, Bool.true_and, decide_eq_true h3, Bool.true_and, decide_eq_true h4, Bool.true_and, decide_eq_false h5, Bool.false_and]
  go_enter Try.func63, Try.ntmps63
  go_wp2
  go_ret
  exact ⟨rfl, hb⟩
 have q5 : (n.length : Int) ≤ 64 := by omega
 rw [decide_eq_true h1, Bool.true_and, decide_eq_true h2, Bool.true_and, decide_eq_true h3, Bool.true_and, decide_eq_true h4, Bool.true_and, decide_eq_true h5, Bool.true_and]
 go_enter Try.func63, Try.ntmps63
 go_wp2_with fail
 refine (rValid_c n (by omega) _).mono ?_
 rintro e w1 ⟨rfl, rfl⟩
 go_wp2_with fail
 go_ret
 exact ⟨rfl, hb⟩
set_option maxHeartbeats 1000000 in
theorem alike_c (a b : Rw) (ha : rk a < 18446744073709551616) (hb : rk b < 18446744073709551616) (w : World) :
  Calls Try.prog 65 #[rv a, rv b] w fun e w' => e = .returned (.bool (alikeP a b)) ∧ Below w.heap.size w w' := by
 obtain ⟨c1, p1, n1, f1⟩ := a
 obtain ⟨c2, p2, n2, f2⟩ := b
 show Calls Try.prog 65 #[.agg #[.int .i64 c1, .int .i64 p1, .string (ba n1), .float .f64 f1], .agg #[.int .i64 c2, .int .i64 p2, .string (ba n2), .float .f64 f2]] w _
 have hbw := ((Below.refl w.heap.size w).alloc (Nat.le_refl _) (.cells #[.int .i64 c1, .int .i64 p1, .string (ba n1), .float .f64 f1] 93)).alloc (by simp) (.cells #[.int .i64 c2, .int .i64 p2, .string (ba n2), .float .f64 f2] 93)
 show Calls _ _ _ _ fun e w' => e = .returned (.bool (decide (c1 = c2) && (decide (p1 = p2) && (decide (n1 = n2) && ((cb f1 : Int) == (cb f2 : Int)))))) ∧ _
 change f1 < _ at ha
 change f2 < _ at hb
 have hst := ba_beq n1 n2
 by_cases h1 : c1 = c2
 case neg =>
  have g : (c1 == c2) = false := by simpa using h1
  rw [decide_eq_false h1, Bool.false_and]
  clear hst
  go_enter Try.func65, Try.ntmps65
  go_wp2
  go_ret
  exact ⟨rfl, hbw⟩
 by_cases h2 : p1 = p2
 case neg =>
  have g1 : (c1 == c2) = true := by simpa using h1
  have g : (p1 == p2) = false := by simpa using h2
  rw [decide_eq_true h1, Bool.true_and, decide_eq_false h2, Bool.false_and]
  clear hst h1
  go_enter Try.func65, Try.ntmps65
  go_wp2
  go_ret
  exact ⟨rfl, hbw⟩
 by_cases h3 : n1 = n2
 case neg =>
  have g1 : (c1 == c2) = true := by simpa using h1
  have g2 : (p1 == p2) = true := by simpa using h2
  rw [decide_eq_false h3] at hst
  rw [decide_eq_true h1, Bool.true_and, decide_eq_true h2, Bool.true_and, decide_eq_false h3, Bool.false_and]
  clear h1 h2
  go_enter Try.func65, Try.ntmps65
  go_wp2
  go_ret
  exact ⟨rfl, hbw⟩
 have g1 : (c1 == c2) = true := by simpa using h1
 have g2 : (p1 == p2) = true := by simpa using h2
 rw [decide_eq_true h3] at hst
 rw [decide_eq_true h1, Bool.true_and, decide_eq_true h2, Bool.true_and, decide_eq_true h3, Bool.true_and]
 clear h1 h2 h3
 go_enter Try.func65, Try.ntmps65
 go_wp2_with fail
 refine (rSame_c f1 f2 ha hb _).mono ?_
 rintro e w1 ⟨rfl, rfl⟩
 go_wp2_with fail
 go_ret
 exact ⟨rfl, hbw⟩
end Go.Proofs.Ytojhenpaeedimaa
end
