/-
 Contracts of the document's answer for layer 1: Bits in all, Canon, Kind, Same, and Float.
 Contract of the document's answer for layer 1: Float, and what an operation that has no answer gives.
 Contracts of cmp.Compare of ints, and of the closures of package rank.
 Contract of package rank's first, at the two pairs of ways that are handed to it.
 Contracts of package rank's Before and Less, and of the document's.
 Contracts of the document's Before and Less; and 'live' of layer 2's statements.
 Rows as cells; the place of the first row that fits (slices.IndexFunc, slices.ContainsFunc).
 The first row of a child: its place, and itself, by the program and by the document.
 Whether a row may be, and whether two are alike; lists of rows held against each other; few rows.
 Lists of rows held against each other; few rows.
 slices.Grow, slices.Clone, slices.Concat at rows.
 A row that is dropped, and one that is set: the program's.
 A row that is set: the program's.
 A row that is dropped: the document's.
 A row that is set: the document's.
 Who is above whom: the document's.
 What may be a tree: the document's.
 Rows of whole numbers; a node's way up: the document's.
-/
import Derived.Test.YtojhenpaeedimaaGreatNi
import Derived.Test.YtojhenpaeedimaaGreatNb
import Derived.LoopN
import Derived.Handy
import Derived.Test.YtojhenpaeedimaaGreatMg
import Derived.Deep.LoopGhost
import Derived.WalkMore
import Derived.Shelf.Abstract
import Derived.Test.YtojhenpaeedimaaGreatEd
import Derived.Deep.RegionHeld3
import Derived.Lib.AppendZeros
import Derived.Lib.SliceRun
import Derived.Laws.AppendOwnNone
import Derived.Deep.QuietTactic
import Derived.BigQuiet
section
namespace Go.Proofs.YtojhenpaeedimaaGreat
open Go.RowKit
open Fl
set_option maxRecDepth 100000
theorem rBits_c (x : Nat) (hx : x < 18446744073709551616) (w : World) :
  Calls Tryz.prog 65 #[.float .f64 x] w fun e w' => e = .returned (.int .u64 (cb x : Int)) ∧ w = w' := by
 rcases kd_of x with ⟨hn, _, hc⟩ | ⟨hn, hc, hle, hkk⟩
 ·rw [hc]
  exact rBits_nan x hx hn w
 ·rw [hc]
  rcases hkk with ⟨_, h3⟩ | ⟨_, h3⟩ | ⟨_, h3⟩ | ⟨_, h3, h4⟩
  ·exact rBits_inf x hx hn h3 w
  ·exact rBits_zero x hx hn h3 w
  ·rcases Nat.eq_zero_or_pos (mg x) with h0 | h0
   ·exact rBits_zero x hx hn h0 w
   ·exact rBits_tiny x (mg x) hx hn h0 h3 rfl w
  ·have hq : mg x = nw (mg x / 4503599627370496) (mg x % 4503599627370496) := by unfold nw; omega
   rcases Nat.lt_or_ge (mg x / 4503599627370496) 1023 with h5 | h5
   ·exact rBits_low x _ _ hx hn (by omega) h5 (by omega) hq w
   ·exact rBits_big x _ _ hx hn h5 (by omega) (by omega) hq w
theorem rSame_c (x y : Nat) (hx : x < 18446744073709551616) (hy : y < 18446744073709551616) (w : World) :
  Calls Tryz.prog 83 #[.float .f64 x, .float .f64 y] w fun e w' => e = .returned (.bool ((cb x : Int) == (cb y : Int))) ∧ w = w' := by
 go_enter Tryz.func83, Tryz.ntmps83
 go_wp2_with fail
 refine (rBits_c x hx _).mono ?_
 rintro e w1 ⟨rfl, rfl⟩
 go_wp2_with fail
 refine (rBits_c y hy _).mono ?_
 rintro e w2 ⟨rfl, rfl⟩
 go_wp2
 go_ret
 exact ⟨rfl, rfl⟩
end Go.Proofs.YtojhenpaeedimaaGreat
end
section
namespace Go.Proofs.YtojhenpaeedimaaGreat
open Go.RowKit
open Fl
set_option maxRecDepth 100000
/-- the bits of no number that the run gives where an operation has no answer -/
def nanW (x y : Nat) (w : World) : Nat := (Question.nanBits .f64 x y).cut (w.tape w.drawn (Question.nanBits .f64 x y))
theorem nanW_nn (x y : Nat) (w : World) : nn (nanW x y w) = true ∧ nanW x y w < 18446744073709551616 := by
 unfold nanW
 generalize w.tape w.drawn (Question.nanBits .f64 x y) = t
 have h : (Question.nanBits .f64 x y).cut t = (t % 2) * 2 ^ 63 + 0x7ff0000000000000 + 1 + (t / 2) % (2 ^ 52 - 1) := rfl
 rw [h, p63]
 have h2 : (2 : Nat) ^ 52 - 1 = 4503599627370495 := by decide
 rw [h2]
 unfold nn
 have hr : t / 2 % 4503599627370495 < 4503599627370495 := Nat.mod_lt _ (by omega)
 generalize t / 2 % 4503599627370495 = r at *
 rcases Nat.mod_two_eq_zero_or_one t with h0 | h0
 ·rw [h0]
  exact ⟨decide_eq_true (by omega), by omega⟩
 ·rw [h0]
  exact ⟨decide_eq_true (by omega), by omega⟩
theorem run_float_none (P : Program) (w : World) (op : BinOp) (t : TypeId) (x y : Nat) (ho : op = .quo ∨ op = .mul ∨ op = .add ∨ op = .sub) (h : floatBits op .f64 x y = none) :
  (binOp op t (.float .f64 x) (.float .f64 y)).run P w = .ok (.float .f64 (nanW x y w)) w.drew := by
 rcases ho with rfl | rfl | rfl | rfl
 all_goals
  have h' := h
  simp only [floatBits] at h'
  simp only [binOp, Op.floatArith]
  rw [h']
  rfl
end Go.Proofs.YtojhenpaeedimaaGreat
end
section
namespace Go.Proofs.YtojhenpaeedimaaGreat
open Go.RowKit
open Fl
set_option maxRecDepth 100000
/-- how two ints stand -/
def ci (x y : Int) : Int := if x < y then -1 else if y < x then 1 else 0
theorem cmpInt_c (x y : Int) (w : World) :
  Calls Tryz.prog 159 #[.int .i64 x, .int .i64 y] w fun e w' => e = .returned (.int .i64 (ci x y)) ∧ w = w' := by
 rcases Int.lt_trichotomy x y with h | h | h
 ·have hc : ci x y = -1 := by unfold ci; rw [if_pos h]
  rw [hc]
  go_enter Tryz.func159, Tryz.ntmps159
  go_wp2
  go_ret
  exact ⟨rfl, rfl⟩
 ·subst h
  have hc : ci x x = 0 := by unfold ci; rw [if_neg (by omega), if_neg (by omega)]
  rw [hc]
  go_enter Tryz.func159, Tryz.ntmps159
  go_wp2
  go_ret
  exact ⟨rfl, rfl⟩
 ·have hc : ci x y = 1 := by unfold ci; rw [if_neg (by omega), if_pos h]
  rw [hc]
  go_enter Tryz.func159, Tryz.ntmps159
  go_wp2
  go_ret
  exact ⟨rfl, rfl⟩
end Go.Proofs.YtojhenpaeedimaaGreat
end
section
namespace Go.Proofs.YtojhenpaeedimaaGreat
open Go.RowKit
open Fl
set_option maxRecDepth 100000
/-- what 'first' tells of two ways, by what these tell -/
def fr (v1 v2 : Int) : Int := if v1 = 0 then v2 else v1
end Go.Proofs.YtojhenpaeedimaaGreat
end
section
namespace Go.Proofs.YtojhenpaeedimaaGreat
open Go.RowKit
open Fl
set_option maxRecDepth 100000
/-- three blocks, laid one behind the other -/
def three (w : World) (A B C : Array Value) (T T2 : TypeId) : World := ((w.alloc (.cells A T)).alloc (.cells B T)).alloc (.cells C T2)
theorem three_facts (w : World) (A B C : Array Value) (T T2 : TypeId) :
  (∀ j, (three w A B C T T2).cell? ⟨w.heap.size, j, none⟩ = A[j]?) ∧ (∀ j, (three w A B C T T2).cell? ⟨w.heap.size + 1, j, none⟩ = B[j]?) ∧ (∀ j, (three w A B C T T2).cell? ⟨w.heap.size + 1 + 1, j, none⟩ = C[j]?) ∧
  w.heap.size + 1 + 1 < (three w A B C T T2).heap.size ∧ Below w.heap.size w (three w A B C T T2) := by
 have s1 : (w.alloc (.cells A T)).heap.size = w.heap.size + 1 := by simp
 have s2 : ((w.alloc (.cells A T)).alloc (.cells B T)).heap.size = w.heap.size + 1 + 1 := by simp
 have s3 : (three w A B C T T2).heap.size = w.heap.size + 1 + 1 + 1 := by simp [three]
 refine ⟨fun j => ?_, fun j => ?_, fun j => ?_, by omega, ?_⟩
 ·unfold three
  rw [World.cell?_alloc_past _ _ _ (by omega), World.cell?_alloc_past _ _ _ (by omega), World.cell?_alloc_at _ _ _ _ rfl]
 ·unfold three
  rw [World.cell?_alloc_past _ _ _ (by omega), World.cell?_alloc_at _ _ _ _ s1.symm]
 ·unfold three
  rw [World.cell?_alloc_at _ _ _ _ s2.symm]
 ·exact (((Below.refl _ _).alloc (Nat.le_refl _) _).alloc (by omega) _).alloc (by omega) _
end Go.Proofs.YtojhenpaeedimaaGreat
end
section
namespace Go.Proofs.YtojhenpaeedimaaGreat
open Go.RowKit
open Fl
set_option maxRecDepth 100000
theorem ci_lt {x y : Int} (h : x < y) : ci x y = -1 := by unfold ci; rw [if_pos h]
theorem ci_eq (x : Int) : ci x x = 0 := by unfold ci; rw [if_neg (by omega), if_neg (by omega)]
theorem ci_gt {x y : Int} (h : y < x) : ci x y = 1 := by unfold ci; rw [if_neg (by omega), if_pos h]
theorem ci_neg (x y : Int) : decide (ci x y < 0) = decide (x < y) := by
 rcases Int.lt_trichotomy x y with h | h | h
 ·rw [ci_lt h]; exact decide_eq_decide.2 (by omega)
 ·subst h; rw [ci_eq]; exact decide_eq_decide.2 (by omega)
 ·rw [ci_gt h]; exact decide_eq_decide.2 (by omega)
theorem fr_zero (v : Int) : fr 0 v = v := by simp [fr]
end Go.Proofs.YtojhenpaeedimaaGreat
end
section
namespace Go.Proofs.YtojhenpaeedimaaGreat
open Go.RowKit Go.IntWalk
set_option maxRecDepth 100000
attribute [local go_sem] Oper.semAt_some
/-- a row: its child, its parent, its name, its rank -/
abbrev Rw := Int × Int × List UInt8 × Nat
abbrev ch (r : Rw) : Int := r.1
abbrev pa (r : Rw) : Int := r.2.1
abbrev nm (r : Rw) : List UInt8 := r.2.2.1
abbrev rk (r : Rw) : Nat := r.2.2.2
def rv (r : Rw) : Value := .agg #[.int .i64 (ch r), .int .i64 (pa r), .string (ba (nm r)), .float .f64 (rk r)]
theorem Tryz.info157 : (Tryz.prog.info? 157).map (fun i => (i.zero, i.size, i.bytes)) = some (some (.agg #[.int .i64 0, .int .i64 0, .string ByteArray.empty, .float .f64 0]), 4, 40) := by kernel_rfl
end Go.Proofs.YtojhenpaeedimaaGreat
end
section
namespace Go.Proofs.YtojhenpaeedimaaGreat
open Go.RowKit Go.IntWalk
set_option maxRecDepth 100000
attribute [local go_sem] Oper.semAt_some
end Go.Proofs.YtojhenpaeedimaaGreat
end
section
namespace Go.Proofs.YtojhenpaeedimaaGreat
open Go.RowKit Go.IntWalk
open Wd Fl
set_option maxRecDepth 100000
attribute [local go_sem] Oper.semAt_some
theorem ba_beq (a b : List UInt8) : ((ba a).toList == (ba b).toList) = decide (a = b) := by
 rw [ByteArray.toList_eq, ByteArray.toList_eq, ba_list, ba_list]
 by_cases h : a = b <;> simp [h]
def oneP (r : Rw) : Bool := decide (1 ≤ ch r) && (decide (ch r ≤ 2147483647) && (decide (0 ≤ pa r) && (decide (pa r ≤ 2147483647) && (decide ((nm r).length ≤ 64) && valid (nm r)))))
def alikeP (a b : Rw) : Bool := decide (ch a = ch b) && (decide (pa a = pa b) && (decide (nm a = nm b) && ((cb (rk a) : Int) == (cb (rk b) : Int))))
theorem one_c (r : Rw) (hn : (nm r).length ≤ maxLen) (w : World) :
  Calls Tryz.prog 155 #[rv r] w fun e w' => e = .returned (.bool (oneP r)) ∧ Below w.heap.size w w' := by
 obtain ⟨c, p, n, f⟩ := r
 show Calls Tryz.prog 155 #[.agg #[.int .i64 c, .int .i64 p, .string (ba n), .float .f64 f]] w _
 have hs := ba_size n
 have hb := (Below.refl w.heap.size w).alloc (Nat.le_refl _) (.cells #[.int .i64 c, .int .i64 p, .string (ba n), .float .f64 f] 157)
 unfold maxLen at hn
 change n.length ≤ _ at hn
 show Calls _ _ _ _ fun e w' => e = .returned (.bool (decide (1 ≤ c) && (decide (c ≤ 2147483647) && (decide (0 ≤ p) && (decide (p ≤ 2147483647) && (decide (n.length ≤ 64) && valid n)))))) ∧ _
 by_cases h1 : 1 ≤ c
 case neg =>
  have g1 : c < 1 := by omega
  have g1b : ¬ 0 < c := by omega
  rw [decide_eq_false h1, Bool.false_and]
  go_enter Tryz.func155, Tryz.ntmps155
  go_wp2
  go_ret
  exact ⟨rfl, hb⟩
 have q1 : 0 < c := by omega
 by_cases h2 : c ≤ 2147483647
 case neg =>
  have g2 : 2147483647 < c := by omega
  rw [decide_eq_true h1, Bool.true_and, decide_eq_false h2, Bool.false_and]
  go_enter Tryz.func155, Tryz.ntmps155
  go_wp2
  go_ret
  exact ⟨rfl, hb⟩
 by_cases h3 : 0 ≤ p
 case neg =>
  have g3 : p < 0 := by omega
  rw [decide_eq_true h1, Bool.true_and, decide_eq_true h2, Bool.true_and, decide_eq_false h3, Bool.false_and]
  go_enter Tryz.func155, Tryz.ntmps155
  go_wp2
  go_ret
  exact ⟨rfl, hb⟩
 by_cases h4 : p ≤ 2147483647
 case neg =>
  have g4 : 2147483647 < p := by omega
  rw [decide_eq_true h1, Bool.true_and, decide_eq_true h2, Bool.true_and, decide_eq_true h3, Bool.true_and, decide_eq_false h4, Bool.false_and]
  go_enter Tryz.func155, Tryz.ntmps155
  go_wp2
  go_ret
  exact ⟨rfl, hb⟩
 by_cases h5 : n.length ≤ 64
 case neg =>
  have g5 : (64 : Int) < (n.length : Int) := by omega
  have g5b : ¬ (n.length : Int) ≤ 64 := by omega
  rw [decide_eq_true h1, Bool.true_and, decide_eq_true h2, Bool.true_and, decide_eq_true h3, Bool.true_and, decide_eq_true h4, Bool.true_and, decide_eq_false h5, Bool.false_and]
  go_enter Tryz.func155, Tryz.ntmps155
  go_wp2
  go_ret
  exact ⟨rfl, hb⟩
 have q5 : (n.length : Int) ≤ 64 := by omega
 rw [decide_eq_true h1, Bool.true_and, decide_eq_true h2, Bool.true_and, decide_eq_true h3, Bool.true_and, decide_eq_true h4, Bool.true_and, decide_eq_true h5, Bool.true_and]
 go_enter Tryz.func155, Tryz.ntmps155
 go_wp2_with fail
 refine (valid_c n (by omega) _).mono ?_
 rintro e w1 ⟨rfl, rfl⟩
 go_wp2_with fail
 go_ret
 exact ⟨rfl, hb⟩
theorem rone_c (r : Rw) (hn : (nm r).length ≤ maxLen) (w : World) :
  Calls Tryz.prog 137 #[rv r] w fun e w' => e = .returned (.bool (oneP r)) ∧ Below w.heap.size w w' := by
 obtain ⟨c, p, n, f⟩ := r
 show Calls Tryz.prog 137 #[.agg #[.int .i64 c, .int .i64 p, .string (ba n), .float .f64 f]] w _
 have hs := ba_size n
 have hb := (Below.refl w.heap.size w).alloc (Nat.le_refl _) (.cells #[.int .i64 c, .int .i64 p, .string (ba n), .float .f64 f] 157)
 unfold maxLen at hn
 change n.length ≤ _ at hn
 show Calls _ _ _ _ fun e w' => e = .returned (.bool (decide (1 ≤ c) && (decide (c ≤ 2147483647) && (decide (0 ≤ p) && (decide (p ≤ 2147483647) && (decide (n.length ≤ 64) && valid n)))))) ∧ _
 by_cases h1 : 1 ≤ c
 case neg =>
  have g1 : c < 1 := by omega
  have g1b : ¬ 0 < c := by omega
  rw [decide_eq_false h1, Bool.false_and]
  go_enter Tryz.func137, Tryz.ntmps137
  go_wp2
  go_ret
  exact ⟨rfl, hb⟩
 have q1 : 0 < c := by omega
 by_cases h2 : c ≤ 2147483647
 case neg =>
  have g2 : 2147483647 < c := by omega
  rw [decide_eq_true h1, Bool.true_and, decide_eq_false h2, Bool.false_and]
  go_enter Tryz.func137, Tryz.ntmps137
  go_wp2
  go_ret
  exact ⟨rfl, hb⟩
 by_cases h3 : 0 ≤ p
 case neg =>
  have g3 : p < 0 := by omega
  rw [decide_eq_true h1, Bool.true_and, decide_eq_true h2, Bool.true_and, decide_eq_false h3, Bool.false_and]
  go_enter Tryz.func137, Tryz.ntmps137
  go_wp2
  go_ret
  exact ⟨rfl, hb⟩
 by_cases h4 : p ≤ 2147483647
 case neg =>
  have g4 : 2147483647 < p := by omega
  rw [decide_eq_true h1, Bool.true_and, decide_eq_true h2, Bool.true_and, decide_eq_true h3, Bool.true_and, decide_eq_false h4, Bool.false_and]
  go_enter Tryz.func137, Tryz.ntmps137
  go_wp2
  go_ret
  exact ⟨rfl, hb⟩
 by_cases h5 : n.length ≤ 64
 case neg =>
  have g5 : (64 : Int) < (n.length : Int) := by omega
  have g5b : ¬ (n.length : Int) ≤ 64 := by omega
  rw [decide_eq_true h1, Bool.true_and, decide_eq_true h2, Bool.true_and, decide_eq_true h3, Bool.true_and, decide_eq_true h4, Bool.true_and, decide_eq_false h5, Bool.false_and]
  go_enter Tryz.func137, Tryz.ntmps137
  go_wp2
  go_ret
  exact ⟨rfl, hb⟩
 have q5 : (n.length : Int) ≤ 64 := by omega
 rw [decide_eq_true h1, Bool.true_and, decide_eq_true h2, Bool.true_and, decide_eq_true h3, Bool.true_and, decide_eq_true h4, Bool.true_and, decide_eq_true h5, Bool.true_and]
 go_enter Tryz.func137, Tryz.ntmps137
 go_wp2_with fail
 refine (rValid_c n (by omega) _).mono ?_
 rintro e w1 ⟨rfl, rfl⟩
 go_wp2_with fail
 go_ret
 exact ⟨rfl, hb⟩
set_option maxHeartbeats 1000000 in
theorem alike_c (a b : Rw) (ha : rk a < 18446744073709551616) (hb : rk b < 18446744073709551616) (w : World) :
  Calls Tryz.prog 149 #[rv a, rv b] w fun e w' => e = .returned (.bool (alikeP a b)) ∧ Below w.heap.size w w' := by
 obtain ⟨c1, p1, n1, f1⟩ := a
 obtain ⟨c2, p2, n2, f2⟩ := b
 show Calls Tryz.prog 149 #[.agg #[.int .i64 c1, .int .i64 p1, .string (ba n1), .float .f64 f1], .agg #[.int .i64 c2, .int .i64 p2, .string (ba n2), .float .f64 f2]] w _
 have hbw := ((Below.refl w.heap.size w).alloc (Nat.le_refl _) (.cells #[.int .i64 c1, .int .i64 p1, .string (ba n1), .float .f64 f1] 157)).alloc (by simp) (.cells #[.int .i64 c2, .int .i64 p2, .string (ba n2), .float .f64 f2] 157)
 show Calls _ _ _ _ fun e w' => e = .returned (.bool (decide (c1 = c2) && (decide (p1 = p2) && (decide (n1 = n2) && ((cb f1 : Int) == (cb f2 : Int)))))) ∧ _
 change f1 < _ at ha
 change f2 < _ at hb
 have hst := ba_beq n1 n2
 by_cases h1 : c1 = c2
 case neg =>
  have g : (c1 == c2) = false := by simpa using h1
  rw [decide_eq_false h1, Bool.false_and]
  clear hst
  go_enter Tryz.func149, Tryz.ntmps149
  go_wp2
  go_ret
  exact ⟨rfl, hbw⟩
 by_cases h2 : p1 = p2
 case neg =>
  have g1 : (c1 == c2) = true := by simpa using h1
  have g : (p1 == p2) = false := by simpa using h2
  rw [decide_eq_true h1, Bool.true_and, decide_eq_false h2, Bool.false_and]
  clear hst h1
  go_enter Tryz.func149, Tryz.ntmps149
  go_wp2
  go_ret
  exact ⟨rfl, hbw⟩
 by_cases h3 : n1 = n2
 case neg =>
  have g1 : (c1 == c2) = true := by simpa using h1
  have g2 : (p1 == p2) = true := by simpa using h2
  rw [decide_eq_false h3] at hst
  rw [decide_eq_true h1, Bool.true_and, decide_eq_true h2, Bool.true_and, decide_eq_false h3, Bool.false_and]
  clear h1 h2
  go_enter Tryz.func149, Tryz.ntmps149
  go_wp2
  go_ret
  exact ⟨rfl, hbw⟩
 have g1 : (c1 == c2) = true := by simpa using h1
 have g2 : (p1 == p2) = true := by simpa using h2
 rw [decide_eq_true h3] at hst
 rw [decide_eq_true h1, Bool.true_and, decide_eq_true h2, Bool.true_and, decide_eq_true h3, Bool.true_and]
 clear h1 h2 h3
 go_enter Tryz.func149, Tryz.ntmps149
 go_wp2_with fail
 refine (rSame_c f1 f2 ha hb _).mono ?_
 rintro e w1 ⟨rfl, rfl⟩
 go_wp2_with fail
 go_ret
 exact ⟨rfl, hbw⟩
end Go.Proofs.YtojhenpaeedimaaGreat
end
section
namespace Go.Proofs.YtojhenpaeedimaaGreat
open Go.RowKit Go.IntWalk
open Wd Fl
set_option maxRecDepth 100000
attribute [local go_sem] Oper.semAt_some
end Go.Proofs.YtojhenpaeedimaaGreat
end
section
namespace Go.Proofs.YtojhenpaeedimaaGreat
open Go.RowKit Go.IntWalk
set_option maxRecDepth 100000
attribute [local go_sem] Oper.semAt_some
theorem at_news {w : World} {B b o : Nat} {xs : List Value} (h : At w B (some ⟨b, o, none⟩) xs) : ∀ j u, xs[j]? = some u → w.cell? ((⟨b, o, none⟩ : Addr).add j) = some u := by
 intro j u hu
 obtain ⟨b', o', e, _, hc⟩ := h j u hu
 cases e
 rw [Go.WideShapes.add_plain]
 exact hc
theorem below_own {B : Nat} {w w1 w2 : World} {v : Value} {e : TypeId} {size n : Nat} {xs : List Value} (hb : Below B w w1) (hB : B ≤ w1.heap.size) (hown : w1.ownsRow B e size v n xs) (hg : w1.grownBy w2 v.ownBlock) : Below B w w2 :=
 hb.grown hg hB (fun k hk => (hown.lt k hk).1)
end Go.Proofs.YtojhenpaeedimaaGreat
end
section
namespace Go.Proofs.YtojhenpaeedimaaGreat
open Go.RowKit Go.IntWalk
set_option maxRecDepth 100000
attribute [local go_sem] Oper.semAt_some
end Go.Proofs.YtojhenpaeedimaaGreat
end
section
namespace Go.Proofs.YtojhenpaeedimaaGreat
open Go.RowKit Go.IntWalk
set_option maxRecDepth 100000
attribute [local go_sem] Oper.semAt_some
end Go.Proofs.YtojhenpaeedimaaGreat
end
section
namespace Go.Proofs.YtojhenpaeedimaaGreat
open Go.RowKit Go.IntWalk
set_option maxRecDepth 100000
attribute [local go_sem] Oper.semAt_some
end Go.Proofs.YtojhenpaeedimaaGreat
end
section
namespace Go.Proofs.YtojhenpaeedimaaGreat
open Go.RowKit Go.IntWalk
set_option maxRecDepth 100000
attribute [local go_sem] Oper.semAt_some
end Go.Proofs.YtojhenpaeedimaaGreat
end
section
namespace Go.Proofs.YtojhenpaeedimaaGreat
open Go.RowKit Go.IntWalk
set_option maxRecDepth 100000
attribute [local go_sem] Oper.semAt_some
end Go.Proofs.YtojhenpaeedimaaGreat
end
section
namespace Go.Proofs.YtojhenpaeedimaaGreat
open Go.RowKit Go.IntWalk
set_option maxRecDepth 100000
attribute [local go_sem] Oper.semAt_some
/-- a region that only reads but for calls that keep C -/
theorem quiet_held {P : Program} {id : Nat} {Q : Exit → Act → World → Prop} {a : Act} {w : World} {l : List Oper} (C : World → Prop) (hm : P.follows .mixedOrders = true) (hB : Region.lexB .any l.toArray = true) (hC : C w.drew)
  (h : wpQuiet P l.toArray C (fun a' => ∀ w', C w' → Q .normal a' w') l a) : (Code.region id l.toArray true).wp P Q a w :=
 wp_region_quiet (C := C) hm hB hC (by simpa using h)
end Go.Proofs.YtojhenpaeedimaaGreat
end
section
namespace Go.Proofs.YtojhenpaeedimaaGreat
open Go.RowKit Go.IntWalk
set_option maxRecDepth 100000
attribute [local go_sem] Oper.semAt_some
theorem Tryz.info3 : (Tryz.prog.info? 3).map (fun i => (i.zero, i.size, i.bytes)) = some (some (.int .i64 0), 1, 8) := by kernel_rfl
theorem below_ownI {w1 w2 : World} {B size n : Nat} {e : TypeId} {v : Value} {xs : List Value} (h : w1.ownsRow B e size v n xs) (hb : Below w1.heap.size w1 w2) : w2.ownsRow B e size v n xs := by
 refine ⟨h.1, ?_⟩
 rcases h.2 with h2 | ⟨g, cap, cur, hv, hg, hh, r⟩
 ·exact .inl h2
 ·exact .inr ⟨g, cap, cur, hv, hg, by rw [hb.block g (Array.getElem?_eq_some_iff.1 hh).1]; exact hh, r⟩
end Go.Proofs.YtojhenpaeedimaaGreat
end
