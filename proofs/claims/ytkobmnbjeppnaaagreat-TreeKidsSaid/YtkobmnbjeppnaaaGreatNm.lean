/-
 Contracts of package rank's Key, Compare, Unkey, Between and of the document's.
 Contracts of package rank's Unkey and Between and of the document's.
 Contracts of package rank's Between and of the document's.
 Contracts of cmp.Compare of ints, and of the closures of package rank.
 Contract of package rank's first, at the two pairs of ways that are handed to it.
 Contracts of package rank's Before and Less, and of the document's.
 Contracts of the document's Before and Less; and 'live' of layer 2's statements.
-/
import Derived.Test.YtkobmnbjeppnaaaGreatNg
import Derived.Test.YtkobmnbjeppnaaaGreatFa
import Derived.LoopN
import Derived.Handy
section
namespace Go.Proofs.YtkobmnbjeppnaaaGreat
open Go.RowKit
open Fl
set_option maxRecDepth 100000
end Go.Proofs.YtkobmnbjeppnaaaGreat
end
section
namespace Go.Proofs.YtkobmnbjeppnaaaGreat
open Go.RowKit
open Fl
set_option maxRecDepth 100000
end Go.Proofs.YtkobmnbjeppnaaaGreat
end
section
namespace Go.Proofs.YtkobmnbjeppnaaaGreat
open Go.RowKit
open Fl
set_option maxRecDepth 100000
end Go.Proofs.YtkobmnbjeppnaaaGreat
end
section
namespace Go.Proofs.YtkobmnbjeppnaaaGreat
open Go.RowKit
open Fl
set_option maxRecDepth 100000
/-- how two ints stand -/
def ci (x y : Int) : Int := if x < y then -1 else if y < x then 1 else 0
theorem cmpInt_c (x y : Int) (w : World) :
  Calls Tryz.prog 65 #[.int .i64 x, .int .i64 y] w fun e w' => e = .returned (.int .i64 (ci x y)) ∧ w = w' := by
 rcases Int.lt_trichotomy x y with h | h | h
 ·have hc : ci x y = -1 := by unfold ci; rw [if_pos h]
  rw [hc]
  go_enter Tryz.func65, Tryz.ntmps65
  go_wp2
  go_ret
  exact ⟨rfl, rfl⟩
 ·subst h
  have hc : ci x x = 0 := by unfold ci; rw [if_neg (by omega), if_neg (by omega)]
  rw [hc]
  go_enter Tryz.func65, Tryz.ntmps65
  go_wp2
  go_ret
  exact ⟨rfl, rfl⟩
 ·have hc : ci x y = 1 := by unfold ci; rw [if_neg (by omega), if_pos h]
  rw [hc]
  go_enter Tryz.func65, Tryz.ntmps65
  go_wp2
  go_ret
  exact ⟨rfl, rfl⟩
end Go.Proofs.YtkobmnbjeppnaaaGreat
end
section
namespace Go.Proofs.YtkobmnbjeppnaaaGreat
open Go.RowKit
open Fl
set_option maxRecDepth 100000
/-- what 'first' tells of two ways, by what these tell -/
def fr (v1 v2 : Int) : Int := if v1 = 0 then v2 else v1
end Go.Proofs.YtkobmnbjeppnaaaGreat
end
section
namespace Go.Proofs.YtkobmnbjeppnaaaGreat
open Go.RowKit
open Fl
set_option maxRecDepth 100000
/-- three blocks, laid one behind the other -/
def three (w : World) (A B C : Array Value) (T T2 : TypeId) : World := ((w.alloc (.cells A T)).alloc (.cells B T)).alloc (.cells C T2)
theorem three_facts (w : World) (A B C : Array Value) (T T2 : TypeId) :
  (∀ j, (three w A B C T T2).cell? ⟨w.heap.size, j, none⟩ = A[j]?) ∧ (∀ j, (three w A B C T T2).cell? ⟨w.heap.size + 1, j, none⟩ = B[j]?) ∧ (∀ j, (three w A B C T T2).cell? ⟨w.heap.size + 1 + 1, j, none⟩ = C[j]?) ∧
  w.heap.size + 1 + 1 < (three w A B C T T2).heap.size ∧ Below w.heap.size w (three w A B C T T2) := by
 have s1 : (w.alloc (.cells A T)).heap.size = w.heap.size + 1 := by simp
 have s2 : ((w.alloc (.cells A T)).alloc (.cells B T)).heap.size = w.heap.size + 1 + 1 := by simp
 have s3 : (three w A B C T T2).heap.size = w.heap.size + 1 + 1 + 1 := by simp [three]
 refine ⟨fun j => ?_, fun j => ?_, fun j => ?_, by omega, ?_⟩
 ·unfold three
  rw [World.cell?_alloc_past _ _ _ (by omega), World.cell?_alloc_past _ _ _ (by omega), World.cell?_alloc_at _ _ _ _ rfl]
 ·unfold three
  rw [World.cell?_alloc_past _ _ _ (by omega), World.cell?_alloc_at _ _ _ _ s1.symm]
 ·unfold three
  rw [World.cell?_alloc_at _ _ _ _ s2.symm]
 ·exact (((Below.refl _ _).alloc (Nat.le_refl _) _).alloc (by omega) _).alloc (by omega) _
end Go.Proofs.YtkobmnbjeppnaaaGreat
end
section
namespace Go.Proofs.YtkobmnbjeppnaaaGreat
open Go.RowKit
open Fl
set_option maxRecDepth 100000
theorem ci_lt {x y : Int} (h : x < y) : ci x y = -1 := by unfold ci; rw [if_pos h]
theorem ci_eq (x : Int) : ci x x = 0 := by unfold ci; rw [if_neg (by omega), if_neg (by omega)]
theorem ci_gt {x y : Int} (h : y < x) : ci x y = 1 := by unfold ci; rw [if_neg (by omega), if_pos h]
theorem ci_neg (x y : Int) : decide (ci x y < 0) = decide (x < y) := by
 rcases Int.lt_trichotomy x y with h | h | h
 ·rw [ci_lt h]; exact decide_eq_decide.2 (by omega)
 ·subst h; rw [ci_eq]; exact decide_eq_decide.2 (by omega)
 ·rw [ci_gt h]; exact decide_eq_decide.2 (by omega)
theorem fr_zero (v : Int) : fr 0 v = v := by simp [fr]
theorem ret_bool {a b : Bool} (h : a = b) : Ending.returned (.bool a) = .returned (.bool b) := by rw [h]
theorem cm_cases (a b : Nat) : (cm a b = -1 ∧ a < b) ∨ (cm a b = 0 ∧ a = b) ∨ (cm a b = 1 ∧ b < a) := by
 unfold cm
 by_cases h : a < b
 ·rw [if_pos h]; exact .inl ⟨rfl, h⟩
 ·rw [if_neg h]
  by_cases h2 : b < a
  ·rw [if_pos h2]; exact .inr (.inr ⟨rfl, h2⟩)
  ·rw [if_neg h2]; exact .inr (.inl ⟨rfl, by omega⟩)
end Go.Proofs.YtkobmnbjeppnaaaGreat
end
