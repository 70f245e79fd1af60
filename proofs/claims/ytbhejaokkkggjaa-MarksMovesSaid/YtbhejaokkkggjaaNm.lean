/-
  Contracts of package rank's Key, Compare, Unkey, Between and of the document's.
  Contracts of package rank's Unkey and Between and of the document's.
  Contracts of package rank's Between and of the document's.
  Contracts of cmp.Compare of ints, and of the closures of package rank.
  Contract of package rank's first, at the two pairs of ways that are handed to it.
  Contracts of package rank's Before and Less, and of the document's.
  Contracts of the document's Before and Less; and 'live' of layer 2's statements.
-/
import Derived.Test.YtbhejaokkkggjaaNg
import Derived.Test.YtbhejaokkkggjaaFa
import Derived.LoopN
import Derived.Handy
section
namespace Go.Proofs.Ytbhejaokkkggjaa
open Go.RowKit
open Fl
set_option maxRecDepth 100000

end Go.Proofs.Ytbhejaokkkggjaa
end

section
namespace Go.Proofs.Ytbhejaokkkggjaa
open Go.RowKit
open Fl
set_option maxRecDepth 100000

theorem uk_neg {k : Nat} (h : ng k = false) : uk k = 18446744073709551615 - k := by unfold uk; rw [if_pos (ng_false.1 h)]
theorem uk_pos {k : Nat} (h : ng k = true) (hk : k < 18446744073709551616) : uk k = mg k := by
  have := ng_true.1 h
  unfold uk mg; rw [if_neg (by omega)]; omega

theorem ret_fb {a b : Nat} {p q : Bool} (h1 : a = b) (h2 : p = q) : Ending.returned (.tuple #[.float .f64 a, .bool p]) = .returned (.tuple #[.float .f64 b, .bool q]) := by rw [h1, h2]

theorem cb_rf2 {u y : Nat} (h : RF u y) : cb y = cb u := by
  obtain ⟨_, h1, h2⟩ := h
  cases hn : nn u
  · rw [h1 hn]
  · rw [cb_nan hn, cb_nan (h2 hn)]

/-- what the document's Unkey gives beside the number's word y -/
def rw' (k y : Nat) : Nat := if cn (uk k) then y else 0

theorem key_back {k y : Nat} (hk : k < 18446744073709551616) (h : RF (uk k) y) : ((ky y : Int) != (k : Int)) = !cn (uk k) := by
  have hu := uk_lt k hk
  have e := cb_rf2 h
  have hi := ky_iff h.1 hk
  cases hc : cn (uk k)
  · rw [Bool.not_false, bne_iff_ne]
    intro h2
    have h3 := hi.1 (by omega)
    rw [e] at h3
    have h4 := cn_cb hu
    rw [h3, hc] at h4
    cases h4
  · have h3 : cb (uk k) = uk k := by
      rcases (cn_iff _ hu).1 hc with h4 | h4
      · exact cb_num h4
      · rw [h4]; decide
    have h4 := hi.2 (by rw [e, h3])
    rw [h4]; simp

end Go.Proofs.Ytbhejaokkkggjaa
end

section
namespace Go.Proofs.Ytbhejaokkkggjaa
open Go.RowKit
open Fl
set_option maxRecDepth 100000

theorem far_iff (a b : Nat) : far a b = true ↔ 2 ≤ max a b - min a b := by unfold far; simp
theorem far_iff' (a b : Nat) : far a b = false ↔ max a b - min a b < 2 := by unfold far; simp

/-- the word that Between gives, and whether there is one -/
def bw (a b : Nat) : Nat := if far (ky a) (ky b) then uw (md (ky a) (ky b)) else 0
def bo (a b : Nat) : Bool := far (ky a) (ky b) && cn (uk (md (ky a) (ky b)))

end Go.Proofs.Ytbhejaokkkggjaa
end

section
namespace Go.Proofs.Ytbhejaokkkggjaa
open Go.RowKit
open Fl
set_option maxRecDepth 100000

/-- how two ints stand -/
def ci (x y : Int) : Int := if x < y then -1 else if y < x then 1 else 0

theorem cmpInt_c (x y : Int) (w : World) :
    Calls Try.prog 116 #[.int .i64 x, .int .i64 y] w fun e w' => e = .returned (.int .i64 (ci x y)) ∧ w = w' := by
  rcases Int.lt_trichotomy x y with h | h | h
  · have hc : ci x y = -1 := by unfold ci; rw [if_pos h]
    rw [hc]
    go_enter Try.func116, Try.ntmps116
    go_wp2
    go_ret
    exact ⟨rfl, rfl⟩
  · subst h
    have hc : ci x x = 0 := by unfold ci; rw [if_neg (by omega), if_neg (by omega)]
    rw [hc]
    go_enter Try.func116, Try.ntmps116
    go_wp2
    go_ret
    exact ⟨rfl, rfl⟩
  · have hc : ci x y = 1 := by unfold ci; rw [if_neg (by omega), if_pos h]
    rw [hc]
    go_enter Try.func116, Try.ntmps116
    go_wp2
    go_ret
    exact ⟨rfl, rfl⟩


end Go.Proofs.Ytbhejaokkkggjaa
end

section
namespace Go.Proofs.Ytbhejaokkkggjaa
open Go.RowKit
open Fl
set_option maxRecDepth 100000

/-- what 'first' tells of two ways, by what these tell -/
def fr (v1 v2 : Int) : Int := if v1 = 0 then v2 else v1

end Go.Proofs.Ytbhejaokkkggjaa
end

section
namespace Go.Proofs.Ytbhejaokkkggjaa
open Go.RowKit
open Fl
set_option maxRecDepth 100000

/-- three blocks, laid one behind the other -/
def three (w : World) (A B C : Array Value) (T T2 : TypeId) : World := ((w.alloc (.cells A T)).alloc (.cells B T)).alloc (.cells C T2)
theorem three_facts (w : World) (A B C : Array Value) (T T2 : TypeId) :
    (∀ j, (three w A B C T T2).cell? ⟨w.heap.size, j, none⟩ = A[j]?) ∧ (∀ j, (three w A B C T T2).cell? ⟨w.heap.size + 1, j, none⟩ = B[j]?) ∧ (∀ j, (three w A B C T T2).cell? ⟨w.heap.size + 1 + 1, j, none⟩ = C[j]?) ∧
    w.heap.size + 1 + 1 < (three w A B C T T2).heap.size ∧ Below w.heap.size w (three w A B C T T2) := by
  have s1 : (w.alloc (.cells A T)).heap.size = w.heap.size + 1 := by simp
  have s2 : ((w.alloc (.cells A T)).alloc (.cells B T)).heap.size = w.heap.size + 1 + 1 := by simp
  have s3 : (three w A B C T T2).heap.size = w.heap.size + 1 + 1 + 1 := by simp [three]
  refine ⟨fun j => ?_, fun j => ?_, fun j => ?_, by omega, ?_⟩
  · unfold three
    rw [World.cell?_alloc_past _ _ _ (by omega), World.cell?_alloc_past _ _ _ (by omega), World.cell?_alloc_at _ _ _ _ rfl]
  · unfold three
    rw [World.cell?_alloc_past _ _ _ (by omega), World.cell?_alloc_at _ _ _ _ s1.symm]
  · unfold three
    rw [World.cell?_alloc_at _ _ _ _ s2.symm]
  · exact (((Below.refl _ _).alloc (Nat.le_refl _) _).alloc (by omega) _).alloc (by omega) _

end Go.Proofs.Ytbhejaokkkggjaa
end

section
namespace Go.Proofs.Ytbhejaokkkggjaa
open Go.RowKit
open Fl
set_option maxRecDepth 100000

theorem ci_lt {x y : Int} (h : x < y) : ci x y = -1 := by unfold ci; rw [if_pos h]
theorem ci_eq (x : Int) : ci x x = 0 := by unfold ci; rw [if_neg (by omega), if_neg (by omega)]
theorem ci_gt {x y : Int} (h : y < x) : ci x y = 1 := by unfold ci; rw [if_neg (by omega), if_pos h]
theorem ci_neg (x y : Int) : decide (ci x y < 0) = decide (x < y) := by
  rcases Int.lt_trichotomy x y with h | h | h
  · rw [ci_lt h]; exact decide_eq_decide.2 (by omega)
  · subst h; rw [ci_eq]; exact decide_eq_decide.2 (by omega)
  · rw [ci_gt h]; exact decide_eq_decide.2 (by omega)
theorem fr_zero (v : Int) : fr 0 v = v := by simp [fr]
theorem ret_bool {a b : Bool} (h : a = b) : Ending.returned (.bool a) = .returned (.bool b) := by rw [h]

theorem cm_cases (a b : Nat) : (cm a b = -1 ∧ a < b) ∨ (cm a b = 0 ∧ a = b) ∨ (cm a b = 1 ∧ b < a) := by
  unfold cm
  by_cases h : a < b
  · rw [if_pos h]; exact .inl ⟨rfl, h⟩
  · rw [if_neg h]
    by_cases h2 : b < a
    · rw [if_pos h2]; exact .inr (.inr ⟨rfl, h2⟩)
    · rw [if_neg h2]; exact .inr (.inl ⟨rfl, by omega⟩)

end Go.Proofs.Ytbhejaokkkggjaa
end
