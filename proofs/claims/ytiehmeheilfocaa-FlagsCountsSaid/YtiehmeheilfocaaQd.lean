/-
  May these be runs? the program's, and the document's.
-/
import Derived.Test.YtiehmeheilfocaaQc
namespace Go.Proofs.Ytiehmeheilfocaa
open Go.RowKit Go.IntWalk
open Pk
set_option maxRecDepth 100000
attribute [local go_sem] Oper.semAt_some

theorem run_cells {w : World} {B k : Nat} {A : Option Addr} {r : List Run} {x : Run} (h : At w B A (rvs r)) (hk : r[k]? = some x) :
    ∃ b off, A = some ⟨b, off, none⟩ ∧ b < B ∧ w.cell? ⟨b, off + k * 2, none⟩ = some (.int .u64 (x.1 : Int)) ∧ w.cell? ⟨b, off + k * 2 + 1, none⟩ = some (.int .i64 x.2) := by
  obtain ⟨h1, h2⟩ := rvs_at hk
  obtain ⟨b, off, hA, hlt, hc⟩ := h _ _ h1
  obtain ⟨b', off', hA', _, hc'⟩ := h _ _ h2
  rw [hA] at hA'
  cases hA'
  exact ⟨b, off, hA, hlt, hc, hc'⟩
/-- the number ahead of place k -/
def ahd (r : List Run) : Nat → Option Nat
  | 0 => none
  | j + 1 => r[j]?.map (·.1)
theorem may_step {r : List Run} {k v : Nat} {c : Int} (h : r[k]? = some (v, c)) : mayP (ahd r k) (r.drop k) = (decide (1 ≤ c) && !(ahd r k == some v) && mayP (ahd r (k + 1)) (r.drop (k + 1))) := by
  rw [drop_at_cons h, mayP]
  have : ahd r (k + 1) = some v := by simp [ahd, h]
  rw [this]

theorem may_low {r : List Run} {v k : Nat} {c : Int} (hm : (decide (1 ≤ c) && !(ahd r k == some v) && mayP (ahd r (k + 1)) (r.drop (k + 1))) = mayP none r) (h : c < 1) : mayP none r = false := by
  rw [← hm, decide_eq_false (by omega)]; rfl
theorem may_twice {r : List Run} {v j : Nat} {c : Int} {y : Run} (hm : (decide (1 ≤ c) && !(ahd r (j + 1) == some v) && mayP (ahd r (j + 1 + 1)) (r.drop (j + 1 + 1))) = mayP none r) (hy : r[j]? = some y) (h : y.1 = v) : mayP none r = false := by
  rw [← hm]
  simp [ahd, hy, h]
theorem may_next0 {r : List Run} {v : Nat} {c : Int} (hm : (decide (1 ≤ c) && !(ahd r 0 == some v) && mayP (ahd r (0 + 1)) (r.drop (0 + 1))) = mayP none r) (h : ¬ c < 1) : mayP (ahd r 1) (r.drop 1) = mayP none r := by
  rw [← hm, decide_eq_true (by omega)]
  simp [ahd]
theorem may_next {r : List Run} {v j : Nat} {c : Int} {y : Run} (hm : (decide (1 ≤ c) && !(ahd r (j + 1) == some v) && mayP (ahd r (j + 1 + 1)) (r.drop (j + 1 + 1))) = mayP none r) (h : ¬ c < 1) (hy : r[j]? = some y) (hne : y.1 ≠ v) : mayP (ahd r (j + 1 + 1)) (r.drop (j + 1 + 1)) = mayP none r := by
  rw [← hm, decide_eq_true (show 1 ≤ c by omega)]
  have : (ahd r (j + 1) == some v) = false := by simp [ahd, hy, hne]
  rw [this]
  rfl

end Go.Proofs.Ytiehmeheilfocaa
