/-
  Whole numbers that came in: their cells.
-/
import Derived.Test.YtbhejaokkkggjaaVj
import Derived.Deep.Grids
namespace Go.Proofs.Ytbhejaokkkggjaa
open Go.ChangeShapes Go.WideShapes Go.RowKit
open Pk
set_option maxRecDepth 100000
section
variable {H : Type} {enc : TypeId × Value → H} {w : World} {r : Reach} {b0 : Nat} {v : Value} {d : DataW H} {ps : List MemPlace}

theorem ints_in (hval : Value.okWide Try.prog w r b0 47 v) (hj : DataW.Trod enc Try.prog w 0 (fun _ => true) true 47 v d ps) :
    ∃ (A : Option Addr) (cap : Nat) (xs : List Int), v = .slice A xs.length cap ∧ (A = none → cap = 0) ∧ xs.length ≤ cap ∧ xs.length ≤ maxLen ∧ At w w.heap.size A (ivs xs) := by
  obtain ⟨a0, len, cap, rfl⟩ := okWide_slice Try.underlying47 hval
  obtain ⟨fuel, hf⟩ := hj
  rcases Go.Deep.open_slice1 Try.underlying47 cells_i64 hf with ⟨hcs, _⟩ | ⟨a, len', cap', m, n, V, D, Pl, hcs, hb, hl, hm, hmm, _, hx⟩
  · simp only [Value.cells, List.cons.injEq, and_true] at hcs
    injection hcs with h1 h2 h3
    subst h1 h2 h3
    exact ⟨none, 0, [], rfl, fun _ => rfl, Nat.le_refl _, Nat.zero_le _, At.nil _ _ _⟩
  · simp only [Value.cells, List.cons.injEq, and_true] at hcs
    injection hcs with h1 h2 h3
    subst h1 h2 h3
    simp only [if_true] at hmm
    subst hmm
    obtain ⟨B, hB⟩ := Go.Deep.choose_lt (α := Int) (p := fun i b => V i = .int .i64 b) (fun i hi => by
      obtain ⟨b, h1, _⟩ := DataW.trod_int Try.underlying3 (hx i hi).2
      exact ⟨b, by simpa using h1⟩)
    refine ⟨some a, m, (List.range len).map B, by simp, (fun h => by cases h), by simp; exact hl, by simp; omega, fun i v hv => ?_⟩
    have hi : i < len := by
      have := (List.getElem?_eq_some_iff.1 hv).1
      simpa [ivs] using this
    have h00 := (hx 0 (by omega)).1
    have hci := (hx i (by omega)).1
    rw [hB i (by omega)] at hci
    obtain ⟨b, off, spot⟩ := a
    have hspot : spot = none := by simpa [Addr.add] using World.cell?_spot h00
    subst hspot
    rw [Go.WideShapes.add_plain] at hci
    refine ⟨b, off, rfl, World.block_lt_of_cell? _ _ hci, ?_⟩
    have : v = .int .i64 (B i) := by
      rw [show (ivs ((List.range len).map B))[i]? = some (.int .i64 (B i)) by simp [ivs, hi]] at hv
      exact (Option.some.inj hv).symm
    rw [this]
    exact hci
end
end Go.Proofs.Ytbhejaokkkggjaa
