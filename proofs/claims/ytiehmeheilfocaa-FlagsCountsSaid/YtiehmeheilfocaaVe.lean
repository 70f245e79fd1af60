/-
  Slices of flags that came in: their cells.
-/
import Derived.Test.YtiehmeheilfocaaVb
import Derived.Test.YtiehmeheilfocaaPa
import Derived.Deep.Grids
namespace Go.Proofs.Ytiehmeheilfocaa
open Go.ChangeShapes Go.WideShapes Go.RowKit
open Pk
set_option maxRecDepth 100000
theorem cells_bool : Try.prog.cellsOf 4 = 1 := by kernel_rfl

section
variable {H : Type} {enc : TypeId × Value → H} {w : World} {r : Reach} {b0 : Nat} {v : Value} {d : DataW H} {ps : List MemPlace}

theorem bools_in (hval : Value.okWide Try.prog w r b0 22 v) (hj : DataW.Trod enc Try.prog w 0 (fun _ => true) true 22 v d ps) :
    ∃ (A : Option Addr) (cap : Nat) (xs : List Bool), v = .slice A xs.length cap ∧ xs.length ≤ maxLen ∧ At w w.heap.size A (bvs xs) := by
  obtain ⟨a0, len, cap, rfl⟩ := okWide_slice Try.underlying22 hval
  obtain ⟨fuel, hf⟩ := hj
  rcases Go.Deep.open_bools Try.underlying22 Try.underlying4 cells_bool hf with ⟨hcs, _⟩ | ⟨a, len', cap', B, hcs, _, hl, hm, _, hcell⟩
  · simp only [Value.cells, List.cons.injEq, and_true] at hcs
    injection hcs with h1 h2 h3
    subst h1 h2 h3
    exact ⟨none, 0, [], rfl, by simp, At.nil _ _ _⟩
  · simp only [Value.cells, List.cons.injEq, and_true] at hcs
    injection hcs with h1 h2 h3
    subst h1 h2 h3
    refine ⟨some a, cap, (List.range len).map B, by simp, by simp; omega, fun i v hv => ?_⟩
    have hi : i < len := by
      have := (List.getElem?_eq_some_iff.1 hv).1
      simpa [bvs] using this
    have h00 := hcell 0 (by omega)
    have hci := hcell i (by omega)
    obtain ⟨b, off, spot⟩ := a
    have hspot : spot = none := by simpa [Addr.add] using World.cell?_spot h00
    subst hspot
    rw [Go.WideShapes.add_plain] at hci
    refine ⟨b, off, rfl, World.block_lt_of_cell? _ _ hci, ?_⟩
    rw [hci]
    simp only [bvs, List.map_map] at hv
    rw [List.getElem?_map, List.getElem?_range hi] at hv
    simpa using hv
end
end Go.Proofs.Ytiehmeheilfocaa
