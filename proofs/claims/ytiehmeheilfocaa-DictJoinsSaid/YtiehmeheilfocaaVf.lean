/-
  Slices of texts that came in: their cells, and that a nil one has no room.
-/
import Derived.Test.YtiehmeheilfocaaVb
import Derived.Test.YtiehmeheilfocaaTa
namespace Go.Proofs.Ytiehmeheilfocaa
open Go.ChangeShapes Go.WideShapes Go.RowKit
open Pk Dc
set_option maxRecDepth 100000

section
variable {H : Type} {enc : TypeId × Value → H} {w : World} {r : Reach} {b0 : Nat} {v : Value} {d : DataW H} {ps : List MemPlace}

theorem strs_in (hval : Value.okWide Try.prog w r b0 39 v) (hj : DataW.Trod enc Try.prog w 0 (fun _ => true) true 39 v d ps) :
    ∃ (A : Option Addr) (cap : Nat) (ts : List Tx), v = .slice A ts.length cap ∧ (A = none → cap = 0) ∧ ts.length ≤ cap ∧ ts.length ≤ maxLen ∧ At w w.heap.size A (svs ts) ∧ ∀ t ∈ ts, t.length ≤ maxLen := by
  obtain ⟨A, cap, xs, hv, hl, hcs, hw⟩ := strs_read Try.underlying39 Try.underlying9 cells_str hval hj
  have hmap : svs (xs.map fun x => x.data.toList) = xs.map Value.string := by
    simp only [svs, List.map_map]
    refine List.map_congr_left fun x _ => ?_
    simp only [Function.comp, tv, ba_of]
  refine ⟨A, cap, xs.map fun x => x.data.toList, by rw [List.length_map]; exact hv, ?_, ?_, by rw [List.length_map]; exact hl, by rw [hmap]; exact hcs, ?_⟩
  · intro hA
    obtain ⟨fuel, hf⟩ := hj
    subst hv
    rcases open_strings Try.underlying39 Try.underlying9 cells_str hf with ⟨hcs, _⟩ | ⟨a, len', cap', zs, hcs, _, hle, _⟩
    · simp only [Value.cells, List.cons.injEq, and_true] at hcs
      injection hcs with h1 h2 h3
    · simp only [Value.cells, List.cons.injEq, and_true] at hcs
      injection hcs with h1 h2 h3
      rw [hA] at h1
      cases h1
  · rw [List.length_map]
    obtain ⟨fuel, hf⟩ := hj
    subst hv
    rcases open_strings Try.underlying39 Try.underlying9 cells_str hf with ⟨hcs, _⟩ | ⟨a, len', cap', zs, hcs, _, hle, _⟩
    · simp only [Value.cells, List.cons.injEq, and_true] at hcs
      injection hcs with h1 h2 h3
      omega
    · simp only [Value.cells, List.cons.injEq, and_true] at hcs
      injection hcs with h1 h2 h3
      omega
  · intro t ht
    obtain ⟨x, hx, rfl⟩ := List.mem_map.1 ht
    have := hw x hx
    rw [← ba_of x, ba_size] at this
    exact this
end
end Go.Proofs.Ytiehmeheilfocaa
