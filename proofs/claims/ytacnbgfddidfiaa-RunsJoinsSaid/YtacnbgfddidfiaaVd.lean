/-
  Slices of numbers that came in, and that a nil one has no room.
-/
import Derived.Test.YtacnbgfddidfiaaVb
namespace Go.Proofs.Ytacnbgfddidfiaa
open Go.ChangeShapes Go.WideShapes Go.RowKit
open Pk

section
variable {H : Type} {enc : TypeId × Value → H} {w : World} {r : Reach} {b0 : Nat} {v : Value} {d : DataW H} {ps : List MemPlace}

theorem nums_in0 {t e : TypeId} {k : IntKind} (ht : Try.prog.underlying t = some (.slice e)) (he : Try.prog.underlying e = some (.int k)) (hc : Try.prog.cellsOf e = 1)
    (hval : Value.okWide Try.prog w r b0 t v) (hj : DataW.Trod enc Try.prog w 0 (fun _ => true) true t v d ps) :
    ∃ (A : Option Addr) (cap : Nat) (xs : List Int), v = .slice A xs.length cap ∧ (A = none → cap = 0) ∧ xs.length ≤ cap ∧ xs.length ≤ maxLen ∧ At w w.heap.size A (xs.map (Value.int k)) ∧ ∀ x ∈ xs, (Lit.int k x).wf = true := by
  obtain ⟨A, cap, xs, hv, hk, hl, hcs, hw⟩ := nums_in ht he hc hval hj
  refine ⟨A, cap, xs, hv, fun hA => ?_, hk, hl, hcs, hw⟩
  obtain ⟨fuel, hf⟩ := hj
  subst hv
  rcases open_ints ht he hc hf with ⟨hcs, _⟩ | ⟨a, len', cap', zs, hcs, _, hle, _⟩
  · simp only [Value.cells, List.cons.injEq, and_true] at hcs
    injection hcs with h1 h2 h3
  · simp only [Value.cells, List.cons.injEq, and_true] at hcs
    injection hcs with h1 h2 h3
    rw [hA] at h1
    cases h1
end
end Go.Proofs.Ytacnbgfddidfiaa
