/-
  Slices of numbers that came in: their cells, and that they are no longer than they have room.
-/
import Derived.Test.YtiehmeheilfocaaVa
import Derived.Test.YtiehmeheilfocaaRb
namespace Go.Proofs.Ytiehmeheilfocaa
open Go.ChangeShapes Go.WideShapes Go.RowKit
open Pk
set_option maxRecDepth 100000

theorem in64_of {x : Int} (h : (Lit.int .i64 x).wf = true) : In64 x := by
  simp [Lit.wf, IntKind.min, IntKind.max, IntKind.bits, IntKind.signed] at h
  unfold In64
  omega
theorem nat64_of {x : Int} (h : (Lit.int .u64 x).wf = true) : ∃ u : Nat, x = (u : Int) ∧ u < 18446744073709551616 := by
  simp [Lit.wf, IntKind.min, IntKind.max, IntKind.bits, IntKind.signed] at h
  exact ⟨x.toNat, by omega, by omega⟩
theorem ints_of {xs : List Int} (h : ∀ x ∈ xs, (Lit.int .i64 x).wf = true) : Ints xs := fun x hx => in64_of (h x hx)
theorem nats_of : ∀ {xs : List Int}, (∀ x ∈ xs, (Lit.int .u64 x).wf = true) → ∃ us : List Nat, xs = us.map (fun (u : Nat) => (u : Int)) ∧ ∀ u ∈ us, u < 18446744073709551616
  | [], _ => ⟨[], rfl, by simp⟩
  | x :: xs, h => by
    obtain ⟨u, rfl, hu⟩ := nat64_of (h x (by simp))
    obtain ⟨us, rfl, hus⟩ := nats_of (xs := xs) (fun y hy => h y (by simp [hy]))
    exact ⟨u :: us, rfl, fun v hv => by rcases List.mem_cons.1 hv with rfl | hv; exact hu; exact hus v hv⟩

section
variable {H : Type} {enc : TypeId × Value → H} {w : World} {r : Reach} {b0 : Nat} {v : Value} {d : DataW H} {ps : List MemPlace}

theorem nums_in {t e : TypeId} {k : IntKind} (ht : Try.prog.underlying t = some (.slice e)) (he : Try.prog.underlying e = some (.int k)) (hc : Try.prog.cellsOf e = 1)
    (hval : Value.okWide Try.prog w r b0 t v) (hj : DataW.Trod enc Try.prog w 0 (fun _ => true) true t v d ps) :
    ∃ (A : Option Addr) (cap : Nat) (xs : List Int), v = .slice A xs.length cap ∧ xs.length ≤ cap ∧ xs.length ≤ maxLen ∧ At w w.heap.size A (xs.map (Value.int k)) ∧ ∀ x ∈ xs, (Lit.int k x).wf = true := by
  obtain ⟨A, cap, xs, hv, hl, hcs, hw⟩ := nums_read ht he hc hval hj
  refine ⟨A, cap, xs, hv, ?_, hl, hcs, hw⟩
  obtain ⟨fuel, hf⟩ := hj
  subst hv
  rcases open_ints ht he hc hf with ⟨hcs, _⟩ | ⟨a, len', cap', zs, hcs, _, hle, _⟩
  · simp only [Value.cells, List.cons.injEq, and_true] at hcs
    injection hcs with h1 h2 h3
    omega
  · simp only [Value.cells, List.cons.injEq, and_true] at hcs
    injection hcs with h1 h2 h3
    omega
end
end Go.Proofs.Ytiehmeheilfocaa
