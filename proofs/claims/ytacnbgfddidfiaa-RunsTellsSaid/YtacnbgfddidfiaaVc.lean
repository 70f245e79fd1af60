/-
  Runs that came in: their cells.
-/
import Derived.Test.YtacnbgfddidfiaaVb
import Derived.Test.YtacnbgfddidfiaaQd
import Derived.Deep.SlicePairs
namespace Go.Proofs.Ytacnbgfddidfiaa
open Go.ChangeShapes Go.WideShapes Go.RowKit
open Pk

def numOfV : Value → Int
  | .int _ n => n
  | _ => 0
theorem cells_run : Try.prog.cellsOf 51 = 2 := by kernel_rfl

section
variable {H : Type} {enc : TypeId × Value → H} {w : World} {r : Reach} {b0 : Nat} {v : Value} {d : DataW H} {ps : List MemPlace}

theorem runs_read (hval : Value.okWide Try.prog w r b0 38 v) (hj : DataW.Trod enc Try.prog w 0 (fun _ => true) true 38 v d ps) :
    ∃ (A : Option Addr) (cap : Nat) (rr : List Run), v = .slice A rr.length cap ∧ rr.length ≤ maxLen ∧ At w w.heap.size A (rvs rr) ∧ ∀ x ∈ rr, In64 x.2 := by
  obtain ⟨a0, len, cap, rfl⟩ := okWide_slice Try.underlying38 hval
  obtain ⟨fuel, hf⟩ := hj
  rcases Go.Deep.open_slice_pairs Try.underlying38 Try.underlying51 cells_run rfl rfl cells_u64 cells_i64 hf with ⟨hcs, _⟩ | ⟨a, len', cap', m, n, V0, V1, D0, D1, P0, P1, hcs, _, hl, hcm, hm, _, hcell⟩
  · simp only [Value.cells, List.cons.injEq, and_true] at hcs
    injection hcs with h1 h2 h3
    subst h1 h2 h3
    exact ⟨none, 0, [], rfl, by simp, At.nil _ _ _, fun x hx => by simp at hx⟩
  · simp only [Value.cells, List.cons.injEq, and_true] at hcs
    injection hcs with h1 h2 h3
    subst h1 h2 h3
    simp only [if_true] at hm
    subst hm
    have hin : ∀ i, i < len → ∃ (u : Nat) (c : Int), V0 i = .int .u64 (u : Int) ∧ V1 i = .int .i64 c ∧ In64 c := fun i hi => by
      obtain ⟨_, _, h0, h1⟩ := hcell i (by omega)
      obtain ⟨x, hx, _, hxw⟩ := DataW.trod_int Try.underlying34 h0
      obtain ⟨y, hy, _, hyw⟩ := DataW.trod_int Try.underlying3 h1
      obtain ⟨u, rfl, _⟩ := nat64_of hxw
      exact ⟨u, y, by simpa using hx, by simpa using hy, in64_of hyw⟩
    refine ⟨some a, m, (List.range len).map fun i => ((numOfV (V0 i)).toNat, numOfV (V1 i)), by simp, by simp; omega, fun i v hv => ?_, fun x hx => ?_⟩
    · have hlt := (List.getElem?_eq_some_iff.1 hv).1
      rw [rvs_len, List.length_map, List.length_range] at hlt
      obtain ⟨k, hk⟩ : ∃ k, k = i / 2 := ⟨_, rfl⟩
      have hkl : k < len := by omega
      obtain ⟨u, c, e0, e1, _⟩ := hin k hkl
      obtain ⟨c0, c1, _, _⟩ := hcell k (by omega)
      have hx : ((List.range len).map fun i => ((numOfV (V0 i)).toNat, numOfV (V1 i)))[k]? = some (u, c) := by
        rw [List.getElem?_map, List.getElem?_range hkl, Option.map_some, e0, e1]
        simp [numOfV]
      obtain ⟨g0, g1⟩ := rvs_at hx
      rw [e0] at c0
      rw [e1] at c1
      obtain ⟨b, off, spot⟩ := a
      have h00 := (hcell 0 (by omega)).1
      rw [Nat.zero_mul] at h00
      have hspot : spot = none := by simpa [Addr.add] using World.cell?_spot h00
      subst hspot
      rw [Go.WideShapes.add_plain] at c0 c1
      refine ⟨b, off, rfl, World.block_lt_of_cell? _ _ c0, ?_⟩
      rcases Nat.lt_or_ge (k * 2) i with h | h
      · have : i = k * 2 + 1 := by omega
        subst this
        rw [g1] at hv
        rw [c1, hv]
      · have : i = k * 2 := by omega
        subst this
        rw [g0] at hv
        rw [c0, hv]
    · obtain ⟨i, hi, rfl⟩ := List.mem_map.1 hx
      obtain ⟨u, c, e0, e1, h⟩ := hin i (List.mem_range.1 hi)
      rw [e1]
      exact h
end
end Go.Proofs.Ytacnbgfddidfiaa
