/-
  Chunks that came in: their cells.
-/
import Derived.Test.YtcbkggjphoeceaaVg
import Derived.Test.YtcbkggjphoeceaaUd
import Derived.Deep.SlicePairs
namespace Go.Proofs.Ytcbkggjphoeceaa
open Go.ChangeShapes Go.WideShapes Go.RowKit Go.Joins
open Pk Ck
set_option maxRecDepth 100000

def numOfV : Value → Int
  | .int _ n => n
  | _ => 0
def strOfV : Value → ByteArray
  | .string s => s
  | _ => ByteArray.empty
theorem cells_chunk : Try.prog.cellsOf 32 = 2 := by kernel_rfl
theorem types_chunk : Try.prog.cellTypes Try.prog.depth 32 = some [3, 9] := by kernel_rfl
theorem cells_i64 : Try.prog.cellsOf 3 = 1 := by kernel_rfl
theorem cells_str : Try.prog.cellsOf 9 = 1 := by kernel_rfl

section
variable {H : Type} {enc : TypeId × Value → H} {w : World} {r : Reach} {b0 : Nat} {v : Value} {d : DataW H} {ps : List MemPlace}

theorem chunks_in (hval : Value.okWide Try.prog w r b0 22 v) (hj : DataW.Trod enc Try.prog w 0 (fun _ => true) true 22 v d ps) :
    ∃ (A : Option Addr) (cap : Nat) (l : List Chk), v = .slice A l.length cap ∧ (A = none → cap = 0) ∧ l.length ≤ cap ∧ l.length ≤ maxLen ∧ At w w.heap.size A (cvs l) ∧ ∀ c ∈ l, c.2.length ≤ maxLen := by
  obtain ⟨a0, len, cap, rfl⟩ := okWide_slice Try.underlying22 hval
  obtain ⟨fuel, hf⟩ := hj
  rcases Go.Deep.open_slice_pairs Try.underlying22 Try.underlying32 cells_chunk rfl rfl cells_i64 cells_str hf with ⟨hcs, _⟩ | ⟨a, len', cap', m, n, V0, V1, D0, D1, P0, P1, hcs, _, hl, hcm, hm, _, hcell⟩
  · simp only [Value.cells, List.cons.injEq, and_true] at hcs
    injection hcs with h1 h2 h3
    subst h1 h2 h3
    exact ⟨none, 0, [], rfl, fun _ => rfl, Nat.le_refl _, by simp, At.nil _ _ _, fun x hx => by simp at hx⟩
  · simp only [Value.cells, List.cons.injEq, and_true] at hcs
    injection hcs with h1 h2 h3
    subst h1 h2 h3
    simp only [if_true] at hm
    subst hm
    have hin : ∀ i, i < len → ∃ (u : Int) (c : ByteArray), V0 i = .int .i64 u ∧ V1 i = .string c ∧ c.size ≤ maxLen := fun i hi => by
      obtain ⟨_, _, h0, h1⟩ := hcell i (by omega)
      obtain ⟨x, hx, _, hxw⟩ := DataW.trod_int Try.underlying3 h0
      obtain ⟨y, hy, _, hyw⟩ := DataW.trod_string Try.underlying9 h1
      exact ⟨x, y, by simpa using hx, by simpa using hy, hyw⟩
    refine ⟨some a, m, (List.range len).map fun i => (numOfV (V0 i), (strOfV (V1 i)).data.toList), by simp, (fun h => by cases h), by simp; exact hl, by simp; omega, fun i v hv => ?_, fun x hx => ?_⟩
    · have hlt := (List.getElem?_eq_some_iff.1 hv).1
      rw [cvs_len, List.length_map, List.length_range] at hlt
      obtain ⟨k, hk⟩ : ∃ k, k = i / 2 := ⟨_, rfl⟩
      have hkl : k < len := by omega
      obtain ⟨u, c, e0, e1, _⟩ := hin k hkl
      obtain ⟨c0, c1, _, _⟩ := hcell k (by omega)
      have hx : ((List.range len).map fun i => (numOfV (V0 i), (strOfV (V1 i)).data.toList))[k]? = some (u, c.data.toList) := by
        rw [List.getElem?_map, List.getElem?_range hkl, Option.map_some, e0, e1]
        simp [numOfV, strOfV]
      obtain ⟨g0, g1⟩ := cvs_at hx
      rw [ba_of] at g1
      rw [e0] at c0
      rw [e1] at c1
      obtain ⟨b, off, spot⟩ := a
      have h00 := (hcell 0 (by omega)).1
      rw [Nat.zero_mul] at h00
      have hspot : spot = none := by simpa [Addr.add] using World.cell?_spot h00
      subst hspot
      rw [Go.WideShapes.add_plain] at c0 c1
      refine ⟨b, off, rfl, World.block_lt_of_cell? _ _ c0, ?_⟩
      rcases Nat.lt_or_ge (k * 2) i with h | h
      · have : i = k * 2 + 1 := by omega
        subst this
        rw [g1] at hv
        rw [c1, hv]
      · have : i = k * 2 := by omega
        subst this
        rw [g0] at hv
        rw [c0, hv]
    · obtain ⟨i, hi, rfl⟩ := List.mem_map.1 hx
      obtain ⟨u, c, e0, e1, h⟩ := hin i (List.mem_range.1 hi)
      simp only [e1, strOfV]
      have := ba_size c.data.toList
      rw [ba_of] at this
      omega

theorem cell_int (h : Cell.okWide Try.prog w r b0 3 v) : ∃ n, v = .int .i64 n := by
  unfold Cell.okWide Cell.ok at h
  rw [Try.underlying3] at h
  cases v <;> simp_all
theorem cell_str (h : Cell.okWide Try.prog w r b0 9 v) : ∃ s, v = .string s := by
  unfold Cell.okWide Cell.ok at h
  rw [Try.underlying9] at h
  cases v <;> simp_all
theorem chunk_value (h : Value.okWide Try.prog w r b0 32 v) : ∃ (k : Int) (l : List UInt8), v = .agg #[.int .i64 k, .string (ba l)] := by
  unfold Value.okWide at h
  rw [Try.underlying32] at h
  obtain ⟨cs, rfl, hs, ts, ht, _, hc⟩ := h
  rw [cells_chunk] at hs
  rw [types_chunk] at ht
  cases ht
  obtain ⟨c0, c1, rfl⟩ := array2 hs
  obtain ⟨u0, e0, h0⟩ := hc 0 c0 rfl
  obtain ⟨u1, e1, h1⟩ := hc 1 c1 rfl
  cases e0; cases e1
  obtain ⟨k, rfl⟩ := cell_int h0
  obtain ⟨s, rfl⟩ := cell_str h1
  exact ⟨k, s.data.toList, by rw [ba_of]⟩
end
end Go.Proofs.Ytcbkggjphoeceaa
