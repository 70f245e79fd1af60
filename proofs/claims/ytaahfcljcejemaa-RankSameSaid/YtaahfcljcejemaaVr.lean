/-
  What a row and two times that came in are, as values.
-/
import Derived.Test.YtaahfcljcejemaaBa
import Derived.ProofKit
import Derived.Lib.SmallJoins
namespace Go.Proofs.Ytaahfcljcejemaa
open Go.WideShapes Go.Joins

theorem cells_row : Try.prog.cellsOf 41 = 4 := by kernel_rfl
theorem types_row : Try.prog.cellTypes Try.prog.depth 41 = some [3, 3, 9, 22] := by kernel_rfl
theorem cells_times : Try.prog.cellsOf 44 = 4 := by kernel_rfl
theorem types_times : Try.prog.cellTypes Try.prog.depth 44 = some [3, 3, 3, 3] := by kernel_rfl

section
variable {w : World} {r : Reach} {b : Nat} {v : Value}
theorem cell_int (h : Cell.okWide Try.prog w r b 3 v) : ∃ n, v = .int .i64 n := by
  unfold Cell.okWide Cell.ok at h
  rw [Try.underlying3] at h
  cases v <;> simp_all
theorem cell_str (h : Cell.okWide Try.prog w r b 9 v) : ∃ s, v = .string s := by
  unfold Cell.okWide Cell.ok at h
  rw [Try.underlying9] at h
  cases v <;> simp_all
theorem cell_f64 (h : Cell.okWide Try.prog w r b 22 v) : ∃ x, v = .float .f64 x ∧ x < 18446744073709551616 := by
  unfold Cell.okWide Cell.ok at h
  rw [Try.underlying22] at h
  cases v <;> simp_all [FloatKind.has]

theorem row_value (h : Value.okWide Try.prog w r b 41 v) :
    ∃ a p n x, v = .agg #[.int .i64 a, .int .i64 p, .string n, .float .f64 x] ∧ x < 18446744073709551616 := by
  unfold Value.okWide at h
  rw [Try.underlying41] at h
  obtain ⟨cs, rfl, hs, ts, ht, _, hc⟩ := h
  rw [cells_row] at hs
  rw [types_row] at ht
  cases ht
  obtain ⟨c0, c1, c2, c3, rfl⟩ := array4 hs
  obtain ⟨u0, e0, h0⟩ := hc 0 c0 rfl
  obtain ⟨u1, e1, h1⟩ := hc 1 c1 rfl
  obtain ⟨u2, e2, h2⟩ := hc 2 c2 rfl
  obtain ⟨u3, e3, h3⟩ := hc 3 c3 rfl
  cases e0; cases e1; cases e2; cases e3
  obtain ⟨a, rfl⟩ := cell_int h0
  obtain ⟨p, rfl⟩ := cell_int h1
  obtain ⟨n, rfl⟩ := cell_str h2
  obtain ⟨x, rfl, hx⟩ := cell_f64 h3
  exact ⟨a, p, n, x, rfl, hx⟩

theorem times_value (h : Value.okWide Try.prog w r b 44 v) :
    ∃ c1 r1 c2 r2, v = .agg #[.int .i64 c1, .int .i64 r1, .int .i64 c2, .int .i64 r2] := by
  unfold Value.okWide at h
  rw [Try.underlying44] at h
  obtain ⟨cs, rfl, hs, ts, ht, _, hc⟩ := h
  rw [cells_times] at hs
  rw [types_times] at ht
  cases ht
  obtain ⟨c0, c1, c2, c3, rfl⟩ := array4 hs
  obtain ⟨u0, e0, h0⟩ := hc 0 c0 rfl
  obtain ⟨u1, e1, h1⟩ := hc 1 c1 rfl
  obtain ⟨u2, e2, h2⟩ := hc 2 c2 rfl
  obtain ⟨u3, e3, h3⟩ := hc 3 c3 rfl
  cases e0; cases e1; cases e2; cases e3
  obtain ⟨a, rfl⟩ := cell_int h0
  obtain ⟨p, rfl⟩ := cell_int h1
  obtain ⟨n, rfl⟩ := cell_int h2
  obtain ⟨x, rfl⟩ := cell_int h3
  exact ⟨a, p, n, x, rfl⟩
end
end Go.Proofs.Ytaahfcljcejemaa
