/-
  What a row and two times that came in are, as values.
-/
import Derived.Test.YtbhejaokkkggjaaBa
import Derived.ProofKit
import Derived.Lib.SmallJoins
namespace Go.Proofs.Ytbhejaokkkggjaa
open Go.WideShapes Go.Joins
set_option maxRecDepth 100000

theorem cells_row : Try.prog.cellsOf 74 = 4 := by kernel_rfl
theorem types_row : Try.prog.cellTypes Try.prog.depth 74 = some [3, 3, 9, 36] := by kernel_rfl
section
variable {w : World} {r : Reach} {b : Nat} {v : Value}
theorem cell_int (h : Cell.okWide Try.prog w r b 3 v) : ∃ n, v = .int .i64 n := by
  unfold Cell.okWide Cell.ok at h
  rw [Try.underlying3] at h
  cases v <;> simp_all
theorem cell_str (h : Cell.okWide Try.prog w r b 9 v) : ∃ s, v = .string s := by
  unfold Cell.okWide Cell.ok at h
  rw [Try.underlying9] at h
  cases v <;> simp_all
theorem cell_f64 (h : Cell.okWide Try.prog w r b 36 v) : ∃ x, v = .float .f64 x ∧ x < 18446744073709551616 := by
  unfold Cell.okWide Cell.ok at h
  rw [Try.underlying36] at h
  cases v <;> simp_all [FloatKind.has]

theorem row_value (h : Value.okWide Try.prog w r b 74 v) :
    ∃ a p n x, v = .agg #[.int .i64 a, .int .i64 p, .string n, .float .f64 x] ∧ x < 18446744073709551616 := by
  unfold Value.okWide at h
  rw [Try.underlying74] at h
  obtain ⟨cs, rfl, hs, ts, ht, _, hc⟩ := h
  rw [cells_row] at hs
  rw [types_row] at ht
  cases ht
  obtain ⟨c0, c1, c2, c3, rfl⟩ := array4 hs
  obtain ⟨u0, e0, h0⟩ := hc 0 c0 rfl
  obtain ⟨u1, e1, h1⟩ := hc 1 c1 rfl
  obtain ⟨u2, e2, h2⟩ := hc 2 c2 rfl
  obtain ⟨u3, e3, h3⟩ := hc 3 c3 rfl
  cases e0; cases e1; cases e2; cases e3
  obtain ⟨a, rfl⟩ := cell_int h0
  obtain ⟨p, rfl⟩ := cell_int h1
  obtain ⟨n, rfl⟩ := cell_str h2
  obtain ⟨x, rfl, hx⟩ := cell_f64 h3
  exact ⟨a, p, n, x, rfl, hx⟩

end
end Go.Proofs.Ytbhejaokkkggjaa
