/-
  Two whole numbers that came in.
-/
import Derived.Test.YtihaiabkjmmmoaaVj
namespace Go.Proofs.Ytihaiabkjmmmoaa
open Go.RowKit Go.ChangeShapes Go.WideShapes Go.ChangeAt
set_option maxRecDepth 100000
variable {w : World} {r b0 : Nat} {v : Value}
theorem cells_two : Try.prog.cellsOf 63 = 2 := by kernel_rfl
theorem types_two : Try.prog.cellTypes Try.prog.depth 63 = some [3, 3] := by kernel_rfl
theorem two_in (h : Value.okWide Try.prog w .any b0 63 v) : ∃ c e : Int, v = .agg #[.int .i64 c, .int .i64 e] := by
  unfold Value.okWide at h
  rw [Try.underlying63] at h
  obtain ⟨cs, rfl, hs, ts, ht, _, hc⟩ := h
  rw [cells_two] at hs
  rw [types_two] at ht
  cases ht
  match cs, hs with
  | ⟨[c0, c1]⟩, _ =>
    obtain ⟨u0, e0, h0⟩ := hc 0 c0 rfl
    obtain ⟨u1, e1, h1⟩ := hc 1 c1 rfl
    cases e0; cases e1
    obtain ⟨a, rfl⟩ := cell_int h0
    obtain ⟨b, rfl⟩ := cell_int h1
    exact ⟨a, b, rfl⟩
end Go.Proofs.Ytihaiabkjmmmoaa
