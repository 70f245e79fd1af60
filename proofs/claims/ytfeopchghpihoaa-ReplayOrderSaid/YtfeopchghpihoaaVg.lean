/-
  What texts, and pairs and fours of numbers, that came in are, as values.
  What a row and two times that came in are, as values.
-/
import Derived.Test.YtfeopchghpihoaaBa
import Derived.ProofKit
import Derived.OpenShut
import Derived.SliceStrings
import Derived.ChangeOld
import Derived.Lib.SmallJoins
section
namespace Go.Proofs.Ytfeopchghpihoaa
open Go.ChangeShapes Go.WideShapes Go.RowKit Go.Joins
set_option maxRecDepth 100000

theorem i64_in {n : Int} (h : (Lit.int .i64 n).wf = true) : -9223372036854775808 ≤ n ∧ n ≤ 9223372036854775807 := by
  simp [Lit.wf, IntKind.min, IntKind.max, IntKind.signed, IntKind.bits] at h
  omega

section
variable {H : Type} {enc : TypeId × Value → H} {w : World} {r : Reach} {b : Nat} {v : Value} {d : DataW H} {ps : List MemPlace}
theorem txt_read {t : TypeId} (ht : Try.prog.underlying t = some .string) (hval : Value.okWide Try.prog w r b t v) (hj : DataW.Trod enc Try.prog w 0 (fun _ => true) true t v d ps) :
    ∃ l : List UInt8, v = .string (ba l) ∧ l.length ≤ maxLen := by
  obtain ⟨s, h, _, _, hs⟩ := Go.ChangeMaps.open_string ht hval hj
  refine ⟨s.data.toList, by rw [ba_of]; exact h, ?_⟩
  have := ba_size s.data.toList
  rw [ba_of] at this
  rw [← this]
  exact hs
theorem cell_u32 (h : Cell.okWide Try.prog w r b 144 v) : ∃ n : Nat, v = .int .u32 (n : Int) ∧ n < 4294967296 := by
  unfold Cell.okWide Cell.ok at h
  rw [Try.underlying144] at h
  cases v with
  | int k n =>
    obtain ⟨rfl, h1, h2⟩ := h
    have e1 : IntKind.u32.min = 0 := by decide
    have e2 : IntKind.u32.max = 4294967295 := by decide
    rw [e1] at h1; rw [e2] at h2
    exact ⟨n.toNat, by rw [Int.toNat_of_nonneg h1], by omega⟩
  | _ => simp_all
theorem cell_u8 (h : Cell.okWide Try.prog w r b 5 v) : ∃ n : UInt8, v = bc n := by
  unfold Cell.okWide Cell.ok at h
  rw [Try.underlying5] at h
  cases v with
  | int k n =>
    obtain ⟨rfl, h1, h2⟩ := h
    have e1 : IntKind.u8.min = 0 := by decide
    have e2 : IntKind.u8.max = 255 := by decide
    rw [e1] at h1; rw [e2] at h2
    refine ⟨UInt8.ofNat n.toNat, ?_⟩
    unfold bc
    rw [Pk.ofNat_toNat_lt (by omega), Int.toNat_of_nonneg h1]
  | _ => simp_all
end
end Go.Proofs.Ytfeopchghpihoaa
end

section
namespace Go.Proofs.Ytfeopchghpihoaa
open Go.WideShapes Go.Joins
set_option maxRecDepth 100000

theorem cells_row : Try.prog.cellsOf 59 = 4 := by kernel_rfl
theorem types_row : Try.prog.cellTypes Try.prog.depth 59 = some [3, 3, 9, 36] := by kernel_rfl
section
variable {w : World} {r : Reach} {b : Nat} {v : Value}
theorem cell_int (h : Cell.okWide Try.prog w r b 3 v) : ∃ n, v = .int .i64 n := by
  unfold Cell.okWide Cell.ok at h
  rw [Try.underlying3] at h
  cases v <;> simp_all
theorem cell_str (h : Cell.okWide Try.prog w r b 9 v) : ∃ s, v = .string s := by
  unfold Cell.okWide Cell.ok at h
  rw [Try.underlying9] at h
  cases v <;> simp_all
theorem cell_f64 (h : Cell.okWide Try.prog w r b 36 v) : ∃ x, v = .float .f64 x ∧ x < 18446744073709551616 := by
  unfold Cell.okWide Cell.ok at h
  rw [Try.underlying36] at h
  cases v <;> simp_all [FloatKind.has]

theorem row_value (h : Value.okWide Try.prog w r b 59 v) :
    ∃ a p n x, v = .agg #[.int .i64 a, .int .i64 p, .string n, .float .f64 x] ∧ x < 18446744073709551616 := by
  unfold Value.okWide at h
  rw [Try.underlying59] at h
  obtain ⟨cs, rfl, hs, ts, ht, _, hc⟩ := h
  rw [cells_row] at hs
  rw [types_row] at ht
  cases ht
  obtain ⟨c0, c1, c2, c3, rfl⟩ := array4 hs
  obtain ⟨u0, e0, h0⟩ := hc 0 c0 rfl
  obtain ⟨u1, e1, h1⟩ := hc 1 c1 rfl
  obtain ⟨u2, e2, h2⟩ := hc 2 c2 rfl
  obtain ⟨u3, e3, h3⟩ := hc 3 c3 rfl
  cases e0; cases e1; cases e2; cases e3
  obtain ⟨a, rfl⟩ := cell_int h0
  obtain ⟨p, rfl⟩ := cell_int h1
  obtain ⟨n, rfl⟩ := cell_str h2
  obtain ⟨x, rfl, hx⟩ := cell_f64 h3
  exact ⟨a, p, n, x, rfl, hx⟩

end
end Go.Proofs.Ytfeopchghpihoaa
end
