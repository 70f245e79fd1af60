/-
  What texts, and pairs and fours of numbers, that came in are, as values.
-/
import Derived.Test.YtbhejaokkkggjaaBa
import Derived.ProofKit
import Derived.OpenShut
import Derived.SliceStrings
import Derived.ChangeOld
import Derived.Lib.SmallJoins
namespace Go.Proofs.Ytbhejaokkkggjaa
open Go.ChangeShapes Go.WideShapes Go.RowKit Go.Joins
set_option maxRecDepth 100000

theorem i64_in {n : Int} (h : (Lit.int .i64 n).wf = true) : -9223372036854775808 ≤ n ∧ n ≤ 9223372036854775807 := by
  simp [Lit.wf, IntKind.min, IntKind.max, IntKind.signed, IntKind.bits] at h
  omega

section
variable {H : Type} {enc : TypeId × Value → H} {w : World} {r : Reach} {b : Nat} {v : Value} {d : DataW H} {ps : List MemPlace}
theorem txt_read {t : TypeId} (ht : Try.prog.underlying t = some .string) (hval : Value.okWide Try.prog w r b t v) (hj : DataW.Trod enc Try.prog w 0 (fun _ => true) true t v d ps) :
    ∃ l : List UInt8, v = .string (ba l) ∧ l.length ≤ maxLen := by
  obtain ⟨s, h, _, _, hs⟩ := Go.ChangeMaps.open_string ht hval hj
  refine ⟨s.data.toList, by rw [ba_of]; exact h, ?_⟩
  have := ba_size s.data.toList
  rw [ba_of] at this
  rw [← this]
  exact hs
theorem cell_u32 (h : Cell.okWide Try.prog w r b 167 v) : ∃ n : Nat, v = .int .u32 (n : Int) ∧ n < 4294967296 := by
  unfold Cell.okWide Cell.ok at h
  rw [Try.underlying167] at h
  cases v with
  | int k n =>
    obtain ⟨rfl, h1, h2⟩ := h
    have e1 : IntKind.u32.min = 0 := by decide
    have e2 : IntKind.u32.max = 4294967295 := by decide
    rw [e1] at h1; rw [e2] at h2
    exact ⟨n.toNat, by rw [Int.toNat_of_nonneg h1], by omega⟩
  | _ => simp_all
theorem cell_u8 (h : Cell.okWide Try.prog w r b 5 v) : ∃ n : UInt8, v = bc n := by
  unfold Cell.okWide Cell.ok at h
  rw [Try.underlying5] at h
  cases v with
  | int k n =>
    obtain ⟨rfl, h1, h2⟩ := h
    have e1 : IntKind.u8.min = 0 := by decide
    have e2 : IntKind.u8.max = 255 := by decide
    rw [e1] at h1; rw [e2] at h2
    refine ⟨UInt8.ofNat n.toNat, ?_⟩
    unfold bc
    rw [Pk.ofNat_toNat_lt (by omega), Int.toNat_of_nonneg h1]
  | _ => simp_all
end
end Go.Proofs.Ytbhejaokkkggjaa
