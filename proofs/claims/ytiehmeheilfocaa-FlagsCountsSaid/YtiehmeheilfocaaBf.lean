/-
  Contract of the Reader's fix, which leaves by a panic.
-/
import Derived.Test.YtiehmeheilfocaaBe
namespace Go.Proofs.Ytiehmeheilfocaa
open Go.RowKit
open Pk
set_option maxRecDepth 100000

theorem or8 (acc c k N : Nat) (hk : k ≤ 7) (ha : acc < 256 ^ k) (hc : c < 256) (hN : N = acc + c * 256 ^ k) :
    bits BinOp.or IntKind.u64 (acc : Int) (IntKind.u64.wrap ((c : Int) * 2 ^ (8 * k))) = (N : Int) := by
  subst hN
  have h2 : (256 : Nat) ^ k = 2 ^ (8 * k) := by rw [Nat.pow_mul]
  have hp : 256 ^ k ≤ 256 ^ 7 := Nat.pow_le_pow_right (by omega) hk
  have hcl : c * 256 ^ k < 18446744073709551616 := Nat.lt_of_le_of_lt (Nat.mul_le_mul (show c ≤ 255 by omega) hp) (by decide)
  have e : (c : Int) * 2 ^ (8 * k) = ((c * 256 ^ k : Nat) : Int) := by rw [h2]; simp
  rw [e, IntKind.wrap_u64]
  have e2 : (((c * 256 ^ k : Nat) : Int) % 18446744073709551616) = ((c * 256 ^ k : Nat) : Int) := by omega
  rw [e2, u64_or_nat _ _ (by omega) hcl, h2, or_add (by rw [← h2]; exact ha)]

theorem num8_take {l : List UInt8} {k : Nat} {b : UInt8} (h : l[k]? = some b) : num8 (l.take (k + 1)) = num8 (l.take k) + b.toNat * 256 ^ k := by
  obtain ⟨hk, rfl⟩ := List.getElem?_eq_some_iff.1 h
  rw [List.take_succ_eq_append_getElem hk, num8_snoc, List.length_take, Nat.min_eq_left (by omega)]

/-- block B holds the bytes l, as numbers -/
def BytesAt (w : World) (B : Nat) (l : List UInt8) : Prop := ∀ (j : Nat) (b : UInt8), l[j]? = some b → w.cell? ⟨B, j, none⟩ = some (.int .u8 (b.toNat : Int))
theorem bytesAt_new (w : World) (l : List UInt8) (cap : Nat) (t : TypeId) (fr : Nat × Nat) : BytesAt (w.alloc (.cells (bytesRow (ba l) cap) t fr)).drew w.heap.size l := by
  intro j b h
  obtain ⟨hj, rfl⟩ := List.getElem?_eq_some_iff.1 h
  have h1 : (w.alloc (.cells (bytesRow (ba l) cap) t fr)).drew.cell? ⟨w.heap.size, j, none⟩ = (w.alloc (.cells (bytesRow (ba l) cap) t fr)).cell? ⟨w.heap.size, j, none⟩ := rfl
  rw [h1, World.cell?_alloc_mark, bytesRow_at (ba l) cap j (by simpa [ba] using hj)]
  rfl

end Go.Proofs.Ytiehmeheilfocaa
