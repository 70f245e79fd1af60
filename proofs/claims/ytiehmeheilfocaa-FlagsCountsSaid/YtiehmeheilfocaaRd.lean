/-
  delta's Sums, the document's Sums and Deltas.
-/
import Derived.Test.YtiehmeheilfocaaRc
namespace Go.Proofs.Ytiehmeheilfocaa
open Go.RowKit
open Pk
set_option maxRecDepth 100000

theorem own_snocI {w : World} {base : Nat} {v : Value} {xs : List Int} {x : Int} (h : w.ownsRow base 3 1 v (xs.length + 1) (ivs xs ++ [.int .i64 x])) : w.ownsRow base 3 1 v (xs ++ [x]).length (ivs (xs ++ [x])) := by
  rw [List.length_append]; simpa [ivs] using h
theorem below_ownI {B : Nat} {w w1 w2 : World} {v : Value} {o : Obj} {e : TypeId} {size n : Nat} {xs : List Value} (hb : Below B w w1) (hB : B ≤ w1.heap.size) (hown : w1.ownsRow B e size v n xs) (hg : (w1.alloc o).grownBy w2 v.ownBlock) : Below B w w2 :=
  (hb.alloc hB o).grown hg (by simp; omega) (fun k hk => (hown.lt k hk).1)

theorem wrap_w64 (x : Int) : wrap64 x = w64 x := by unfold wrap64 w64; rfl
/-- a sum on the unsigned side -/
theorem usum (acc : Nat) (x : Int) : ∃ u : Nat, u < 18446744073709551616 ∧ IntKind.u64.wrap ((acc : Int) + IntKind.u64.wrap x) = (u : Int) ∧ w64 (u : Int) = w64 (w64 (acc : Int) + x) := by
  refine ⟨(((acc : Int) + x % 18446744073709551616) % 18446744073709551616).toNat, by omega, by rw [IntKind.wrap_u64, IntKind.wrap_u64]; omega, ?_⟩
  unfold w64
  omega

end Go.Proofs.Ytiehmeheilfocaa
