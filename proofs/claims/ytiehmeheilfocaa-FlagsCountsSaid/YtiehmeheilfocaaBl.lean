/-
  Worlds that differ in one block.
-/
import Derived.Test.YtiehmeheilfocaaBi
import Derived.Test.YtiehmeheilfocaaBb
namespace Go.Proofs.Ytiehmeheilfocaa
open Go.RowKit
open Pk
set_option maxRecDepth 100000

theorem below_only {B g : Nat} {a w w' : World} (hb : Below B a w) (ho : w.grownBy w' (some g)) (hB : B ≤ w.heap.size) (hg : B ≤ g) : Below B a w' :=
  hb.grown ho hB (fun k hk => by injection hk with hk; omega)
theorem only_size {a w : World} {row : Option Nat} (h : a.grownBy w row) : a.heap.size ≤ w.heap.size := h.size

end Go.Proofs.Ytiehmeheilfocaa
