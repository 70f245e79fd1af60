/-
  Spread, the document's.
-/
import Derived.Test.YtiehmeheilfocaaQf
import Derived.Sort.LoopGhostIn
namespace Go.Proofs.Ytiehmeheilfocaa
open Go.RowKit Go.IntWalk
open Pk
set_option maxRecDepth 100000
attribute [local go_sem] Oper.semAt_some

theorem own_snocU {w : World} {base n : Nat} {v : Value} {xs : List Nat} {x : Nat} (h : w.ownsRow base 56 1 v (n + 1) (uvs xs ++ [.int .u64 (x : Int)])) : w.ownsRow base 56 1 v (n + 1) (uvs (xs ++ [x])) := by
  rw [uvs_snoc]; exact h

end Go.Proofs.Ytiehmeheilfocaa
