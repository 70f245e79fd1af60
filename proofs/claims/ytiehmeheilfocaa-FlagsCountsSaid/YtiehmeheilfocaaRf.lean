/-
  Rising lists.
-/
import Derived.Test.YtiehmeheilfocaaRe
namespace Go.Proofs.Ytiehmeheilfocaa
open Go.RowKit Go.IntWalk
open Pk
set_option maxRecDepth 100000
attribute [local go_sem] Oper.semAt_some

/-- each is above the one ahead -/
def up (pre : List (Int × Int)) : Bool := pre.all fun p => decide (p.1 < p.2)
theorem up_snoc (pre : List (Int × Int)) (x : Int × Int) : up (pre ++ [x]) = (up pre && decide (x.1 < x.2)) := by simp [up]

end Go.Proofs.Ytiehmeheilfocaa
