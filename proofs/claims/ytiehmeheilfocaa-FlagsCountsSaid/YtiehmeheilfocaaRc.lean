/-
  delta's steps: each number with the one ahead; Deltas.
-/
import Derived.Test.YtiehmeheilfocaaRb
namespace Go.Proofs.Ytiehmeheilfocaa
open Go.RowKit
open Pk
set_option maxRecDepth 100000
attribute [local go_sem] Oper.semAt_some

theorem prs_at {a : Int} {l : List Int} {k : Nat} {x : Int} (h : l[k]? = some x) : prs a (l.drop k) = (a, x) :: prs x (l.drop (k + 1)) := by
  rw [drop_at_cons h]; rfl

set_option maxHeartbeats 2000000 in
/-- the iterator: each number with the one ahead, for every loop body that keeps what lay below n₀ -/
theorem Try.info3 : (Try.prog.info? 3).map (fun i => (i.zero, i.size, i.bytes)) = some (some (.int .i64 0), 1, 8) := by kernel_rfl
def dpre (pre : List (Int × Int)) : List Int := pre.map fun p => w64 (p.2 - p.1)

end Go.Proofs.Ytiehmeheilfocaa
