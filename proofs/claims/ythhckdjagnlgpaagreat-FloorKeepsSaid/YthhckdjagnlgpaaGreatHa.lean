/-
 Steps as cells.
-/
import Derived.Test.YthhckdjagnlgpaaGreatAb
import Derived.Test.YthhckdjagnlgpaaGreatTi
namespace Go.Proofs.YthhckdjagnlgpaaGreat
open Go.RowKit Go.IntWalk
set_option maxRecDepth 100000
attribute [local go_sem] Oper.semAt_some
end Go.Proofs.YthhckdjagnlgpaaGreat
