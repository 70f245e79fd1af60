/-
  Contracts of Fixed, Zig, Zag.
-/
import Derived.Test.YtiehmeheilfocaaBa
namespace Go.Proofs.Ytiehmeheilfocaa
open Go.RowKit
open Pk
set_option maxRecDepth 100000

end Go.Proofs.Ytiehmeheilfocaa
