/-
  The document's Rising; Encode and the document's.
-/
import Derived.Test.YtiehmeheilfocaaRe
import Derived.Test.YtiehmeheilfocaaBs
import Derived.Test.YtiehmeheilfocaaBb
import Derived.Test.YtiehmeheilfocaaBc
namespace Go.Proofs.Ytiehmeheilfocaa
open Go.RowKit Go.IntWalk
open Pk
set_option maxRecDepth 100000

theorem but_cell {B b : Nat} {w w' : World} (h : But B b w w') {p : Addr} (hp : p.block < B) (hne : p.block ≠ b) : w'.cell? p = w.cell? p := World.cell?_of_block (h.block _ hp hne)

theorem ba_append (a b : List UInt8) : ba a ++ ba b = ba (a ++ b) := by
  apply ByteArray.ext
  simp [ba]
theorem add_ba (a b : List UInt8) (h : a.length + b.length ≤ 9223372036854775807) (w : World) : (Op.stringOp .add (ba a) (ba b)).run Try.prog w = .ok (.string (ba (a ++ b))) w := by
  rw [run_string_add_sum w (ba a) (ba b) (by rw [ba_size, ba_size]; exact h), ba_append]

end Go.Proofs.Ytiehmeheilfocaa
