/-
  Spread, the program's.
-/
import Derived.Test.YtiehmeheilfocaaQe
namespace Go.Proofs.Ytiehmeheilfocaa
open Go.RowKit Go.IntWalk
open Pk
set_option maxRecDepth 100000
attribute [local go_sem] Oper.semAt_some

/-- a list and one value more, as the answer of a call -/
def LstEnd (l : List Nat) (t : Value) (w : World) (e : Ending) (w' : World) : Prop :=
  ∃ A cap, e = .returned (.tuple #[.slice A l.length cap, t]) ∧ l.length ≤ cap ∧ Fresh w.heap.size A ∧ At w' w'.heap.size A (uvs l) ∧ Below w.heap.size w w'
theorem lstEnd_nil {t : Value} {w w' : World} (hb : Below w.heap.size w w') : LstEnd [] t w (.returned (.tuple #[.slice none 0 0, t])) w' :=
  ⟨none, 0, rfl, Nat.le_refl _, fun a ha => (by cases ha), At.nil _ _ _, hb⟩

end Go.Proofs.Ytiehmeheilfocaa
