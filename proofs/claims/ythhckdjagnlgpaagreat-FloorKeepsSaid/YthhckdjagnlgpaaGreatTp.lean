/-
 Kids in their order: plain; and what three appends of rows in one region ask.
-/
import Derived.Test.YthhckdjagnlgpaaGreatAh
import Derived.Test.YthhckdjagnlgpaaGreatNm
namespace Go.Proofs.YthhckdjagnlgpaaGreat
open Go.RowKit Go.IntWalk
open Fl
set_option maxRecDepth 100000
theorem is_kept {w1 w2 : World} {g : Nat} {t : TypeId} {xs : List Value} {row : Option Nat} (h : Is w1 g t xs) (hg : w1.grownBy w2 row) (hne : some g ≠ row) : Is w2 g t xs :=
 (hg.block g (is_lt h) hne).trans h
end Go.Proofs.YthhckdjagnlgpaaGreat
