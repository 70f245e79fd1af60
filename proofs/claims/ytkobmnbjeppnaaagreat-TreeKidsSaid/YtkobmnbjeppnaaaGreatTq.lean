/-
 Kids in their order: the document's.
-/
import Derived.Test.YtkobmnbjeppnaaaGreatXj
namespace Go.Proofs.YtkobmnbjeppnaaaGreat
open Go.RowKit Go.IntWalk
open Fl
set_option maxRecDepth 100000
attribute [local go_sem] Oper.semAt_some
theorem both_keep {A1 A2 : Option Addr} {l o : List Rw} {w w1 w2 : World} (h : At w1 w1.heap.size A1 (tvs l) ∧ At w1 w1.heap.size A2 (tvs o) ∧ Below w.heap.size w w1) (hb : Below w1.heap.size w1 w2) : At w2 w2.heap.size A1 (tvs l) ∧ At w2 w2.heap.size A2 (tvs o) ∧ Below w.heap.size w w2 :=
 ⟨h.1.keep hb, h.2.1.keep hb, h.2.2.trans (hb.mono h.2.2.size)⟩
end Go.Proofs.YtkobmnbjeppnaaaGreat
