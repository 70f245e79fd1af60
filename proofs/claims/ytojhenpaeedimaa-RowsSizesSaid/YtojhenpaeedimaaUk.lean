/-
 Rows of whole numbers; a node's way up: the document's.
 Moves held against each other: the program's.
-/
import Derived.Test.YtojhenpaeedimaaUg
import Derived.Test.YtojhenpaeedimaaUh
import Derived.Deep.RegionHeldLaw
import Derived.Test.YtojhenpaeedimaaTc
section
namespace Go.Proofs.Ytojhenpaeedimaa
open Go.RowKit Go.IntWalk
set_option maxRecDepth 100000
attribute [local go_sem] Oper.semAt_some
theorem Try.info3 : (Try.prog.info? 3).map (fun i => (i.zero, i.size, i.bytes)) = some (some (.int .i64 0), 1, 8) := by kernel_rfl
theorem below_ownI {w1 w2 : World} {B size n : Nat} {e : TypeId} {v : Value} {xs : List Value} (h : w1.ownsRow B e size v n xs) (hb : Below w1.heap.size w1 w2) : w2.ownsRow B e size v n xs := by
 refine ⟨h.1, ?_⟩
 rcases h.2 with h2 | ⟨g, cap, cur, hv, hg, hh, r⟩
 ·exact .inl h2
 ·exact .inr ⟨g, cap, cur, hv, hg, by rw [hb.block g (Array.getElem?_eq_some_iff.1 hh).1]; exact hh, r⟩
end Go.Proofs.Ytojhenpaeedimaa
end
section
namespace Go.Proofs.Ytojhenpaeedimaa
open Go.RowKit Go.IntWalk
open Wd Fl
set_option maxRecDepth 100000
attribute [local go_sem] Oper.semAt_some
end Go.Proofs.Ytojhenpaeedimaa
end
