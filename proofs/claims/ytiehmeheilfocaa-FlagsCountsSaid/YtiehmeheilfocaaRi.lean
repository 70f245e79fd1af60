/-
  slices.Collect; Decode; the document's Decode.
-/
import Derived.Test.YtiehmeheilfocaaRh
import Derived.Test.YtiehmeheilfocaaBl
import Derived.Test.YtiehmeheilfocaaBk
import Derived.Test.YtiehmeheilfocaaBs
namespace Go.Proofs.Ytiehmeheilfocaa
open Go.RowKit Go.IntWalk
open Pk
set_option maxRecDepth 100000
attribute [local go_sem] Oper.semAt_some

/-- what Decode answers -/
def DecEnd (r : List Int × Int) (w : World) (e : Ending) (w' : World) : Prop :=
  ∃ A cap, e = .returned (.tuple #[.slice A r.1.length cap, .int .i64 r.2]) ∧ r.1.length ≤ cap ∧ Fresh w.heap.size A ∧ At w' w'.heap.size A (ivs r.1) ∧ Below w.heap.size w w'
theorem decEnd_nil {r : List Int × Int} {w w' : World} {x : Int} (h : r = ([], x)) (hb : Below w.heap.size w w') : DecEnd r w (.returned (.tuple #[.slice none 0 0, .int .i64 x])) w' := by
  subst h
  exact ⟨none, 0, rfl, Nat.le_refl _, fun a ha => (by cases ha), At.nil _ _ _, hb⟩

theorem ref_drewN' {w : World} {q : Nat} {l : List UInt8} {s : St} (h : Ref w q l s) (n : Nat) : Ref (w.drewN n) q l s := h
theorem own_only {w w' : World} {B e size n q : Nat} {v : Value} {xs : List Value} (h : w.ownsRow B e size v n xs) (ho : w.grownBy w' (some q)) (hq : q < B) : w'.ownsRow B e size v n xs :=
  h.kept ho (by
    by_cases hb : v.ownBlock = none
    · exact .inl hb
    · exact .inr fun e => by have := (h.lt q e).1; omega)
theorem at_drewN {w : World} {A : Option Addr} {xs : List Value} (h : At w w.heap.size A xs) (n : Nat) : At (w.drewN n) (w.drewN n).heap.size A xs := h
theorem ref_new {w w2 : World} {q : Nat} {l : List UInt8} {s : St} {o : Obj} {B : Nat} {e : TypeId} {size n : Nat} {v : Value} {xs : List Value} (h : Ref w q l s) (hown : w.ownsRow B e size v n xs) (hg : (w.alloc o).grownBy w2 v.ownBlock) (hq : q < B) : Ref w2 q l s := by
  obtain ⟨k, hk, hd, hr⟩ := h
  exact ⟨k, hk, hd, is_grown (is_alloc hr o) hg (fun e => by have := (hown.lt q e.symm).1; omega)⟩

end Go.Proofs.Ytiehmeheilfocaa
