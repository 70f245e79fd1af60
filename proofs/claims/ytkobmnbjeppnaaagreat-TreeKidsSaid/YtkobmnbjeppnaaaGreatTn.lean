/-
 Who is reached: the document's.
-/
import Derived.Test.YtkobmnbjeppnaaaGreatXj
namespace Go.Proofs.YtkobmnbjeppnaaaGreat
open Go.RowKit Go.IntWalk
set_option maxRecDepth 100000
attribute [local go_sem] Oper.semAt_some
/-- whole numbers that are told -/
def ToldI (o : List Int) (w : World) (e : Ending) (w' : World) : Prop :=
 ∃ A cap, e = .returned (.slice A o.length cap) ∧ At w' w'.heap.size A (ivs o) ∧ (A = none → cap = 0) ∧ o.length ≤ cap ∧ Below w.heap.size w w'
theorem own_toldI {w w' : World} {B : Nat} {l : List Int} {v : Value} (h : w'.ownsRow B 3 1 v l.length (ivs l)) (hb : Below w.heap.size w w') : ToldI l w (.returned v) w' := by
 obtain ⟨A, cap, rfl, ha, hf, hc⟩ := own_at h
 refine ⟨A, cap, rfl, ha, fun hA => ?_, hc, hb⟩
 subst hA
 rcases h.2 with ⟨hz, _⟩ | ⟨g, c2, cur, hv, _⟩
 ·exact (Value.slice.inj hz).2.2
 ·cases hv
end Go.Proofs.YtkobmnbjeppnaaaGreat
