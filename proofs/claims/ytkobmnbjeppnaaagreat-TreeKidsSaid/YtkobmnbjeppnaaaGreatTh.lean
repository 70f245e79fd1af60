/-
 A row that is dropped: the document's.
-/
import Derived.Test.YtkobmnbjeppnaaaGreatTg
namespace Go.Proofs.YtkobmnbjeppnaaaGreat
open Go.RowKit Go.IntWalk
set_option maxRecDepth 100000
attribute [local go_sem] Oper.semAt_some
/-- rows that are told: they lie somewhere below the heap's end -/
def Told_ (l : List Rw) (w : World) (e : Ending) (w' : World) : Prop :=
 ∃ A cap, e = .returned (.slice A l.length cap) ∧ At w' w'.heap.size A (tvs l) ∧ (A = none → cap = 0) ∧ l.length ≤ cap ∧ Below w.heap.size w w'
theorem own_toldR {w w' : World} {B : Nat} {l : List Rw} {v : Value} (h : w'.ownsRow B 28 4 v l.length (tvs l)) (hb : Below w.heap.size w w') : Told_ l w (.returned v) w' := by
 obtain ⟨A, cap, rfl, ha, hf, hc⟩ := own_at h
 refine ⟨A, cap, rfl, ha, fun hA => ?_, hc, hb⟩
 subst hA
 rcases h.2 with ⟨hz, _⟩ | ⟨g, c2, cur, hv, _⟩
 ·exact (Value.slice.inj hz).2.2
 ·cases hv
theorem rplace_k {A : Option Addr} {cap : Nat} {l : List Rw} {c : Int} (x : Int) (hx : plc l c = x) (hl : l.length ≤ maxLen) {w : World} (hc : At w w.heap.size A (tvs l)) :
  Calls Tryz.prog 38 #[.slice A l.length cap, .int .i64 c] w fun e w' => e = .returned (.int .i64 x) ∧ Below w.heap.size w w' := by
 subst hx
 exact rplace_b A cap l c hl w hc
theorem made0 (B : Nat) (W : World) (h : B ≤ W.heap.size) : (W.alloc (.cells #[] 28)).ownsRow B 28 4 (.slice (some ⟨W.heap.size, 0, none⟩) 0 0) 0 (tvs []) :=
 World.ownsRow_made (base := B) (e := 28) (size := 4) W #[] 0 h (by unfold maxLen; omega) rfl
end Go.Proofs.YtkobmnbjeppnaaaGreat
