/-
  Maps of nodes and where their ways end.
-/
import Derived.Test.YtnkckoilhhbllaaQe
namespace Go.Proofs.Ytnkckoilhhbllaa
open Go.RowKit Go.IntWalk Go.Maps
set_option maxRecDepth 100000

def ev (e : Int × Bool) : Value := .agg #[.int .i64 e.1, .bool e.2]
noncomputable def eD (e : Int × Bool) : DataW Unit := .agg [.lit (.int .i64 e.1), .lit (.bool e.2)]
noncomputable def RE : Value → Option (DataW Unit × List MemPlace) := fun v => match v with
  | .agg ⟨[.int .i64 n, .bool b]⟩ => some (eD (n, b), [])
  | _ => none
theorem re_mk (e : Int × Bool) : RE (ev e) = some (eD e, []) := rfl
theorem re_inv {v : Value} {e : Int × Bool} {ps : List MemPlace} (h : RE v = some (eD e, ps)) : v = ev e := by
  unfold RE at h
  split at h
  · rename_i n b
    injection h with h
    injection h with h _
    unfold eD at h
    injection h with h
    injection h with h1 h2
    injection h2 with h2 _
    injection h1 with h1
    injection h2 with h2
    injection h1 with _ h1
    injection h2 with h2
    show ev (n, b) = ev e
    rw [show (n, b) = e from Prod.ext h1 h2]
  · cases h

/-- the map tells what K tells -/
def Eok (D : DataW Unit) (K : Int → Option (Int × Bool)) : Prop := (∀ x, Maps.has D (.int .i64 x) = (K x).isSome) ∧ ∀ x v, K x = some v → D.atKey (.int .i64 x) (eD (0, false)) = eD v
def updK (K : Int → Option (Int × Bool)) (x : Int) (v : Int × Bool) : Int → Option (Int × Bool) := fun y => if y = x then some v else K y
theorem updK_on (K : Int → Option (Int × Bool)) (x : Int) (v : Int × Bool) : updK K x v x = some v := if_pos rfl
theorem updK_off (K : Int → Option (Int × Bool)) {x y : Int} (v : Int × Bool) (h : y ≠ x) : updK K x v y = K y := if_neg h
theorem eok_nil : Eok (.map []) (fun _ => none) := ⟨fun x => by simp [Maps.has], fun x v h => by cases h⟩
theorem eok_put {D : DataW Unit} {K : Int → Option (Int × Bool)} {x : Int} {v : Int × Bool} (hm : IsMap D) (h : Eok D K) : Eok (D.put (.int .i64 x) (eD v)) (updK K x v) := by
  refine ⟨fun y => ?_, fun y u hu => ?_⟩
  · by_cases e : y = x
    · subst e; rw [has_put_same hm (show WideAt.IsKeyLit (Lit.int .i64 y) from trivial), updK_on]; rfl
    · rw [has_put_other (by simpa using e), h.1, updK_off _ _ e]
  · by_cases e : y = x
    · subst e
      rw [updK_on] at hu
      cases hu
      exact atKey_put_same hm (show WideAt.IsKeyLit (Lit.int .i64 y) from trivial) _ _
    · rw [updK_off _ _ e] at hu
      rw [atKey_put_other (by simpa using e)]
      exact h.2 y u hu
theorem zero_end (w : World) : (zeroValue 100).run Try.prog w = .ok (ev (0, false)) w := by kernel_rfl
theorem look_e {w : World} {b n : Nat} {D : DataW Unit} {K : Int → Option (Int × Bool)} {x : Int} (hown : w.ownsMap Try.prog 3 RE b n D) (hK : Eok D K) (hx : In64 x) :
    (Instr.lookup 96 (.map (some b)) (.int .i64 x) true).run Try.prog w = .ok (.tuple #[ev ((K x).getD (0, false)), .bool (K x).isSome]) w := by
  obtain ⟨v, ps, hrun, hv⟩ := hown.look_ok keyed_int Try.underlying96 (zero_end w) (re_mk (0, false)) (key_int hx)
  rw [hrun, hK.1 x]
  cases hk : K x with
  | none =>
    have hn : D.atKey (.int .i64 x) (eD (0, false)) = eD (0, false) := by
      have := hK.1 x
      rw [hk] at this
      exact Maps.atKey_of_not_has this _
    rw [hn] at hv
    rw [re_inv hv]; rfl
  | some u =>
    rw [hK.2 x u hk] at hv
    rw [re_inv hv]; rfl
theorem look_e1 {w : World} {b n : Nat} {D : DataW Unit} {K : Int → Option (Int × Bool)} {x : Int} (hown : w.ownsMap Try.prog 3 RE b n D) (hK : Eok D K) (hx : In64 x) {v : Int × Bool} (hv : K x = some v) :
    (Instr.lookup 96 (.map (some b)) (.int .i64 x) false).run Try.prog w = .ok (ev v) w := by
  obtain ⟨u, ps, hrun, hu⟩ := hown.lookup keyed_int Try.underlying96 (zero_end w) (re_mk (0, false)) (key_int hx)
  rw [hK.2 x v hv] at hu
  rw [hrun, re_inv hu]
theorem put_e {w : World} {b n : Nat} {D : DataW Unit} {K : Int → Option (Int × Bool)} {x : Int} {v : Int × Bool} (hown : w.ownsMap Try.prog 3 RE b n D) (hK : Eok D K) (hn : n < 100000000) (hx : In64 x) :
    ∃ w' D', (Instr.mapUpdate 96 (.map (some b)) (.int .i64 x) (ev v)).run Try.prog w = .ok () w' ∧ w'.ownsMap Try.prog 3 RE b (n + 1) D' ∧ Eok D' (updK K x v) ∧ w.grownBy w' (some b) := by
  obtain ⟨w', hrun, hown', hg⟩ := hown.update keyed_int Try.underlying96 (by unfold maxLen; omega) (key_int hx) (re_mk v)
  exact ⟨w', _, hrun, hown', eok_put hown.isMap hK, hg⟩
end Go.Proofs.Ytnkckoilhhbllaa
