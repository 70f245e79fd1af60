/-
 A map of whole numbers that says true of each key; a map of the call's own stays.
-/
import Derived.Test.YtkobmnbjeppnaaaGreatQa
import Derived.Maps.OwnSet
namespace Go.Proofs.YtkobmnbjeppnaaaGreat
open Go.RowKit Go.IntWalk Go.Maps
set_option maxRecDepth 100000
noncomputable abbrev RB : Value → Option (DataW Unit × List MemPlace) := plainElem Tryz.prog 4
theorem rb_true : RB (.bool true) = some (.lit (.bool true), []) := plainElem_bool Tryz.underlying4 true
theorem rb_false : RB (.bool false) = some (.lit (.bool false), []) := plainElem_bool Tryz.underlying4 false
/-- the map has the keys S, and says true of each -/
def Bok (D : DataW Unit) (S : List Int) : Prop := Kok D S ∧ ∀ x ∈ S, ∀ u, D.atKey (.int .i64 x) u = .lit (.bool true)
theorem bok_nil : Bok (.map []) [] := ⟨kok_nil, fun x hx => by cases hx⟩
theorem Bok.same {D : DataW Unit} {S S' : List Int} (h : Bok D S) (hs : ∀ x, x ∈ S ↔ x ∈ S') : Bok D S' :=
 ⟨fun x => by rw [h.1 x]; exact decide_eq_decide.2 (hs x), fun x hx => h.2 x ((hs x).2 hx)⟩
theorem bok_put {D : DataW Unit} {S : List Int} {x : Int} (hm : IsMap D) (h : Bok D S) : Bok (D.put (.int .i64 x) (.lit (.bool true))) (S ++ [x]) := by
 refine ⟨kok_put hm h.1, fun y hy u => ?_⟩
 by_cases e : y = x
 ·subst e
  exact atKey_put_same hm (show WideAt.IsKeyLit (Lit.int .i64 y) from trivial) _ _
 ·rw [atKey_put_other (by simpa using e)]
  rcases List.mem_append.1 hy with hy | hy
  ·exact h.2 y hy u
  ·simp at hy; exact absurd hy e
theorem put_b {w : World} {b n : Nat} {D : DataW Unit} {S : List Int} {x : Int} (hown : w.ownsMap Tryz.prog 3 RB b n D) (hS : Bok D S) (hn : n < 100000) (hx : In64 x) :
  ∃ w' D', (Instr.mapUpdate 47 (.map (some b)) (.int .i64 x) (.bool true)).run Tryz.prog w = .ok () w' ∧ w'.ownsMap Tryz.prog 3 RB b (n + 1) D' ∧ Bok D' (S ++ [x]) ∧ w.grownBy w' (some b) := by
 obtain ⟨w', hrun, hown', hg⟩ := hown.update keyed_int Tryz.underlying47 (by unfold maxLen; omega) (key_int hx) rb_true
 exact ⟨w', _, hrun, hown', bok_put hown.isMap hS, hg⟩
theorem zero_bool (w : World) : (zeroValue 4).run Tryz.prog w = .ok (.bool false) w := by kernel_rfl
theorem rb_inv {v : Value} {c : Bool} {ps : List MemPlace} (h : RB v = some (.lit (.bool c), ps)) : v = .bool c := by
 have hu := Tryz.underlying4
 unfold RB plainElem at h
 rw [hu] at h
 split at h
 all_goals first
  | (simp at h; done)
  | (simp at h; obtain ⟨rfl, -⟩ := h; rfl)
  | (simp at h; simp_all; done)
theorem look_b {w : World} {b n : Nat} {D : DataW Unit} {S : List Int} {x : Int} (hown : w.ownsMap Tryz.prog 3 RB b n D) (hS : Bok D S) (hx : In64 x) (hm : x ∈ S) :
  (Instr.lookup 47 (.map (some b)) (.int .i64 x) false).run Tryz.prog w = .ok (.bool true) w := by
 obtain ⟨v, ps, hrun, hv⟩ := hown.lookup keyed_int Tryz.underlying47 (zero_bool w) rb_false (key_int hx)
 rw [hS.2 x hm] at hv
 rw [hrun, rb_inv hv]
theorem look_n {w : World} {b n : Nat} {D : DataW Unit} {S : List Int} {x : Int} (hown : w.ownsMap Tryz.prog 3 RB b n D) (hS : Bok D S) (hx : In64 x) (hm : x ∉ S) :
  (Instr.lookup 47 (.map (some b)) (.int .i64 x) false).run Tryz.prog w = .ok (.bool false) w := by
 obtain ⟨v, ps, hrun, hv⟩ := hown.lookup keyed_int Tryz.underlying47 (zero_bool w) rb_false (key_int hx)
 have hn : D.atKey (.int .i64 x) (.lit (.bool false)) = .lit (.bool false) := Maps.atKey_of_not_has (by rw [hS.1 x]; simpa using hm) _
 rw [hn] at hv
 rw [hrun, rb_inv hv]
theorem map_below {w w' : World} {b n : Nat} {D : DataW Unit} (h : w.ownsMap Tryz.prog 3 RB b n D) (hb : Below w.heap.size w w') : w'.ownsMap Tryz.prog 3 RB b n D :=
 h.kept (row := none) ⟨hb.os, hb.tape, hb.output, hb.size, fun k hk _ => hb.block k hk⟩ (by simp)
end Go.Proofs.YtkobmnbjeppnaaaGreat
