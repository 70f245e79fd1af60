/-
  Moves held against each other: the program's.
-/
import Derived.Test.YtbhejaokkkggjaaUh
import Derived.Test.YtbhejaokkkggjaaTp
namespace Go.Proofs.Ytbhejaokkkggjaa
open Go.RowKit Go.IntWalk
open Wd Fl
set_option maxRecDepth 100000
attribute [local go_sem] Oper.semAt_some

def sameT : List Mv → List Mv → Bool
  | [], [] => true
  | a :: l, b :: m => isT (mc a) (mr a) b && sameT l m
  | _, _ => false
theorem sameT_len : ∀ {l m : List Mv}, l.length ≠ m.length → sameT l m = false
  | [], [], h => by simp at h
  | [], _ :: _, _ => rfl
  | _ :: _, [], _ => rfl
  | a :: l, b :: m, h => by rw [sameT, sameT_len (l := l) (m := m) (by simpa using h), Bool.and_false]
theorem sameT_step {l m : List Mv} {k : Nat} {a b : Mv} (ha : l[k]? = some a) (hb : m[k]? = some b) : sameT (l.drop k) (m.drop k) = (isT (mc a) (mr a) b && sameT (l.drop (k + 1)) (m.drop (k + 1))) := by
  have h1 := (List.getElem?_eq_some_iff.1 ha).1
  have h2 := (List.getElem?_eq_some_iff.1 ha).2
  have h3 := (List.getElem?_eq_some_iff.1 hb).1
  have h4 := (List.getElem?_eq_some_iff.1 hb).2
  rw [List.drop_eq_getElem_cons h1, List.drop_eq_getElem_cons h3, h2, h4, sameT]
theorem isT_time (a b : Mv) : isT (mc a) (mr a) b = timeEq a b := by
  unfold isT timeEq
  rw [show decide (mc b = mc a) = decide (mc a = mc b) from decide_eq_decide.2 ⟨Eq.symm, Eq.symm⟩, show decide (mr b = mr a) = decide (mr a = mr b) from decide_eq_decide.2 ⟨Eq.symm, Eq.symm⟩]
theorem sameM_parts : ∀ (a b : List Mv), sameM a b = (sameT a b && sameP (a.map mw) (b.map mw))
  | [], [] => rfl
  | [], _ :: _ => rfl
  | _ :: _, [] => rfl
  | a :: l, b :: m => by
    simp only [sameM, sameT, List.map_cons, sameP, sameM_parts l m, isT_time, alikeM]
    cases timeEq a b <;> cases alikeP (mw a) (mw b) <;> cases sameT l m <;> simp

/-- zero rows -/
theorem made_rows (n : Nat) : (madeCells (Value.agg #[.int .i64 0, .int .i64 0, .string ByteArray.empty, .float .f64 0]).cells (n * 4)).toList = tvs (List.replicate n zr) := by
  refine List.ext_getElem? fun j => ?_
  by_cases hj : j < n * 4
  · obtain ⟨k, i, hi, rfl⟩ : ∃ k i, i < 4 ∧ j = k * 4 + i := ⟨j / 4, j % 4, Nat.mod_lt _ (by omega), by omega⟩
    have hk : (List.replicate n zr)[k]? = some zr := by rw [List.getElem?_replicate, if_pos (by omega)]
    obtain ⟨h0, h1, h2, h3⟩ := tvs_at hk
    have hl : (madeCells (Value.agg #[.int .i64 0, .int .i64 0, .string ByteArray.empty, .float .f64 0]).cells (n * 4)).toList[k * 4 + i]? = some ((Value.agg #[.int .i64 0, .int .i64 0, .string ByteArray.empty, .float .f64 0]).cells[i]!) := by
      unfold madeCells
      rw [Array.getElem?_toList, Array.getElem?_map, Array.getElem?_eq_getElem (by simpa using hj)]
      have hm : (k * 4 + i) % (Value.agg #[.int .i64 0, .int .i64 0, .string ByteArray.empty, .float .f64 0]).cells.size = i := by
        show (k * 4 + i) % 4 = i
        omega
      simp only [Option.map_some, Array.getElem_range, hm]
    rw [hl]
    match i, hi with
    | 0, _ => exact h0.symm
    | 1, _ => exact h1.symm
    | 2, _ => exact h2.symm
    | 3, _ => exact h3.symm
  · rw [List.getElem?_eq_none (by rw [Array.length_toList, size_madeCells]; omega), List.getElem?_eq_none (by rw [tvs_len, List.length_replicate]; omega)]
theorem fill_step {l : List Mv} {k : Nat} {m : Mv} (h : l[k]? = some m) : ((l.take k).map mw ++ List.replicate (l.length - k) zr).set k (mw m) = (l.take (k + 1)).map mw ++ List.replicate (l.length - (k + 1)) zr := by
  have hk := (List.getElem?_eq_some_iff.1 h).1
  have e : l.length - k = (l.length - (k + 1)) + 1 := by omega
  rw [e, List.replicate_succ, List.take_add_one, h, List.set_append_right _ _ (by simp; omega)]
  simp [show k - min k l.length = 0 by omega]
theorem own_set4n {w : World} {B g cap k n : Nat} {l : List Rw} (r : Rw) (h : w.ownsRow B 74 4 (.slice (some ⟨g, 0, none⟩) n cap) n (tvs l)) (hn : n = l.length) (hk : k < n) :
    ((((w.setCell ⟨g, k * 4, none⟩ (.int .i64 (ch r))).setCell ⟨g, k * 4 + 1, none⟩ (.int .i64 (pa r))).setCell ⟨g, k * 4 + 2, none⟩ (.string (ba (nm r)))).setCell ⟨g, k * 4 + 3, none⟩ (.float .f64 (rk r))).ownsRow B 74 4 (.slice (some ⟨g, 0, none⟩) n cap) n (tvs (l.set k r)) := by
  subst hn
  exact own_set4 r h hk
theorem mrow_k (m : Mv) (w : World) :
    Calls Try.prog 91 #[.agg #[.int .i64 (mc m), .int .i64 (mr m), .int .i64 (pa (mw m)), .int .i64 (ch (mw m)), .string (ba (nm (mw m))), .float .f64 (rk (mw m))]] w fun e w' => e = .returned (.agg #[.int .i64 (ch (mw m)), .int .i64 (pa (mw m)), .string (ba (nm (mw m))), .float .f64 (rk (mw m))]) ∧ Below w.heap.size w w' := mrow_c m w

theorem Fresh_.at {l : List Rw} {w w' : World} {e : Ending} (h : Fresh_ l w e w') : ∃ A cap, e = .returned (.slice A l.length cap) ∧ At w' w'.heap.size A (tvs l) ∧ (A = none → cap = 0) ∧ l.length ≤ cap ∧ Below w.heap.size w w' := by
  obtain ⟨A, cap, rfl, hown, hb⟩ := h
  obtain ⟨A', cap', he, ha, hn, hc, _⟩ := own_toldR hown hb
  cases he
  exact ⟨A, cap, rfl, ha, hn, hc, hb⟩

end Go.Proofs.Ytbhejaokkkggjaa
