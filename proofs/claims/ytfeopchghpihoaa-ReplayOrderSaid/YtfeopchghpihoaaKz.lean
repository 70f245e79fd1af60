/-
  What moves and steps make of rows is such as a program may have, plain.
-/
import Derived.Test.YtfeopchghpihoaaSe
import Derived.Test.YtfeopchghpihoaaHi
import Derived.Test.YtfeopchghpihoaaGa
namespace Go.Proofs.Ytfeopchghpihoaa
open Go.RowKit Go.IntWalk
open Gr
set_option maxRecDepth 100000

theorem fnd_mem {l : List Rw} {c : Int} {r : Rw} (h : fnd l c = some r) : r ∈ l := by unfold fnd at h; exact List.mem_of_find?_eq_some h
theorem sameP_refl : ∀ l : List Rw, sameP l l = true
  | [] => rfl
  | r :: l => by rw [sameP, alikeP_refl, sameP_refl l]; rfl
theorem doP_rows {l : List Rw} {m : Mv} (h : Rows_ l) (hm : rk (mw m) < 18446744073709551616 ∧ (nm (mw m)).length ≤ maxLen) : Rows_ (doP l m) := by
  unfold doP
  split
  · exact h
  · intro r hr
    rcases setP_mem hr with rfl | hr
    · exact hm
    · exact h r hr
theorem rsame_t {A1 A2 : Option Addr} {c1 c2 : Nat} {xs : List Rw} (hx : xs.length ≤ maxLen) (hwx : Rows_ xs) {w : World} (h1 : At w w.heap.size A1 (tvs xs)) (h2 : At w w.heap.size A2 (tvs xs)) :
    Calls Try.prog 14 #[.slice A1 xs.length c1, .slice A2 xs.length c2] w fun e w' => e = .returned (.bool true) ∧ Below w.heap.size w w' := by
  have := rsame_c A1 A2 c1 c2 xs xs hx hx hwx hwx w h1 h2
  rwa [sameP_refl] at this
theorem allP_rows {l : List Rw} (h : Rows_ l) : ∀ {ms : List Mv}, Moves_ ms → Rows_ (allP l ms) := fun {ms} => by
  induction ms generalizing l with
  | nil => exact fun _ => h
  | cons m t ih => exact fun hm => ih (doP_rows h (hm m List.mem_cons_self)) fun x hx => hm x (List.mem_cons_of_mem _ hx)
theorem zr_ok : rk zr < 18446744073709551616 ∧ (nm zr).length ≤ maxLen := ⟨by decide, by unfold maxLen; decide⟩
theorem stepP_ok {l : List Rw} {m : Mv} (h : Rows_ l) (hm : rk (mw m) < 18446744073709551616 ∧ (nm (mw m)).length ≤ maxLen) : rk (mw (sm (stepP l m))) < 18446744073709551616 ∧ (nm (mw (sm (stepP l m)))).length ≤ maxLen ∧ rk (so (stepP l m)) < 18446744073709551616 ∧ (nm (so (stepP l m))).length ≤ maxLen := by
  rw [stepP_move]
  refine ⟨hm.1, hm.2, ?_⟩
  unfold stepP
  split
  · exact zr_ok
  · show rk ((fnd l (ch (mw m))).getD zr) < _ ∧ (nm ((fnd l (ch (mw m))).getD zr)).length ≤ _
    cases hf : fnd l (ch (mw m)) with
    | none => exact zr_ok
    | some r => exact h r (fnd_mem hf)
theorem stepsP_ok : ∀ {l : List Rw} {ms : List Mv}, Rows_ l → Moves_ ms → Steps_ (stepsP l ms)
  | _, [], _, _ => fun s hs => by cases hs
  | l, m :: t, h, hm => fun s hs => by
    rw [stepsP] at hs
    rcases List.mem_cons.1 hs with rfl | hs
    · exact stepP_ok h (hm m List.mem_cons_self)
    · exact stepsP_ok (doP_rows h (hm m List.mem_cons_self)) (fun x hx => hm x (List.mem_cons_of_mem _ hx)) s hs
theorem dropP_rows {l : List Rw} {c : Int} (h : Rows_ l) : Rows_ (dropP l c) := fun r hr => by
  unfold dropP at hr
  split at hr
  · rcases List.mem_append.1 hr with hr | hr
    · exact h r (List.mem_of_mem_take hr)
    · exact h r (List.mem_of_mem_drop hr)
  · exact h r hr
theorem undoP_rows {l : List Rw} {s : Sp} (h : Rows_ l) (hs : rk (so s) < 18446744073709551616 ∧ (nm (so s)).length ≤ maxLen) : Rows_ (undoP l s) := by
  unfold undoP
  split
  · split
    · intro r hr
      rcases setP_mem hr with rfl | hr
      · exact hs
      · exact h r hr
    · exact dropP_rows h
  · exact h
theorem backP_rows {l : List Rw} (h : Rows_ l) : ∀ {ss : List Sp}, Steps_ ss → Rows_ (backP l ss)
  | [], _ => h
  | s :: t, hs => undoP_rows (backP_rows h (ss := t) fun x hx => hs x (List.mem_cons_of_mem _ hx)) ⟨(hs s List.mem_cons_self).2.2.1, (hs s List.mem_cons_self).2.2.2⟩
theorem rpsame_t {A1 A2 : Option Addr} {c1 c2 : Nat} {xs : List Sp} (hx : xs.length ≤ maxLen) (hwx : Steps_ xs) {w : World} (h1 : At w w.heap.size A1 (pvs xs)) (h2 : At w w.heap.size A2 (pvs xs)) :
    Calls Try.prog 19 #[.slice A1 xs.length c1, .slice A2 xs.length c2] w fun e w' => e = .returned (.bool true) ∧ Below w.heap.size w w' := by
  have := rpsame_c A1 A2 c1 c2 xs xs hx hx hwx hwx w h1 h2
  rwa [sameS_refl] at this
theorem rmsame_t {A1 A2 : Option Addr} {c1 c2 : Nat} {xs : List Mv} (hx : xs.length ≤ maxLen) (hwx : Moves_ xs) {w : World} (h1 : At w w.heap.size A1 (mvs xs)) (h2 : At w w.heap.size A2 (mvs xs)) :
    Calls Try.prog 17 #[.slice A1 xs.length c1, .slice A2 xs.length c2] w fun e w' => e = .returned (.bool true) ∧ Below w.heap.size w w' := by
  have := rmsame_c A1 A2 c1 c2 xs xs hx hx hwx hwx w h1 h2
  rwa [sameM_refl] at this
theorem steps_moves {ss : List Sp} (h : Steps_ ss) : Moves_ (ss.map sm) := fun m hm => by
  obtain ⟨s, hs, rfl⟩ := List.mem_map.1 hm
  exact ⟨(h s hs).1, (h s hs).2.1⟩
theorem allP_above {l : List Rw} {ms : List Mv} (hl : l.length + ms.length ≤ 100000) (k : Nat) (_ : k ≤ ms.length) (A : Option Addr) (cap : Nat) (a b : Int) (w : World) (hc : At w w.heap.size A (tvs (allP l (ms.take k)))) :
    Calls Try.prog 77 #[.slice A (allP l (ms.take k)).length cap, .int .i64 a, .int .i64 b] w fun e W' => e = .returned (.bool (abv (allP l (ms.take k)) a (allP l (ms.take k)).length b)) ∧ Below w.heap.size w W' :=
  above_any (by have := allP_len l (ms.take k); rw [List.length_take] at this; omega) A cap a b w hc
theorem allP_rabove {l : List Rw} {ms : List Mv} (hl : l.length + ms.length ≤ 100000) (k : Nat) (_ : k ≤ ms.length) (A : Option Addr) (cap : Nat) (a b : Int) (w : World) (hc : At w w.heap.size A (tvs (allP l (ms.take k)))) :
    Calls Try.prog 32 #[.slice A (allP l (ms.take k)).length cap, .int .i64 a, .int .i64 b] w fun e W' => e = .returned (.bool (abv (allP l (ms.take k)) a (allP l (ms.take k)).length b)) ∧ Below w.heap.size w W' :=
  rabove_c A cap _ a b (by have := allP_len l (ms.take k); rw [List.length_take] at this; unfold maxLen; omega) w hc
end Go.Proofs.Ytfeopchghpihoaa
