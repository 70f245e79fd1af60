/-
  Marks that came in: their cells.
-/
import Derived.Test.YtbhejaokkkggjaaVk
import Derived.Test.YtbhejaokkkggjaaAl
namespace Go.Proofs.Ytbhejaokkkggjaa
open Go.ChangeShapes Go.WideShapes Go.RowKit Go.Joins
open Pk
set_option maxRecDepth 100000

theorem cells_mark : Try.prog.cellsOf 70 = 2 := by kernel_rfl
section
variable {H : Type} {enc : TypeId × Value → H} {w : World} {r : Reach} {b0 : Nat} {v : Value} {d : DataW H} {ps : List MemPlace}
theorem mark_trod {base n : Nat} {spare : Nat → Bool} {held : Bool} {cs : List Value} {x : DataW H × List MemPlace} (h : DataW.trod enc Try.prog w base spare held n 70 cs = some x) :
    ∃ q : Mk, cs = kcs q := by
  obtain ⟨xs, k, _, _, hlen, hxl, hf⟩ := DataW.trod_struct Try.underlying70 h
  rw [cells_mark] at hlen
  match cs, hlen with
  | [v0, v1], _ =>
    match xs, hxl with
    | [y0, y1], _ =>
      have g0 := hf 0 _ rfl
      have g1 := hf 1 _ rfl
      simp [cells_i64] at g0 g1
      obtain ⟨a0, e0, -, -⟩ := DataW.trod_int Try.underlying3 g0
      obtain ⟨a1, e1, -, -⟩ := DataW.trod_int Try.underlying3 g1
      cases e0; cases e1
      exact ⟨(a0, a1), rfl⟩
theorem marks_in (hval : Value.okWide Try.prog w r b0 58 v) (hj : DataW.Trod enc Try.prog w 0 (fun _ => true) true 58 v d ps) :
    ∃ (A : Option Addr) (cap : Nat) (l : List Mk), v = .slice A l.length cap ∧ (A = none → cap = 0) ∧ l.length ≤ cap ∧ l.length ≤ maxLen ∧ At w w.heap.size A (kvs l) := by
  obtain ⟨a0, len, cap, rfl⟩ := okWide_slice Try.underlying58 hval
  obtain ⟨fuel, hf⟩ := hj
  rcases Go.Deep.open_slice Try.underlying58 hf with ⟨hcs, _⟩ | ⟨a, len', cap', m, n, D, Pl, hcs, hb, hl, hm, hmm, _, hx⟩
  · simp only [Value.cells, List.cons.injEq, and_true] at hcs
    injection hcs with h1 h2 h3
    subst h1 h2 h3
    exact ⟨none, 0, [], rfl, fun _ => rfl, Nat.le_refl _, Nat.zero_le _, At.nil _ _ _⟩
  · simp only [Value.cells, List.cons.injEq, and_true] at hcs
    injection hcs with h1 h2 h3
    subst h1 h2 h3
    simp only [if_true] at hmm
    subst hmm
    obtain ⟨Q, hQ⟩ := Go.Deep.choose_lt (α := Mk) (p := fun i q => w.cells? 0 (a.add (i * 2)) 2 = some (kcs q)) (fun i hi => by
      obtain ⟨cs', h1, h2⟩ := hx i hi
      rw [cells_mark] at h1
      obtain ⟨q, rfl⟩ := mark_trod h2
      exact ⟨q, h1⟩)
    refine ⟨some a, m, (List.range len).map Q, by simp, (fun h => by cases h), by simp; exact hl, by simp; omega, fun i v hv => ?_⟩
    · have hlt := (List.getElem?_eq_some_iff.1 hv).1
      rw [kvs_len, List.length_map, List.length_range] at hlt
      obtain ⟨k, hk⟩ : ∃ k, k = i / 2 := ⟨_, rfl⟩
      have hkl : k < len := by omega
      have hq : ((List.range len).map Q)[k]? = some (Q k) := by rw [List.getElem?_map, List.getElem?_range hkl]; rfl
      obtain ⟨b, off, ha, hbl, hc⟩ := at_cells (hQ k (by omega)) (hQ 0 (by omega)) (by omega)
      refine ⟨b, off, by rw [ha], hbl, ?_⟩
      have hik : i = k * 2 + (i - k * 2) := by omega
      have hd : (kvs ((List.range len).map Q))[i]? = (kcs (Q k))[i - k * 2]? := by
        have hdr : kvs (((List.range len).map Q).drop k) = kcs (Q k) ++ kvs (((List.range len).map Q).drop (k + 1)) := by
          have h1 := (List.getElem?_eq_some_iff.1 hq).1
          have h2 := (List.getElem?_eq_some_iff.1 hq).2
          rw [List.drop_eq_getElem_cons h1, h2]; rfl
        rw [kvs_drop] at hdr
        have : (kvs ((List.range len).map Q))[k * 2 + (i - k * 2)]? = (kcs (Q k) ++ kvs (((List.range len).map Q).drop (k + 1)))[i - k * 2]? := by rw [← hdr, List.getElem?_drop]
        rw [← hik] at this
        rw [this, List.getElem?_append_left (by show i - k * 2 < 2; omega)]
      rw [hd] at hv
      have := hc _ _ hv
      rw [show off + k * 2 + (i - k * 2) = off + i by omega] at this
      exact this
end
end Go.Proofs.Ytbhejaokkkggjaa
