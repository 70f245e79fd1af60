/-
  Steps that came in: their cells.
-/
import Derived.Test.YtnkckoilhhbllaaVj
import Derived.Test.YtnkckoilhhbllaaHa
namespace Go.Proofs.Ytnkckoilhhbllaa
open Go.ChangeShapes Go.WideShapes Go.RowKit Go.Joins
open Pk
set_option maxRecDepth 100000

theorem cells_bool : Try.prog.cellsOf 4 = 1 := by kernel_rfl
theorem cells_step : Try.prog.cellsOf 51 = 12 := by kernel_rfl
section
variable {H : Type} {enc : TypeId × Value → H} {w : World} {r : Reach} {b0 : Nat} {v : Value} {d : DataW H} {ps : List MemPlace}

theorem trod_bol {P : Program} {base : Nat} {spare : Nat → Bool} {held : Bool} {fuel : Nat} {t : TypeId} {cs : List Value} {x : DataW H × List MemPlace} (ht : P.underlying t = some .bool) (h : DataW.trod enc P w base spare held fuel t cs = some x) :
    ∃ b, cs = [.bool b] := by
  cases fuel with
  | zero => simp [DataW.trod] at h
  | succ n =>
    unfold DataW.trod at h
    rw [ht] at h
    split at h
    all_goals first
      | (exact ⟨_, rfl⟩)
      | simp_all
theorem step_trod {base n : Nat} {spare : Nat → Bool} {held : Bool} {cs : List Value} {x : DataW H × List MemPlace} (h : DataW.trod enc Try.prog w base spare held n 51 cs = some x) :
    ∃ q : Sp, cs = pcs q ∧ (rk (mw (sm q)) < 18446744073709551616 ∧ (nm (mw (sm q))).length ≤ maxLen ∧ rk (so q) < 18446744073709551616 ∧ (nm (so q)).length ≤ maxLen) := by
  obtain ⟨xs, k, _, _, hlen, hxl, hf⟩ := DataW.trod_struct Try.underlying51 h
  rw [cells_step] at hlen
  match cs, hlen with
  | [v0, v1, v2, v3, v4, v5, v6, v7, v8, v9, v10, v11], _ =>
    match xs, hxl with
    | [y0, y1, y2, y3], _ =>
      have g0 := hf 0 _ rfl
      have g1 := hf 1 _ rfl
      have g2 := hf 2 _ rfl
      have g3 := hf 3 _ rfl
      simp [cells_move, cells_bool, cells_row] at g0 g1 g2 g3
      obtain ⟨m, e0, h0, h1⟩ := move_trod g0
      obtain ⟨d1, e1⟩ := trod_bol Try.underlying4 g1
      obtain ⟨d2, e2⟩ := trod_bol Try.underlying4 g2
      obtain ⟨o, e3, h2, h3⟩ := row_trod g3
      cases e1; cases e2
      unfold mcs at e0
      unfold rcs at e3
      cases e0; cases e3
      exact ⟨(m, d1, d2, o), rfl, h0, h1, h2, h3⟩
theorem steps_in (hval : Value.okWide Try.prog w r b0 53 v) (hj : DataW.Trod enc Try.prog w 0 (fun _ => true) true 53 v d ps) :
    ∃ (A : Option Addr) (cap : Nat) (l : List Sp), v = .slice A l.length cap ∧ (A = none → cap = 0) ∧ l.length ≤ cap ∧ l.length ≤ maxLen ∧ At w w.heap.size A (pvs l) ∧ Steps_ l := by
  obtain ⟨a0, len, cap, rfl⟩ := okWide_slice Try.underlying53 hval
  obtain ⟨fuel, hf⟩ := hj
  rcases Go.Deep.open_slice Try.underlying53 hf with ⟨hcs, _⟩ | ⟨a, len', cap', m, n, D, Pl, hcs, hb, hl, hm, hmm, _, hx⟩
  · simp only [Value.cells, List.cons.injEq, and_true] at hcs
    injection hcs with h1 h2 h3
    subst h1 h2 h3
    exact ⟨none, 0, [], rfl, fun _ => rfl, Nat.le_refl _, Nat.zero_le _, At.nil _ _ _, fun x hx => by cases hx⟩
  · simp only [Value.cells, List.cons.injEq, and_true] at hcs
    injection hcs with h1 h2 h3
    subst h1 h2 h3
    simp only [if_true] at hmm
    subst hmm
    obtain ⟨Q, hQ⟩ := Go.Deep.choose_lt (α := Sp) (p := fun i q => w.cells? 0 (a.add (i * 12)) 12 = some (pcs q) ∧ (rk (mw (sm q)) < 18446744073709551616 ∧ (nm (mw (sm q))).length ≤ maxLen ∧ rk (so q) < 18446744073709551616 ∧ (nm (so q)).length ≤ maxLen)) (fun i hi => by
      obtain ⟨cs', h1, h2⟩ := hx i hi
      rw [cells_step] at h1
      obtain ⟨q, rfl, h3⟩ := step_trod h2
      exact ⟨q, h1, h3⟩)
    refine ⟨some a, m, (List.range len).map Q, by simp, (fun h => by cases h), by simp; exact hl, by simp; omega, fun i v hv => ?_, fun x hx => ?_⟩
    · have hlt := (List.getElem?_eq_some_iff.1 hv).1
      rw [pvs_len, List.length_map, List.length_range] at hlt
      obtain ⟨k, hk⟩ : ∃ k, k = i / 12 := ⟨_, rfl⟩
      have hkl : k < len := by omega
      have hq : ((List.range len).map Q)[k]? = some (Q k) := by rw [List.getElem?_map, List.getElem?_range hkl]; rfl
      obtain ⟨b, off, ha, hbl, hc⟩ := at_cells (hQ k (by omega)).1 (hQ 0 (by omega)).1 (by omega)
      refine ⟨b, off, by rw [ha], hbl, ?_⟩
      have hik : i = k * 12 + (i - k * 12) := by omega
      have hd : (pvs ((List.range len).map Q))[i]? = (pcs (Q k))[i - k * 12]? := by
        have hdr : pvs (((List.range len).map Q).drop k) = pcs (Q k) ++ pvs (((List.range len).map Q).drop (k + 1)) := by
          have h1 := (List.getElem?_eq_some_iff.1 hq).1
          have h2 := (List.getElem?_eq_some_iff.1 hq).2
          rw [List.drop_eq_getElem_cons h1, h2]; rfl
        rw [pvs_drop] at hdr
        have : (pvs ((List.range len).map Q))[k * 12 + (i - k * 12)]? = (pcs (Q k) ++ pvs (((List.range len).map Q).drop (k + 1)))[i - k * 12]? := by rw [← hdr, List.getElem?_drop]
        rw [← hik] at this
        rw [this, List.getElem?_append_left (by show i - k * 12 < 12; omega)]
      rw [hd] at hv
      have := hc _ _ hv
      rw [show off + k * 12 + (i - k * 12) = off + i by omega] at this
      exact this
    · obtain ⟨i, hi, rfl⟩ := List.mem_map.1 hx
      exact (hQ i (by have := List.mem_range.1 hi; omega)).2
theorem step_in (hval : Value.okWide Try.prog w r b0 51 v) (hj : DataW.Trod enc Try.prog w 0 (fun _ => true) true 51 v d ps) :
    ∃ q : Sp, v = pv q ∧ (rk (mw (sm q)) < 18446744073709551616 ∧ (nm (mw (sm q))).length ≤ maxLen ∧ rk (so q) < 18446744073709551616 ∧ (nm (so q)).length ≤ maxLen) := by
  unfold Value.okWide at hval
  rw [Try.underlying51] at hval
  obtain ⟨cs, rfl, _⟩ := hval
  obtain ⟨fuel, hf⟩ := hj
  obtain ⟨q, hq, h1⟩ := step_trod hf
  refine ⟨q, ?_, h1⟩
  have : cs = (pcs q).toArray := by
    have h3 : cs.toList = pcs q := hq
    rw [← h3]
  rw [this]
  rfl
end
end Go.Proofs.Ytnkckoilhhbllaa
