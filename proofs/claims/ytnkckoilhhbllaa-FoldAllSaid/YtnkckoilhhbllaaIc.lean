/-
  Rows and moves that come in, with their nodes in 64 bits.
-/
import Derived.Test.YtnkckoilhhbllaaVj
import Derived.Test.YtnkckoilhhbllaaQc
namespace Go.Proofs.Ytnkckoilhhbllaa
open Go.ChangeShapes Go.WideShapes Go.RowKit Go.Joins
open Pk
set_option maxRecDepth 100000

theorem wf_in64 {x : Int} (h : (Lit.int .i64 x).wf = true) : In64 x := by
  simp [Lit.wf] at h
  exact h
section
variable {H : Type} {enc : TypeId × Value → H} {w : World} {r : Reach} {b0 : Nat} {v : Value} {d : DataW H} {ps : List MemPlace}
theorem row_trod6 {base n : Nat} {spare : Nat → Bool} {held : Bool} {cs : List Value} {x : DataW H × List MemPlace} (h : DataW.trod enc Try.prog w base spare held n 43 cs = some x) :
    ∃ q : Rw, cs = rcs q ∧ rk q < 18446744073709551616 ∧ (nm q).length ≤ maxLen ∧ In64 (ch q) ∧ In64 (pa q) := by
  obtain ⟨xs, k, _, _, hlen, hxl, hf⟩ := DataW.trod_struct Try.underlying43 h
  rw [cells_row] at hlen
  match cs, hlen with
  | [v0, v1, v2, v3], _ =>
    match xs, hxl with
    | [y0, y1, y2, y3], _ =>
      have g0 := hf 0 _ rfl
      have g1 := hf 1 _ rfl
      have g2 := hf 2 _ rfl
      have g3 := hf 3 _ rfl
      simp [cells_i64, cells_str, cells_f64] at g0 g1 g2 g3
      obtain ⟨a0, e0, -, i0⟩ := DataW.trod_int Try.underlying3 g0
      obtain ⟨a1, e1, -, i1⟩ := DataW.trod_int Try.underlying3 g1
      obtain ⟨a2, e2, -, h2⟩ := DataW.trod_string Try.underlying9 g2
      obtain ⟨a3, e3, h3⟩ := trod_flt Try.underlying25 g3
      cases e0; cases e1; cases e2; cases e3
      refine ⟨(a0, a1, a2.data.toList, a3), by show _ = [_, _, Value.string (ba a2.data.toList), _]; rw [ba_of], h3, ?_, wf_in64 i0, wf_in64 i1⟩
      have := ba_size a2.data.toList
      rw [ba_of] at this
      show a2.data.toList.length ≤ _
      omega
theorem move_trod6 {base n : Nat} {spare : Nat → Bool} {held : Bool} {cs : List Value} {x : DataW H × List MemPlace} (h : DataW.trod enc Try.prog w base spare held n 27 cs = some x) :
    ∃ q : Mv, cs = mcs q ∧ rk (mw q) < 18446744073709551616 ∧ (nm (mw q)).length ≤ maxLen ∧ In64 (ch (mw q)) ∧ In64 (pa (mw q)) := by
  obtain ⟨xs, k, _, _, hlen, hxl, hf⟩ := DataW.trod_struct Try.underlying27 h
  rw [cells_move] at hlen
  match cs, hlen with
  | [v0, v1, v2, v3, v4, v5], _ =>
    match xs, hxl with
    | [y0, y1, y2, y3, y4], _ =>
      have g0 := hf 0 _ rfl
      have g1 := hf 1 _ rfl
      have g2 := hf 2 _ rfl
      have g3 := hf 3 _ rfl
      have g4 := hf 4 _ rfl
      simp [cells_i64, cells_str, cells_f64, cells_time] at g0 g1 g2 g3 g4
      obtain ⟨zs, k', _, _, _, hzl, hg⟩ := DataW.trod_struct Try.underlying24 g0
      match zs, hzl with
      | [z0, z1], _ =>
        have f0 := hg 0 _ rfl
        have f1 := hg 1 _ rfl
        simp [cells_i64] at f0 f1
        obtain ⟨b0, d0, -, -⟩ := DataW.trod_int Try.underlying3 f0
        obtain ⟨b1, d1, -, -⟩ := DataW.trod_int Try.underlying3 f1
        obtain ⟨a0, e0, -, i0⟩ := DataW.trod_int Try.underlying3 g1
        obtain ⟨a1, e1, -, i1⟩ := DataW.trod_int Try.underlying3 g2
        obtain ⟨a2, e2, -, h2⟩ := DataW.trod_string Try.underlying9 g3
        obtain ⟨a3, e3, h3⟩ := trod_flt Try.underlying25 g4
        cases d0; cases d1; cases e0; cases e1; cases e2; cases e3
        refine ⟨(b0, b1, a1, a0, a2.data.toList, a3), by show _ = [_, _, _, _, Value.string (ba a2.data.toList), _]; rw [ba_of], h3, ?_, wf_in64 i1, wf_in64 i0⟩
        have := ba_size a2.data.toList
        rw [ba_of] at this
        show a2.data.toList.length ≤ _
        omega
theorem rows_in6 (hval : Value.okWide Try.prog w r b0 22 v) (hj : DataW.Trod enc Try.prog w 0 (fun _ => true) true 22 v d ps) :
    ∃ (A : Option Addr) (cap : Nat) (l : List Rw), v = .slice A l.length cap ∧ (A = none → cap = 0) ∧ l.length ≤ cap ∧ l.length ≤ maxLen ∧ At w w.heap.size A (tvs l) ∧ Rows_ l ∧ ∀ x ∈ l, In64 (ch x) ∧ In64 (pa x) := by
  obtain ⟨a0, len, cap, rfl⟩ := okWide_slice Try.underlying22 hval
  obtain ⟨fuel, hf⟩ := hj
  rcases Go.Deep.open_slice Try.underlying22 hf with ⟨hcs, _⟩ | ⟨a, len', cap', m, n, D, Pl, hcs, hb, hl, hm, hmm, _, hx⟩
  · simp only [Value.cells, List.cons.injEq, and_true] at hcs
    injection hcs with h1 h2 h3
    subst h1 h2 h3
    exact ⟨none, 0, [], rfl, fun _ => rfl, Nat.le_refl _, Nat.zero_le _, At.nil _ _ _, (fun x hx => by cases hx), fun x hx => by cases hx⟩
  · simp only [Value.cells, List.cons.injEq, and_true] at hcs
    injection hcs with h1 h2 h3
    subst h1 h2 h3
    simp only [if_true] at hmm
    subst hmm
    obtain ⟨Q, hQ⟩ := Go.Deep.choose_lt (α := Rw) (p := fun i q => w.cells? 0 (a.add (i * 4)) 4 = some (rcs q) ∧ rk q < 18446744073709551616 ∧ (nm q).length ≤ maxLen ∧ In64 (ch q) ∧ In64 (pa q)) (fun i hi => by
      obtain ⟨cs', h1, h2⟩ := hx i hi
      rw [cells_row] at h1
      obtain ⟨q, rfl, h3, h4, h5, h6⟩ := row_trod6 h2
      exact ⟨q, h1, h3, h4, h5, h6⟩)
    refine ⟨some a, m, (List.range len).map Q, by simp, (fun h => by cases h), by simp; exact hl, by simp; omega, fun i v hv => ?_, fun x hx => ?_, fun x hx => ?_⟩
    · have hlt := (List.getElem?_eq_some_iff.1 hv).1
      rw [tvs_len, List.length_map, List.length_range] at hlt
      obtain ⟨k, hk⟩ : ∃ k, k = i / 4 := ⟨_, rfl⟩
      have hkl : k < len := by omega
      have hq : ((List.range len).map Q)[k]? = some (Q k) := by rw [List.getElem?_map, List.getElem?_range hkl]; rfl
      obtain ⟨b, off, ha, hbl, hc⟩ := at_cells (hQ k (by omega)).1 (hQ 0 (by omega)).1 (by omega)
      refine ⟨b, off, by rw [ha], hbl, ?_⟩
      have hik : i = k * 4 + (i - k * 4) := by omega
      have hd : (tvs ((List.range len).map Q))[i]? = (rcs (Q k))[i - k * 4]? := by
        have hdr : tvs (((List.range len).map Q).drop k) = rcs (Q k) ++ tvs (((List.range len).map Q).drop (k + 1)) := by
          have h1 := (List.getElem?_eq_some_iff.1 hq).1
          have h2 := (List.getElem?_eq_some_iff.1 hq).2
          rw [List.drop_eq_getElem_cons h1, h2]; rfl
        rw [tvs_drop] at hdr
        have : (tvs ((List.range len).map Q))[k * 4 + (i - k * 4)]? = (rcs (Q k) ++ tvs (((List.range len).map Q).drop (k + 1)))[i - k * 4]? := by rw [← hdr, List.getElem?_drop]
        rw [← hik] at this
        rw [this, List.getElem?_append_left (by show i - k * 4 < 4; omega)]
      rw [hd] at hv
      have := hc _ _ hv
      rw [show off + k * 4 + (i - k * 4) = off + i by omega] at this
      exact this
    · obtain ⟨i, hi, rfl⟩ := List.mem_map.1 hx
      exact ⟨(hQ i (by have := List.mem_range.1 hi; omega)).2.1, (hQ i (by have := List.mem_range.1 hi; omega)).2.2.1⟩
    · obtain ⟨i, hi, rfl⟩ := List.mem_map.1 hx
      exact (hQ i (by have := List.mem_range.1 hi; omega)).2.2.2
theorem moves_in6 (hval : Value.okWide Try.prog w r b0 34 v) (hj : DataW.Trod enc Try.prog w 0 (fun _ => true) true 34 v d ps) :
    ∃ (A : Option Addr) (cap : Nat) (l : List Mv), v = .slice A l.length cap ∧ (A = none → cap = 0) ∧ l.length ≤ cap ∧ l.length ≤ maxLen ∧ At w w.heap.size A (mvs l) ∧ Moves_ l ∧ ∀ x ∈ l, In64 (ch (mw x)) ∧ In64 (pa (mw x)) := by
  obtain ⟨a0, len, cap, rfl⟩ := okWide_slice Try.underlying34 hval
  obtain ⟨fuel, hf⟩ := hj
  rcases Go.Deep.open_slice Try.underlying34 hf with ⟨hcs, _⟩ | ⟨a, len', cap', m, n, D, Pl, hcs, hb, hl, hm, hmm, _, hx⟩
  · simp only [Value.cells, List.cons.injEq, and_true] at hcs
    injection hcs with h1 h2 h3
    subst h1 h2 h3
    exact ⟨none, 0, [], rfl, fun _ => rfl, Nat.le_refl _, Nat.zero_le _, At.nil _ _ _, (fun x hx => by cases hx), fun x hx => by cases hx⟩
  · simp only [Value.cells, List.cons.injEq, and_true] at hcs
    injection hcs with h1 h2 h3
    subst h1 h2 h3
    simp only [if_true] at hmm
    subst hmm
    obtain ⟨Q, hQ⟩ := Go.Deep.choose_lt (α := Mv) (p := fun i q => w.cells? 0 (a.add (i * 6)) 6 = some (mcs q) ∧ rk (mw q) < 18446744073709551616 ∧ (nm (mw q)).length ≤ maxLen ∧ In64 (ch (mw q)) ∧ In64 (pa (mw q))) (fun i hi => by
      obtain ⟨cs', h1, h2⟩ := hx i hi
      rw [cells_move] at h1
      obtain ⟨q, rfl, h3, h4, h5, h6⟩ := move_trod6 h2
      exact ⟨q, h1, h3, h4, h5, h6⟩)
    refine ⟨some a, m, (List.range len).map Q, by simp, (fun h => by cases h), by simp; exact hl, by simp; omega, fun i v hv => ?_, fun x hx => ?_, fun x hx => ?_⟩
    · have hlt := (List.getElem?_eq_some_iff.1 hv).1
      rw [mvs_len, List.length_map, List.length_range] at hlt
      obtain ⟨k, hk⟩ : ∃ k, k = i / 6 := ⟨_, rfl⟩
      have hkl : k < len := by omega
      have hq : ((List.range len).map Q)[k]? = some (Q k) := by rw [List.getElem?_map, List.getElem?_range hkl]; rfl
      obtain ⟨b, off, ha, hbl, hc⟩ := at_cells (hQ k (by omega)).1 (hQ 0 (by omega)).1 (by omega)
      refine ⟨b, off, by rw [ha], hbl, ?_⟩
      have hik : i = k * 6 + (i - k * 6) := by omega
      have hd : (mvs ((List.range len).map Q))[i]? = (mcs (Q k))[i - k * 6]? := by
        have hdr : mvs (((List.range len).map Q).drop k) = mcs (Q k) ++ mvs (((List.range len).map Q).drop (k + 1)) := by
          have h1 := (List.getElem?_eq_some_iff.1 hq).1
          have h2 := (List.getElem?_eq_some_iff.1 hq).2
          rw [List.drop_eq_getElem_cons h1, h2]; rfl
        rw [mvs_drop] at hdr
        have : (mvs ((List.range len).map Q))[k * 6 + (i - k * 6)]? = (mcs (Q k) ++ mvs (((List.range len).map Q).drop (k + 1)))[i - k * 6]? := by rw [← hdr, List.getElem?_drop]
        rw [← hik] at this
        rw [this, List.getElem?_append_left (by show i - k * 6 < 6; omega)]
      rw [hd] at hv
      have := hc _ _ hv
      rw [show off + k * 6 + (i - k * 6) = off + i by omega] at this
      exact this
    · obtain ⟨i, hi, rfl⟩ := List.mem_map.1 hx
      exact ⟨(hQ i (by have := List.mem_range.1 hi; omega)).2.1, (hQ i (by have := List.mem_range.1 hi; omega)).2.2.1⟩
    · obtain ⟨i, hi, rfl⟩ := List.mem_map.1 hx
      exact (hQ i (by have := List.mem_range.1 hi; omega)).2.2.2
theorem nodes64 {l : List Rw} {ms : List Mv} (h1 : ∀ x ∈ l, In64 (ch x) ∧ In64 (pa x)) (h2 : ∀ x ∈ ms, In64 (ch (mw x)) ∧ In64 (pa (mw x))) : ∀ x ∈ namR l ++ namM ms, In64 x := fun x hx => by
  rcases List.mem_append.1 hx with hx | hx
  · unfold namR at hx
    obtain ⟨r, hr, hx⟩ := List.mem_flatMap.1 hx
    simp at hx
    rcases hx with rfl | rfl
    · exact (h1 r hr).1
    · exact (h1 r hr).2
  · unfold namM at hx
    obtain ⟨r, hr, hx⟩ := List.mem_flatMap.1 hx
    simp at hx
    rcases hx with rfl | rfl
    · exact (h2 r hr).1
    · exact (h2 r hr).2
end
end Go.Proofs.Ytnkckoilhhbllaa
