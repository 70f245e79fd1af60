/-
  Rows and moves that came in: their cells.
  Whole numbers that came in: their cells.
-/
import Derived.Test.YtfeopchghpihoaaVg
import Derived.Test.YtfeopchghpihoaaUe
import Derived.Deep.SlicePairs
import Derived.Deep.Grids
section
namespace Go.Proofs.Ytfeopchghpihoaa
open Go.ChangeShapes Go.WideShapes Go.RowKit Go.Joins
open Pk
set_option maxRecDepth 100000

theorem cells_i64 : Try.prog.cellsOf 3 = 1 := by kernel_rfl
theorem cells_str : Try.prog.cellsOf 9 = 1 := by kernel_rfl
theorem cells_f64 : Try.prog.cellsOf 36 = 1 := by kernel_rfl
theorem cells_move : Try.prog.cellsOf 38 = 6 := by kernel_rfl
theorem cells_time : Try.prog.cellsOf 35 = 2 := by kernel_rfl

section
variable {H : Type} {enc : TypeId × Value → H} {w : World} {r : Reach} {b0 : Nat} {v : Value} {d : DataW H} {ps : List MemPlace}

theorem trod_flt {P : Program} {base : Nat} {spare : Nat → Bool} {held : Bool} {fuel : Nat} {t : TypeId} {cs : List Value} {x : DataW H × List MemPlace} (ht : P.underlying t = some (.float .f64)) (h : DataW.trod enc P w base spare held fuel t cs = some x) :
    ∃ b, cs = [.float .f64 b] ∧ b < 18446744073709551616 := by
  cases fuel with
  | zero => simp [DataW.trod] at h
  | succ n =>
    unfold DataW.trod at h
    rw [ht] at h
    split at h
    case h_3 k k' b heq =>
      injection heq with heq
      injection heq with heq
      subst heq
      split at h
      · rename_i hc
        obtain ⟨rfl, hw⟩ := hc
        exact ⟨b, rfl, by simpa [Lit.wf] using hw⟩
      · cases h
    all_goals simp_all
theorem row_trod {base n : Nat} {spare : Nat → Bool} {held : Bool} {cs : List Value} {x : DataW H × List MemPlace} (h : DataW.trod enc Try.prog w base spare held n 59 cs = some x) :
    ∃ q : Rw, cs = rcs q ∧ rk q < 18446744073709551616 ∧ (nm q).length ≤ maxLen := by
  obtain ⟨xs, k, _, _, hlen, hxl, hf⟩ := DataW.trod_struct Try.underlying59 h
  rw [cells_row] at hlen
  match cs, hlen with
  | [v0, v1, v2, v3], _ =>
    match xs, hxl with
    | [y0, y1, y2, y3], _ =>
      have g0 := hf 0 _ rfl
      have g1 := hf 1 _ rfl
      have g2 := hf 2 _ rfl
      have g3 := hf 3 _ rfl
      simp [cells_i64, cells_str, cells_f64] at g0 g1 g2 g3
      obtain ⟨a0, e0, -, -⟩ := DataW.trod_int Try.underlying3 g0
      obtain ⟨a1, e1, -, -⟩ := DataW.trod_int Try.underlying3 g1
      obtain ⟨a2, e2, -, h2⟩ := DataW.trod_string Try.underlying9 g2
      obtain ⟨a3, e3, h3⟩ := trod_flt Try.underlying36 g3
      cases e0; cases e1; cases e2; cases e3
      refine ⟨(a0, a1, a2.data.toList, a3), by show _ = [_, _, Value.string (ba a2.data.toList), _]; rw [ba_of], h3, ?_⟩
      have := ba_size a2.data.toList
      rw [ba_of] at this
      show a2.data.toList.length ≤ _
      omega
theorem move_trod {base n : Nat} {spare : Nat → Bool} {held : Bool} {cs : List Value} {x : DataW H × List MemPlace} (h : DataW.trod enc Try.prog w base spare held n 38 cs = some x) :
    ∃ q : Mv, cs = mcs q ∧ rk (mw q) < 18446744073709551616 ∧ (nm (mw q)).length ≤ maxLen := by
  obtain ⟨xs, k, _, _, hlen, hxl, hf⟩ := DataW.trod_struct Try.underlying38 h
  rw [cells_move] at hlen
  match cs, hlen with
  | [v0, v1, v2, v3, v4, v5], _ =>
    match xs, hxl with
    | [y0, y1, y2, y3, y4], _ =>
      have g0 := hf 0 _ rfl
      have g1 := hf 1 _ rfl
      have g2 := hf 2 _ rfl
      have g3 := hf 3 _ rfl
      have g4 := hf 4 _ rfl
      simp [cells_i64, cells_str, cells_f64, cells_time] at g0 g1 g2 g3 g4
      obtain ⟨zs, k', _, _, _, hzl, hg⟩ := DataW.trod_struct Try.underlying35 g0
      match zs, hzl with
      | [z0, z1], _ =>
        have f0 := hg 0 _ rfl
        have f1 := hg 1 _ rfl
        simp [cells_i64] at f0 f1
        obtain ⟨b0, d0, -, -⟩ := DataW.trod_int Try.underlying3 f0
        obtain ⟨b1, d1, -, -⟩ := DataW.trod_int Try.underlying3 f1
        obtain ⟨a0, e0, -, -⟩ := DataW.trod_int Try.underlying3 g1
        obtain ⟨a1, e1, -, -⟩ := DataW.trod_int Try.underlying3 g2
        obtain ⟨a2, e2, -, h2⟩ := DataW.trod_string Try.underlying9 g3
        obtain ⟨a3, e3, h3⟩ := trod_flt Try.underlying36 g4
        cases d0; cases d1; cases e0; cases e1; cases e2; cases e3
        refine ⟨(b0, b1, a1, a0, a2.data.toList, a3), by show _ = [_, _, _, _, Value.string (ba a2.data.toList), _]; rw [ba_of], h3, ?_⟩
        have := ba_size a2.data.toList
        rw [ba_of] at this
        show a2.data.toList.length ≤ _
        omega
theorem at_cells {w : World} {a : Addr} {k i base : Nat} {cs cs0 : List Value} (h : w.cells? base (a.add (i * k)) k = some cs) (h0 : w.cells? base (a.add (0 * k)) k = some cs0) (hk : 0 < k) : ∃ b off, a = ⟨b, off, none⟩ ∧ b < w.heap.size ∧ ∀ j v, cs[j]? = some v → w.cell? ⟨b, off + i * k + j, none⟩ = some v := by
  obtain ⟨_, hlen, hcell⟩ := World.cells?_some h
  obtain ⟨_, hlen0, hcell0⟩ := World.cells?_some h0
  obtain ⟨b, off, spot⟩ := a
  obtain ⟨v0, hv0⟩ : ∃ v, w.cell? (((⟨b, off, spot⟩ : Addr).add (0 * k)).add 0) = some v := by
    rw [hcell0 0 hk]; exact ⟨_, List.getElem?_eq_getElem (by rw [hlen0]; exact hk)⟩
  rw [Nat.zero_mul] at hv0
  have hspot : spot = none := by simpa [Addr.add] using World.cell?_spot hv0
  subst hspot
  rw [Go.WideShapes.add_plain, Go.WideShapes.add_plain] at hv0
  refine ⟨b, off, rfl, World.block_lt_of_cell? _ _ hv0, fun j v hj => ?_⟩
  have hjk : j < k := by rw [← hlen]; exact (List.getElem?_eq_some_iff.1 hj).1
  have := hcell j hjk
  rw [hj, Go.WideShapes.add_plain, Go.WideShapes.add_plain] at this
  exact this

theorem rows_in (hval : Value.okWide Try.prog w r b0 22 v) (hj : DataW.Trod enc Try.prog w 0 (fun _ => true) true 22 v d ps) :
    ∃ (A : Option Addr) (cap : Nat) (l : List Rw), v = .slice A l.length cap ∧ (A = none → cap = 0) ∧ l.length ≤ cap ∧ l.length ≤ maxLen ∧ At w w.heap.size A (tvs l) ∧ Rows_ l := by
  obtain ⟨a0, len, cap, rfl⟩ := okWide_slice Try.underlying22 hval
  obtain ⟨fuel, hf⟩ := hj
  rcases Go.Deep.open_slice Try.underlying22 hf with ⟨hcs, _⟩ | ⟨a, len', cap', m, n, D, Pl, hcs, hb, hl, hm, hmm, _, hx⟩
  · simp only [Value.cells, List.cons.injEq, and_true] at hcs
    injection hcs with h1 h2 h3
    subst h1 h2 h3
    exact ⟨none, 0, [], rfl, fun _ => rfl, Nat.le_refl _, Nat.zero_le _, At.nil _ _ _, fun x hx => by cases hx⟩
  · simp only [Value.cells, List.cons.injEq, and_true] at hcs
    injection hcs with h1 h2 h3
    subst h1 h2 h3
    simp only [if_true] at hmm
    subst hmm
    obtain ⟨Q, hQ⟩ := Go.Deep.choose_lt (α := Rw) (p := fun i q => w.cells? 0 (a.add (i * 4)) 4 = some (rcs q) ∧ rk q < 18446744073709551616 ∧ (nm q).length ≤ maxLen) (fun i hi => by
      obtain ⟨cs', h1, h2⟩ := hx i hi
      rw [cells_row] at h1
      obtain ⟨q, rfl, h3, h4⟩ := row_trod h2
      exact ⟨q, h1, h3, h4⟩)
    refine ⟨some a, m, (List.range len).map Q, by simp, (fun h => by cases h), by simp; exact hl, by simp; omega, fun i v hv => ?_, fun x hx => ?_⟩
    · have hlt := (List.getElem?_eq_some_iff.1 hv).1
      rw [tvs_len, List.length_map, List.length_range] at hlt
      obtain ⟨k, hk⟩ : ∃ k, k = i / 4 := ⟨_, rfl⟩
      have hkl : k < len := by omega
      have hq : ((List.range len).map Q)[k]? = some (Q k) := by rw [List.getElem?_map, List.getElem?_range hkl]; rfl
      obtain ⟨b, off, ha, hbl, hc⟩ := at_cells (hQ k (by omega)).1 (hQ 0 (by omega)).1 (by omega)
      refine ⟨b, off, by rw [ha], hbl, ?_⟩
      have hik : i = k * 4 + (i - k * 4) := by omega
      have hd : (tvs ((List.range len).map Q))[i]? = (rcs (Q k))[i - k * 4]? := by
        have hdr : tvs (((List.range len).map Q).drop k) = rcs (Q k) ++ tvs (((List.range len).map Q).drop (k + 1)) := by
          have h1 := (List.getElem?_eq_some_iff.1 hq).1
          have h2 := (List.getElem?_eq_some_iff.1 hq).2
          rw [List.drop_eq_getElem_cons h1, h2]; rfl
        rw [tvs_drop] at hdr
        have : (tvs ((List.range len).map Q))[k * 4 + (i - k * 4)]? = (rcs (Q k) ++ tvs (((List.range len).map Q).drop (k + 1)))[i - k * 4]? := by rw [← hdr, List.getElem?_drop]
        rw [← hik] at this
        rw [this, List.getElem?_append_left (by show i - k * 4 < 4; omega)]
      rw [hd] at hv
      have := hc _ _ hv
      rw [show off + k * 4 + (i - k * 4) = off + i by omega] at this
      exact this
    · obtain ⟨i, hi, rfl⟩ := List.mem_map.1 hx
      exact (hQ i (by have := List.mem_range.1 hi; omega)).2

theorem moves_in (hval : Value.okWide Try.prog w r b0 23 v) (hj : DataW.Trod enc Try.prog w 0 (fun _ => true) true 23 v d ps) :
    ∃ (A : Option Addr) (cap : Nat) (l : List Mv), v = .slice A l.length cap ∧ (A = none → cap = 0) ∧ l.length ≤ cap ∧ l.length ≤ maxLen ∧ At w w.heap.size A (mvs l) ∧ Moves_ l := by
  obtain ⟨a0, len, cap, rfl⟩ := okWide_slice Try.underlying23 hval
  obtain ⟨fuel, hf⟩ := hj
  rcases Go.Deep.open_slice Try.underlying23 hf with ⟨hcs, _⟩ | ⟨a, len', cap', m, n, D, Pl, hcs, hb, hl, hm, hmm, _, hx⟩
  · simp only [Value.cells, List.cons.injEq, and_true] at hcs
    injection hcs with h1 h2 h3
    subst h1 h2 h3
    exact ⟨none, 0, [], rfl, fun _ => rfl, Nat.le_refl _, Nat.zero_le _, At.nil _ _ _, fun x hx => by cases hx⟩
  · simp only [Value.cells, List.cons.injEq, and_true] at hcs
    injection hcs with h1 h2 h3
    subst h1 h2 h3
    simp only [if_true] at hmm
    subst hmm
    obtain ⟨Q, hQ⟩ := Go.Deep.choose_lt (α := Mv) (p := fun i q => w.cells? 0 (a.add (i * 6)) 6 = some (mcs q) ∧ rk (mw q) < 18446744073709551616 ∧ (nm (mw q)).length ≤ maxLen) (fun i hi => by
      obtain ⟨cs', h1, h2⟩ := hx i hi
      rw [cells_move] at h1
      obtain ⟨q, rfl, h3, h4⟩ := move_trod h2
      exact ⟨q, h1, h3, h4⟩)
    refine ⟨some a, m, (List.range len).map Q, by simp, (fun h => by cases h), by simp; exact hl, by simp; omega, fun i v hv => ?_, fun x hx => ?_⟩
    · have hlt := (List.getElem?_eq_some_iff.1 hv).1
      rw [mvs_len, List.length_map, List.length_range] at hlt
      obtain ⟨k, hk⟩ : ∃ k, k = i / 6 := ⟨_, rfl⟩
      have hkl : k < len := by omega
      have hq : ((List.range len).map Q)[k]? = some (Q k) := by rw [List.getElem?_map, List.getElem?_range hkl]; rfl
      obtain ⟨b, off, ha, hbl, hc⟩ := at_cells (hQ k (by omega)).1 (hQ 0 (by omega)).1 (by omega)
      refine ⟨b, off, by rw [ha], hbl, ?_⟩
      have hik : i = k * 6 + (i - k * 6) := by omega
      have hd : (mvs ((List.range len).map Q))[i]? = (mcs (Q k))[i - k * 6]? := by
        have hdr : mvs (((List.range len).map Q).drop k) = mcs (Q k) ++ mvs (((List.range len).map Q).drop (k + 1)) := by
          have h1 := (List.getElem?_eq_some_iff.1 hq).1
          have h2 := (List.getElem?_eq_some_iff.1 hq).2
          rw [List.drop_eq_getElem_cons h1, h2]; rfl
        rw [mvs_drop] at hdr
        have : (mvs ((List.range len).map Q))[k * 6 + (i - k * 6)]? = (mcs (Q k) ++ mvs (((List.range len).map Q).drop (k + 1)))[i - k * 6]? := by rw [← hdr, List.getElem?_drop]
        rw [← hik] at this
        rw [this, List.getElem?_append_left (by show i - k * 6 < 6; omega)]
      rw [hd] at hv
      have := hc _ _ hv
      rw [show off + k * 6 + (i - k * 6) = off + i by omega] at this
      exact this
    · obtain ⟨i, hi, rfl⟩ := List.mem_map.1 hx
      exact (hQ i (by have := List.mem_range.1 hi; omega)).2
theorem move_in (hval : Value.okWide Try.prog w r b0 38 v) (hj : DataW.Trod enc Try.prog w 0 (fun _ => true) true 38 v d ps) :
    ∃ q : Mv, v = mv q ∧ rk (mw q) < 18446744073709551616 ∧ (nm (mw q)).length ≤ maxLen := by
  unfold Value.okWide at hval
  rw [Try.underlying38] at hval
  obtain ⟨cs, rfl, _⟩ := hval
  obtain ⟨fuel, hf⟩ := hj
  obtain ⟨q, hq, h1, h2⟩ := move_trod hf
  refine ⟨q, ?_, h1, h2⟩
  have : cs = (mcs q).toArray := by
    have h3 : cs.toList = mcs q := hq
    rw [← h3]
  rw [this]
  rfl
theorem row_in (hval : Value.okWide Try.prog w r b0 59 v) (hj : DataW.Trod enc Try.prog w 0 (fun _ => true) true 59 v d ps) :
    ∃ q : Rw, v = rv q ∧ rk q < 18446744073709551616 ∧ (nm q).length ≤ maxLen := by
  unfold Value.okWide at hval
  rw [Try.underlying59] at hval
  obtain ⟨cs, rfl, _⟩ := hval
  obtain ⟨fuel, hf⟩ := hj
  obtain ⟨q, hq, h1, h2⟩ := row_trod hf
  refine ⟨q, ?_, h1, h2⟩
  have : cs = (rcs q).toArray := by
    have h3 : cs.toList = rcs q := hq
    rw [← h3]
  rw [this]
  rfl
theorem time_in (hval : Value.okWide Try.prog w r b0 35 v) (hj : DataW.Trod enc Try.prog w 0 (fun _ => true) true 35 v d ps) :
    ∃ c e : Int, v = .agg #[.int .i64 c, .int .i64 e] := by
  unfold Value.okWide at hval
  rw [Try.underlying35] at hval
  obtain ⟨cs, rfl, _⟩ := hval
  obtain ⟨fuel, hf⟩ := hj
  obtain ⟨zs, k', _, _, hl, hzl, hg⟩ := DataW.trod_struct Try.underlying35 hf
  rw [cells_time] at hl
  match cs, hl with
  | ⟨[v0, v1]⟩, _ =>
    match zs, hzl with
    | [z0, z1], _ =>
      have f0 := hg 0 _ rfl
      have f1 := hg 1 _ rfl
      simp [cells_i64, Value.cells] at f0 f1
      obtain ⟨b0, d0, -, -⟩ := DataW.trod_int Try.underlying3 f0
      obtain ⟨b1, d1, -, -⟩ := DataW.trod_int Try.underlying3 f1
      cases d0; cases d1
      exact ⟨b0, b1, rfl⟩
end
end Go.Proofs.Ytfeopchghpihoaa
end

section
namespace Go.Proofs.Ytfeopchghpihoaa
open Go.ChangeShapes Go.WideShapes Go.RowKit
open Pk
set_option maxRecDepth 100000
section
variable {H : Type} {enc : TypeId × Value → H} {w : World} {r : Reach} {b0 : Nat} {v : Value} {d : DataW H} {ps : List MemPlace}

theorem ints_in (hval : Value.okWide Try.prog w r b0 47 v) (hj : DataW.Trod enc Try.prog w 0 (fun _ => true) true 47 v d ps) :
    ∃ (A : Option Addr) (cap : Nat) (xs : List Int), v = .slice A xs.length cap ∧ (A = none → cap = 0) ∧ xs.length ≤ cap ∧ xs.length ≤ maxLen ∧ At w w.heap.size A (ivs xs) := by
  obtain ⟨a0, len, cap, rfl⟩ := okWide_slice Try.underlying47 hval
  obtain ⟨fuel, hf⟩ := hj
  rcases Go.Deep.open_slice1 Try.underlying47 cells_i64 hf with ⟨hcs, _⟩ | ⟨a, len', cap', m, n, V, D, Pl, hcs, hb, hl, hm, hmm, _, hx⟩
  · simp only [Value.cells, List.cons.injEq, and_true] at hcs
    injection hcs with h1 h2 h3
    subst h1 h2 h3
    exact ⟨none, 0, [], rfl, fun _ => rfl, Nat.le_refl _, Nat.zero_le _, At.nil _ _ _⟩
  · simp only [Value.cells, List.cons.injEq, and_true] at hcs
    injection hcs with h1 h2 h3
    subst h1 h2 h3
    simp only [if_true] at hmm
    subst hmm
    obtain ⟨B, hB⟩ := Go.Deep.choose_lt (α := Int) (p := fun i b => V i = .int .i64 b) (fun i hi => by
      obtain ⟨b, h1, _⟩ := DataW.trod_int Try.underlying3 (hx i hi).2
      exact ⟨b, by simpa using h1⟩)
    refine ⟨some a, m, (List.range len).map B, by simp, (fun h => by cases h), by simp; exact hl, by simp; omega, fun i v hv => ?_⟩
    have hi : i < len := by
      have := (List.getElem?_eq_some_iff.1 hv).1
      simpa [ivs] using this
    have h00 := (hx 0 (by omega)).1
    have hci := (hx i (by omega)).1
    rw [hB i (by omega)] at hci
    obtain ⟨b, off, spot⟩ := a
    have hspot : spot = none := by simpa [Addr.add] using World.cell?_spot h00
    subst hspot
    rw [Go.WideShapes.add_plain] at hci
    refine ⟨b, off, rfl, World.block_lt_of_cell? _ _ hci, ?_⟩
    have : v = .int .i64 (B i) := by
      rw [show (ivs ((List.range len).map B))[i]? = some (.int .i64 (B i)) by simp [ivs, hi]] at hv
      exact (Option.some.inj hv).symm
    rw [this]
    exact hci
end
end Go.Proofs.Ytfeopchghpihoaa
end
