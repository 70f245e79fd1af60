/-
 What a row and two times that came in are, as values.
 Rows and moves that came in: their cells.
 Rows and moves that come in, with their nodes in 64 bits.
 Two and three whole numbers, and a row, that came in.
-/
import Derived.Test.YtkobmnbjeppnaaaGreatBa
import Derived.ProofKit
import Derived.Lib.SmallJoins
import Derived.OpenShut
import Derived.SliceStrings
import Derived.ChangeOld
import Derived.Test.YtkobmnbjeppnaaaGreatPe
import Derived.Deep.SlicePairs
import Derived.Test.YtkobmnbjeppnaaaGreatQh
section
namespace Go.Proofs.YtkobmnbjeppnaaaGreat
open Go.WideShapes Go.Joins
set_option maxRecDepth 100000
theorem cells_row : Tryz.prog.cellsOf 28 = 4 := by kernel_rfl
section
variable {w : World} {r : Reach} {b : Nat} {v : Value}
theorem cell_int (h : Cell.okWide Tryz.prog w r b 3 v) : ∃ n, v = .int .i64 n := by
 unfold Cell.okWide Cell.ok at h
 rw [Tryz.underlying3] at h
 cases v <;> simp_all
end
end Go.Proofs.YtkobmnbjeppnaaaGreat
end
section
namespace Go.Proofs.YtkobmnbjeppnaaaGreat
open Go.ChangeShapes Go.WideShapes Go.RowKit Go.Joins
open Pk
set_option maxRecDepth 100000
theorem cells_i64 : Tryz.prog.cellsOf 3 = 1 := by kernel_rfl
theorem cells_str : Tryz.prog.cellsOf 9 = 1 := by kernel_rfl
theorem cells_f64 : Tryz.prog.cellsOf 26 = 1 := by kernel_rfl
section
variable {H : Type} {enc : TypeId × Value → H} {w : World} {r : Reach} {b0 : Nat} {v : Value} {d : DataW H} {ps : List MemPlace}
theorem trod_flt {P : Program} {base : Nat} {spare : Nat → Bool} {held : Bool} {fuel : Nat} {t : TypeId} {cs : List Value} {x : DataW H × List MemPlace} (ht : P.underlying t = some (.float .f64)) (h : DataW.trod enc P w base spare held fuel t cs = some x) :
  ∃ b, cs = [.float .f64 b] ∧ b < 18446744073709551616 := by
 cases fuel with
 | zero => simp [DataW.trod] at h
 | succ n =>
  unfold DataW.trod at h
  rw [ht] at h
  split at h
  case h_3 k k' b heq =>
   injection heq with heq
   injection heq with heq
   subst heq
   split at h
   ·rename_i hc
    obtain ⟨rfl, hw⟩ := hc
    exact ⟨b, rfl, by simpa [Lit.wf] using hw⟩
   ·cases h
  all_goals simp_all
theorem row_trod {base n : Nat} {spare : Nat → Bool} {held : Bool} {cs : List Value} {x : DataW H × List MemPlace} (h : DataW.trod enc Tryz.prog w base spare held n 28 cs = some x) :
  ∃ q : Rw, cs = rcs q ∧ rk q < 18446744073709551616 ∧ (nm q).length ≤ maxLen := by
 obtain ⟨xs, k, _, _, hlen, hxl, hf⟩ := DataW.trod_struct Tryz.underlying28 h
 rw [cells_row] at hlen
 match cs, hlen with
 | [v0, v1, v2, v3], _ =>
  match xs, hxl with
  | [y0, y1, y2, y3], _ =>
   have g0 := hf 0 _ rfl
   have g1 := hf 1 _ rfl
   have g2 := hf 2 _ rfl
   have g3 := hf 3 _ rfl
   simp [cells_i64, cells_str, cells_f64] at g0 g1 g2 g3
   obtain ⟨a0, e0, -, -⟩ := DataW.trod_int Tryz.underlying3 g0
   obtain ⟨a1, e1, -, -⟩ := DataW.trod_int Tryz.underlying3 g1
   obtain ⟨a2, e2, -, h2⟩ := DataW.trod_string Tryz.underlying9 g2
   obtain ⟨a3, e3, h3⟩ := trod_flt Tryz.underlying26 g3
   cases e0; cases e1; cases e2; cases e3
   refine ⟨(a0, a1, a2.data.toList, a3), by show _ = [_, _, Value.string (ba a2.data.toList), _]; rw [ba_of], h3, ?_⟩
   have := ba_size a2.data.toList
   rw [ba_of] at this
   show a2.data.toList.length ≤ _
   omega
theorem at_cells {w : World} {a : Addr} {k i base : Nat} {cs cs0 : List Value} (h : w.cells? base (a.add (i * k)) k = some cs) (h0 : w.cells? base (a.add (0 * k)) k = some cs0) (hk : 0 < k) : ∃ b off, a = ⟨b, off, none⟩ ∧ b < w.heap.size ∧ ∀ j v, cs[j]? = some v → w.cell? ⟨b, off + i * k + j, none⟩ = some v := by
 obtain ⟨_, hlen, hcell⟩ := World.cells?_some h
 obtain ⟨_, hlen0, hcell0⟩ := World.cells?_some h0
 obtain ⟨b, off, spot⟩ := a
 obtain ⟨v0, hv0⟩ : ∃ v, w.cell? (((⟨b, off, spot⟩ : Addr).add (0 * k)).add 0) = some v := by
  rw [hcell0 0 hk]; exact ⟨_, List.getElem?_eq_getElem (by rw [hlen0]; exact hk)⟩
 rw [Nat.zero_mul] at hv0
 have hspot : spot = none := by simpa [Addr.add] using World.cell?_spot hv0
 subst hspot
 rw [Go.WideShapes.add_plain, Go.WideShapes.add_plain] at hv0
 refine ⟨b, off, rfl, World.block_lt_of_cell? _ _ hv0, fun j v hj => ?_⟩
 have hjk : j < k := by rw [← hlen]; exact (List.getElem?_eq_some_iff.1 hj).1
 have := hcell j hjk
 rw [hj, Go.WideShapes.add_plain, Go.WideShapes.add_plain] at this
 exact this
theorem row_in (hval : Value.okWide Tryz.prog w r b0 28 v) (hj : DataW.Trod enc Tryz.prog w 0 (fun _ => true) true 28 v d ps) :
  ∃ q : Rw, v = rv q ∧ rk q < 18446744073709551616 ∧ (nm q).length ≤ maxLen := by
 unfold Value.okWide at hval
 rw [Tryz.underlying28] at hval
 obtain ⟨cs, rfl, _⟩ := hval
 obtain ⟨fuel, hf⟩ := hj
 obtain ⟨q, hq, h1, h2⟩ := row_trod hf
 refine ⟨q, ?_, h1, h2⟩
 have : cs = (rcs q).toArray := by
  have h3 : cs.toList = rcs q := hq
  rw [← h3]
 rw [this]
 rfl
end
end Go.Proofs.YtkobmnbjeppnaaaGreat
end
section
namespace Go.Proofs.YtkobmnbjeppnaaaGreat
open Go.ChangeShapes Go.WideShapes Go.RowKit Go.Joins
open Pk
set_option maxRecDepth 100000
theorem wf_in64 {x : Int} (h : (Lit.int .i64 x).wf = true) : In64 x := by
 simp [Lit.wf] at h
 exact h
section
variable {H : Type} {enc : TypeId × Value → H} {w : World} {r : Reach} {b0 : Nat} {v : Value} {d : DataW H} {ps : List MemPlace}
theorem row_trod6 {base n : Nat} {spare : Nat → Bool} {held : Bool} {cs : List Value} {x : DataW H × List MemPlace} (h : DataW.trod enc Tryz.prog w base spare held n 28 cs = some x) :
  ∃ q : Rw, cs = rcs q ∧ rk q < 18446744073709551616 ∧ (nm q).length ≤ maxLen ∧ In64 (ch q) ∧ In64 (pa q) := by
 obtain ⟨xs, k, _, _, hlen, hxl, hf⟩ := DataW.trod_struct Tryz.underlying28 h
 rw [cells_row] at hlen
 match cs, hlen with
 | [v0, v1, v2, v3], _ =>
  match xs, hxl with
  | [y0, y1, y2, y3], _ =>
   have g0 := hf 0 _ rfl
   have g1 := hf 1 _ rfl
   have g2 := hf 2 _ rfl
   have g3 := hf 3 _ rfl
   simp [cells_i64, cells_str, cells_f64] at g0 g1 g2 g3
   obtain ⟨a0, e0, -, i0⟩ := DataW.trod_int Tryz.underlying3 g0
   obtain ⟨a1, e1, -, i1⟩ := DataW.trod_int Tryz.underlying3 g1
   obtain ⟨a2, e2, -, h2⟩ := DataW.trod_string Tryz.underlying9 g2
   obtain ⟨a3, e3, h3⟩ := trod_flt Tryz.underlying26 g3
   cases e0; cases e1; cases e2; cases e3
   refine ⟨(a0, a1, a2.data.toList, a3), by show _ = [_, _, Value.string (ba a2.data.toList), _]; rw [ba_of], h3, ?_, wf_in64 i0, wf_in64 i1⟩
   have := ba_size a2.data.toList
   rw [ba_of] at this
   show a2.data.toList.length ≤ _
   omega
theorem rows_in6 (hval : Value.okWide Tryz.prog w r b0 22 v) (hj : DataW.Trod enc Tryz.prog w 0 (fun _ => true) true 22 v d ps) :
  ∃ (A : Option Addr) (cap : Nat) (l : List Rw), v = .slice A l.length cap ∧ (A = none → cap = 0) ∧ l.length ≤ cap ∧ l.length ≤ maxLen ∧ At w w.heap.size A (tvs l) ∧ Rows_ l ∧ ∀ x ∈ l, In64 (ch x) ∧ In64 (pa x) := by
 obtain ⟨a0, len, cap, rfl⟩ := okWide_slice Tryz.underlying22 hval
 obtain ⟨fuel, hf⟩ := hj
 rcases Go.Deep.open_slice Tryz.underlying22 hf with ⟨hcs, _⟩ | ⟨a, len', cap', m, n, D, Pl, hcs, hb, hl, hm, hmm, _, hx⟩
 ·simp only [Value.cells, List.cons.injEq, and_true] at hcs
  injection hcs with h1 h2 h3
  subst h1 h2 h3
  exact ⟨none, 0, [], rfl, fun _ => rfl, Nat.le_refl _, Nat.zero_le _, At.nil _ _ _, (fun x hx => by cases hx), fun x hx => by cases hx⟩
 ·simp only [Value.cells, List.cons.injEq, and_true] at hcs
  injection hcs with h1 h2 h3
  subst h1 h2 h3
  simp only [if_true] at hmm
  subst hmm
  obtain ⟨Q, hQ⟩ := Go.Deep.choose_lt (α := Rw) (p := fun i q => w.cells? 0 (a.add (i * 4)) 4 = some (rcs q) ∧ rk q < 18446744073709551616 ∧ (nm q).length ≤ maxLen ∧ In64 (ch q) ∧ In64 (pa q)) (fun i hi => by
   obtain ⟨cs', h1, h2⟩ := hx i hi
   rw [cells_row] at h1
   obtain ⟨q, rfl, h3, h4, h5, h6⟩ := row_trod6 h2
   exact ⟨q, h1, h3, h4, h5, h6⟩)
  refine ⟨some a, m, (List.range len).map Q, by simp, (fun h => by cases h), by simp; exact hl, by simp; omega, fun i v hv => ?_, fun x hx => ?_, fun x hx => ?_⟩
  ·have hlt := (List.getElem?_eq_some_iff.1 hv).1
   rw [tvs_len, List.length_map, List.length_range] at hlt
   obtain ⟨k, hk⟩ : ∃ k, k = i / 4 := ⟨_, rfl⟩
   have hkl : k < len := by omega
   have hq : ((List.range len).map Q)[k]? = some (Q k) := by rw [List.getElem?_map, List.getElem?_range hkl]; rfl
   obtain ⟨b, off, ha, hbl, hc⟩ := at_cells (hQ k (by omega)).1 (hQ 0 (by omega)).1 (by omega)
   refine ⟨b, off, by rw [ha], hbl, ?_⟩
   have hik : i = k * 4 + (i - k * 4) := by omega
   have hd : (tvs ((List.range len).map Q))[i]? = (rcs (Q k))[i - k * 4]? := by
    have hdr : tvs (((List.range len).map Q).drop k) = rcs (Q k) ++ tvs (((List.range len).map Q).drop (k + 1)) := by
     have h1 := (List.getElem?_eq_some_iff.1 hq).1
     have h2 := (List.getElem?_eq_some_iff.1 hq).2
     rw [List.drop_eq_getElem_cons h1, h2]; rfl
    rw [tvs_drop] at hdr
    have : (tvs ((List.range len).map Q))[k * 4 + (i - k * 4)]? = (rcs (Q k) ++ tvs (((List.range len).map Q).drop (k + 1)))[i - k * 4]? := by rw [← hdr, List.getElem?_drop]
    rw [← hik] at this
    rw [this, List.getElem?_append_left (by show i - k * 4 < 4; omega)]
   rw [hd] at hv
   have := hc _ _ hv
   rw [show off + k * 4 + (i - k * 4) = off + i by omega] at this
   exact this
  ·obtain ⟨i, hi, rfl⟩ := List.mem_map.1 hx
   exact ⟨(hQ i (by have := List.mem_range.1 hi; omega)).2.1, (hQ i (by have := List.mem_range.1 hi; omega)).2.2.1⟩
  ·obtain ⟨i, hi, rfl⟩ := List.mem_map.1 hx
   exact (hQ i (by have := List.mem_range.1 hi; omega)).2.2.2
end
end Go.Proofs.YtkobmnbjeppnaaaGreat
end
section
namespace Go.Proofs.YtkobmnbjeppnaaaGreat
open Go.RowKit Go.ChangeShapes Go.WideShapes Go.ChangeAt
set_option maxRecDepth 100000
variable {w : World} {r b0 : Nat} {v : Value}
theorem cells_two : Tryz.prog.cellsOf 35 = 2 := by kernel_rfl
theorem types_two : Tryz.prog.cellTypes Tryz.prog.depth 35 = some [3, 3] := by kernel_rfl
theorem two_in (h : Value.okWide Tryz.prog w .any b0 35 v) : ∃ c e : Int, v = .agg #[.int .i64 c, .int .i64 e] := by
 unfold Value.okWide at h
 rw [Tryz.underlying35] at h
 obtain ⟨cs, rfl, hs, ts, ht, _, hc⟩ := h
 rw [cells_two] at hs
 rw [types_two] at ht
 cases ht
 match cs, hs with
 | ⟨[c0, c1]⟩, _ =>
  obtain ⟨u0, e0, h0⟩ := hc 0 c0 rfl
  obtain ⟨u1, e1, h1⟩ := hc 1 c1 rfl
  cases e0; cases e1
  obtain ⟨a, rfl⟩ := cell_int h0
  obtain ⟨b, rfl⟩ := cell_int h1
  exact ⟨a, b, rfl⟩
theorem cells_three : Tryz.prog.cellsOf 44 = 3 := by kernel_rfl
theorem types_three : Tryz.prog.cellTypes Tryz.prog.depth 44 = some [3, 3, 3] := by kernel_rfl
theorem three_in (h : Value.okWide Tryz.prog w .any b0 44 v) : ∃ c e f : Int, v = .agg #[.int .i64 c, .int .i64 e, .int .i64 f] := by
 unfold Value.okWide at h
 rw [Tryz.underlying44] at h
 obtain ⟨cs, rfl, hs, ts, ht, _, hc⟩ := h
 rw [cells_three] at hs
 rw [types_three] at ht
 cases ht
 match cs, hs with
 | ⟨[c0, c1, c2]⟩, _ =>
  obtain ⟨u0, e0, h0⟩ := hc 0 c0 rfl
  obtain ⟨u1, e1, h1⟩ := hc 1 c1 rfl
  obtain ⟨u2, e2, h2⟩ := hc 2 c2 rfl
  cases e0; cases e1; cases e2
  obtain ⟨a, rfl⟩ := cell_int h0
  obtain ⟨b, rfl⟩ := cell_int h1
  obtain ⟨f2, rfl⟩ := cell_int h2
  exact ⟨a, b, f2, rfl⟩
end Go.Proofs.YtkobmnbjeppnaaaGreat
end
