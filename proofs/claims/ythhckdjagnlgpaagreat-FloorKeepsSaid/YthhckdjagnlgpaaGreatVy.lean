/-
 What a row and two times that came in are, as values.
 Rows and moves that came in: their cells.
 Marks that came in: their cells.
 Maps of whole numbers, and their keys in order; whole numbers put among others, once.
 Maps of whole numbers to bools: the keys that were put, each with true.
 Replicas: what they are made of, where they lie, whether they may be; added to, pruned, merged: plain.
 Replicas that came in: their cells.
-/
import Derived.Test.YthhckdjagnlgpaaGreatBa
import Derived.ProofKit
import Derived.Lib.SmallJoins
import Derived.OpenShut
import Derived.SliceStrings
import Derived.ChangeOld
import Derived.Test.YthhckdjagnlgpaaGreatAl
import Derived.Deep.SlicePairs
import Derived.Deep.Grids
import Derived.Test.YthhckdjagnlgpaaGreatAh
import Derived.Shelf.SlIterI.Nil
import Derived.Maps.OwnIn
import Derived.Test.YthhckdjagnlgpaaGreatGb
import Derived.Maps.OwnSet
import Derived.Test.YthhckdjagnlgpaaGreatHj
import Derived.Test.YthhckdjagnlgpaaGreatHc
import Derived.Test.YthhckdjagnlgpaaGreatAi
section
namespace Go.Proofs.YthhckdjagnlgpaaGreat
open Go.WideShapes Go.Joins
set_option maxRecDepth 100000
theorem cells_row : Tryz.prog.cellsOf 28 = 4 := by kernel_rfl
section
variable {w : World} {r : Reach} {b : Nat} {v : Value}
end
end Go.Proofs.YthhckdjagnlgpaaGreat
end
section
namespace Go.Proofs.YthhckdjagnlgpaaGreat
open Go.ChangeShapes Go.WideShapes Go.RowKit Go.Joins
open Pk
set_option maxRecDepth 100000
theorem cells_i64 : Tryz.prog.cellsOf 3 = 1 := by kernel_rfl
theorem cells_str : Tryz.prog.cellsOf 9 = 1 := by kernel_rfl
theorem cells_f64 : Tryz.prog.cellsOf 26 = 1 := by kernel_rfl
theorem cells_move : Tryz.prog.cellsOf 57 = 6 := by kernel_rfl
theorem cells_time : Tryz.prog.cellsOf 51 = 2 := by kernel_rfl
section
variable {H : Type} {enc : TypeId × Value → H} {w : World} {r : Reach} {b0 : Nat} {v : Value} {d : DataW H} {ps : List MemPlace}
theorem trod_flt {P : Program} {base : Nat} {spare : Nat → Bool} {held : Bool} {fuel : Nat} {t : TypeId} {cs : List Value} {x : DataW H × List MemPlace} (ht : P.underlying t = some (.float .f64)) (h : DataW.trod enc P w base spare held fuel t cs = some x) :
  ∃ b, cs = [.float .f64 b] ∧ b < 18446744073709551616 := by
 cases fuel with
 | zero => simp [DataW.trod] at h
 | succ n =>
  unfold DataW.trod at h
  rw [ht] at h
  split at h
  case h_3 k k' b heq =>
   injection heq with heq
   injection heq with heq
   subst heq
   split at h
   ·rename_i hc
    obtain ⟨rfl, hw⟩ := hc
    exact ⟨b, rfl, by simpa [Lit.wf] using hw⟩
   ·cases h
  all_goals simp_all
theorem row_trod {base n : Nat} {spare : Nat → Bool} {held : Bool} {cs : List Value} {x : DataW H × List MemPlace} (h : DataW.trod enc Tryz.prog w base spare held n 28 cs = some x) :
  ∃ q : Rw, cs = rcs q ∧ rk q < 18446744073709551616 ∧ (nm q).length ≤ maxLen := by
 obtain ⟨xs, k, _, _, hlen, hxl, hf⟩ := DataW.trod_struct Tryz.underlying28 h
 rw [cells_row] at hlen
 match cs, hlen with
 | [v0, v1, v2, v3], _ =>
  match xs, hxl with
  | [y0, y1, y2, y3], _ =>
   have g0 := hf 0 _ rfl
   have g1 := hf 1 _ rfl
   have g2 := hf 2 _ rfl
   have g3 := hf 3 _ rfl
   simp [cells_i64, cells_str, cells_f64] at g0 g1 g2 g3
   obtain ⟨a0, e0, -, -⟩ := DataW.trod_int Tryz.underlying3 g0
   obtain ⟨a1, e1, -, -⟩ := DataW.trod_int Tryz.underlying3 g1
   obtain ⟨a2, e2, -, h2⟩ := DataW.trod_string Tryz.underlying9 g2
   obtain ⟨a3, e3, h3⟩ := trod_flt Tryz.underlying26 g3
   cases e0; cases e1; cases e2; cases e3
   refine ⟨(a0, a1, a2.data.toList, a3), by show _ = [_, _, Value.string (ba a2.data.toList), _]; rw [ba_of], h3, ?_⟩
   have := ba_size a2.data.toList
   rw [ba_of] at this
   show a2.data.toList.length ≤ _
   omega
theorem move_trod {base n : Nat} {spare : Nat → Bool} {held : Bool} {cs : List Value} {x : DataW H × List MemPlace} (h : DataW.trod enc Tryz.prog w base spare held n 57 cs = some x) :
  ∃ q : Mv, cs = mcs q ∧ rk (mw q) < 18446744073709551616 ∧ (nm (mw q)).length ≤ maxLen := by
 obtain ⟨xs, k, _, _, hlen, hxl, hf⟩ := DataW.trod_struct Tryz.underlying57 h
 rw [cells_move] at hlen
 match cs, hlen with
 | [v0, v1, v2, v3, v4, v5], _ =>
  match xs, hxl with
  | [y0, y1, y2, y3, y4], _ =>
   have g0 := hf 0 _ rfl
   have g1 := hf 1 _ rfl
   have g2 := hf 2 _ rfl
   have g3 := hf 3 _ rfl
   have g4 := hf 4 _ rfl
   simp [cells_i64, cells_str, cells_f64, cells_time] at g0 g1 g2 g3 g4
   obtain ⟨zs, k', _, _, _, hzl, hg⟩ := DataW.trod_struct Tryz.underlying51 g0
   match zs, hzl with
   | [z0, z1], _ =>
    have f0 := hg 0 _ rfl
    have f1 := hg 1 _ rfl
    simp [cells_i64] at f0 f1
    obtain ⟨b0, d0, -, -⟩ := DataW.trod_int Tryz.underlying3 f0
    obtain ⟨b1, d1, -, -⟩ := DataW.trod_int Tryz.underlying3 f1
    obtain ⟨a0, e0, -, -⟩ := DataW.trod_int Tryz.underlying3 g1
    obtain ⟨a1, e1, -, -⟩ := DataW.trod_int Tryz.underlying3 g2
    obtain ⟨a2, e2, -, h2⟩ := DataW.trod_string Tryz.underlying9 g3
    obtain ⟨a3, e3, h3⟩ := trod_flt Tryz.underlying26 g4
    cases d0; cases d1; cases e0; cases e1; cases e2; cases e3
    refine ⟨(b0, b1, a1, a0, a2.data.toList, a3), by show _ = [_, _, _, _, Value.string (ba a2.data.toList), _]; rw [ba_of], h3, ?_⟩
    have := ba_size a2.data.toList
    rw [ba_of] at this
    show a2.data.toList.length ≤ _
    omega
theorem at_cells {w : World} {a : Addr} {k i base : Nat} {cs cs0 : List Value} (h : w.cells? base (a.add (i * k)) k = some cs) (h0 : w.cells? base (a.add (0 * k)) k = some cs0) (hk : 0 < k) : ∃ b off, a = ⟨b, off, none⟩ ∧ b < w.heap.size ∧ ∀ j v, cs[j]? = some v → w.cell? ⟨b, off + i * k + j, none⟩ = some v := by
 obtain ⟨_, hlen, hcell⟩ := World.cells?_some h
 obtain ⟨_, hlen0, hcell0⟩ := World.cells?_some h0
 obtain ⟨b, off, spot⟩ := a
 obtain ⟨v0, hv0⟩ : ∃ v, w.cell? (((⟨b, off, spot⟩ : Addr).add (0 * k)).add 0) = some v := by
  rw [hcell0 0 hk]; exact ⟨_, List.getElem?_eq_getElem (by rw [hlen0]; exact hk)⟩
 rw [Nat.zero_mul] at hv0
 have hspot : spot = none := by simpa [Addr.add] using World.cell?_spot hv0
 subst hspot
 rw [Go.WideShapes.add_plain, Go.WideShapes.add_plain] at hv0
 refine ⟨b, off, rfl, World.block_lt_of_cell? _ _ hv0, fun j v hj => ?_⟩
 have hjk : j < k := by rw [← hlen]; exact (List.getElem?_eq_some_iff.1 hj).1
 have := hcell j hjk
 rw [hj, Go.WideShapes.add_plain, Go.WideShapes.add_plain] at this
 exact this
theorem rows_in (hval : Value.okWide Tryz.prog w r b0 22 v) (hj : DataW.Trod enc Tryz.prog w 0 (fun _ => true) true 22 v d ps) :
  ∃ (A : Option Addr) (cap : Nat) (l : List Rw), v = .slice A l.length cap ∧ (A = none → cap = 0) ∧ l.length ≤ cap ∧ l.length ≤ maxLen ∧ At w w.heap.size A (tvs l) ∧ Rows_ l := by
 obtain ⟨a0, len, cap, rfl⟩ := okWide_slice Tryz.underlying22 hval
 obtain ⟨fuel, hf⟩ := hj
 rcases Go.Deep.open_slice Tryz.underlying22 hf with ⟨hcs, _⟩ | ⟨a, len', cap', m, n, D, Pl, hcs, hb, hl, hm, hmm, _, hx⟩
 ·simp only [Value.cells, List.cons.injEq, and_true] at hcs
  injection hcs with h1 h2 h3
  subst h1 h2 h3
  exact ⟨none, 0, [], rfl, fun _ => rfl, Nat.le_refl _, Nat.zero_le _, At.nil _ _ _, fun x hx => by cases hx⟩
 ·simp only [Value.cells, List.cons.injEq, and_true] at hcs
  injection hcs with h1 h2 h3
  subst h1 h2 h3
  simp only [if_true] at hmm
  subst hmm
  obtain ⟨Q, hQ⟩ := Go.Deep.choose_lt (α := Rw) (p := fun i q => w.cells? 0 (a.add (i * 4)) 4 = some (rcs q) ∧ rk q < 18446744073709551616 ∧ (nm q).length ≤ maxLen) (fun i hi => by
   obtain ⟨cs', h1, h2⟩ := hx i hi
   rw [cells_row] at h1
   obtain ⟨q, rfl, h3, h4⟩ := row_trod h2
   exact ⟨q, h1, h3, h4⟩)
  refine ⟨some a, m, (List.range len).map Q, by simp, (fun h => by cases h), by simp; exact hl, by simp; omega, fun i v hv => ?_, fun x hx => ?_⟩
  ·have hlt := (List.getElem?_eq_some_iff.1 hv).1
   rw [tvs_len, List.length_map, List.length_range] at hlt
   obtain ⟨k, hk⟩ : ∃ k, k = i / 4 := ⟨_, rfl⟩
   have hkl : k < len := by omega
   have hq : ((List.range len).map Q)[k]? = some (Q k) := by rw [List.getElem?_map, List.getElem?_range hkl]; rfl
   obtain ⟨b, off, ha, hbl, hc⟩ := at_cells (hQ k (by omega)).1 (hQ 0 (by omega)).1 (by omega)
   refine ⟨b, off, by rw [ha], hbl, ?_⟩
   have hik : i = k * 4 + (i - k * 4) := by omega
   have hd : (tvs ((List.range len).map Q))[i]? = (rcs (Q k))[i - k * 4]? := by
    have hdr : tvs (((List.range len).map Q).drop k) = rcs (Q k) ++ tvs (((List.range len).map Q).drop (k + 1)) := by
     have h1 := (List.getElem?_eq_some_iff.1 hq).1
     have h2 := (List.getElem?_eq_some_iff.1 hq).2
     rw [List.drop_eq_getElem_cons h1, h2]; rfl
    rw [tvs_drop] at hdr
    have : (tvs ((List.range len).map Q))[k * 4 + (i - k * 4)]? = (rcs (Q k) ++ tvs (((List.range len).map Q).drop (k + 1)))[i - k * 4]? := by rw [← hdr, List.getElem?_drop]
    rw [← hik] at this
    rw [this, List.getElem?_append_left (by show i - k * 4 < 4; omega)]
   rw [hd] at hv
   have := hc _ _ hv
   rw [show off + k * 4 + (i - k * 4) = off + i by omega] at this
   exact this
  ·obtain ⟨i, hi, rfl⟩ := List.mem_map.1 hx
   exact (hQ i (by have := List.mem_range.1 hi; omega)).2
theorem moves_in (hval : Value.okWide Tryz.prog w r b0 52 v) (hj : DataW.Trod enc Tryz.prog w 0 (fun _ => true) true 52 v d ps) :
  ∃ (A : Option Addr) (cap : Nat) (l : List Mv), v = .slice A l.length cap ∧ (A = none → cap = 0) ∧ l.length ≤ cap ∧ l.length ≤ maxLen ∧ At w w.heap.size A (mvs l) ∧ Moves_ l := by
 obtain ⟨a0, len, cap, rfl⟩ := okWide_slice Tryz.underlying52 hval
 obtain ⟨fuel, hf⟩ := hj
 rcases Go.Deep.open_slice Tryz.underlying52 hf with ⟨hcs, _⟩ | ⟨a, len', cap', m, n, D, Pl, hcs, hb, hl, hm, hmm, _, hx⟩
 ·simp only [Value.cells, List.cons.injEq, and_true] at hcs
  injection hcs with h1 h2 h3
  subst h1 h2 h3
  exact ⟨none, 0, [], rfl, fun _ => rfl, Nat.le_refl _, Nat.zero_le _, At.nil _ _ _, fun x hx => by cases hx⟩
 ·simp only [Value.cells, List.cons.injEq, and_true] at hcs
  injection hcs with h1 h2 h3
  subst h1 h2 h3
  simp only [if_true] at hmm
  subst hmm
  obtain ⟨Q, hQ⟩ := Go.Deep.choose_lt (α := Mv) (p := fun i q => w.cells? 0 (a.add (i * 6)) 6 = some (mcs q) ∧ rk (mw q) < 18446744073709551616 ∧ (nm (mw q)).length ≤ maxLen) (fun i hi => by
   obtain ⟨cs', h1, h2⟩ := hx i hi
   rw [cells_move] at h1
   obtain ⟨q, rfl, h3, h4⟩ := move_trod h2
   exact ⟨q, h1, h3, h4⟩)
  refine ⟨some a, m, (List.range len).map Q, by simp, (fun h => by cases h), by simp; exact hl, by simp; omega, fun i v hv => ?_, fun x hx => ?_⟩
  ·have hlt := (List.getElem?_eq_some_iff.1 hv).1
   rw [mvs_len, List.length_map, List.length_range] at hlt
   obtain ⟨k, hk⟩ : ∃ k, k = i / 6 := ⟨_, rfl⟩
   have hkl : k < len := by omega
   have hq : ((List.range len).map Q)[k]? = some (Q k) := by rw [List.getElem?_map, List.getElem?_range hkl]; rfl
   obtain ⟨b, off, ha, hbl, hc⟩ := at_cells (hQ k (by omega)).1 (hQ 0 (by omega)).1 (by omega)
   refine ⟨b, off, by rw [ha], hbl, ?_⟩
   have hik : i = k * 6 + (i - k * 6) := by omega
   have hd : (mvs ((List.range len).map Q))[i]? = (mcs (Q k))[i - k * 6]? := by
    have hdr : mvs (((List.range len).map Q).drop k) = mcs (Q k) ++ mvs (((List.range len).map Q).drop (k + 1)) := by
     have h1 := (List.getElem?_eq_some_iff.1 hq).1
     have h2 := (List.getElem?_eq_some_iff.1 hq).2
     rw [List.drop_eq_getElem_cons h1, h2]; rfl
    rw [mvs_drop] at hdr
    have : (mvs ((List.range len).map Q))[k * 6 + (i - k * 6)]? = (mcs (Q k) ++ mvs (((List.range len).map Q).drop (k + 1)))[i - k * 6]? := by rw [← hdr, List.getElem?_drop]
    rw [← hik] at this
    rw [this, List.getElem?_append_left (by show i - k * 6 < 6; omega)]
   rw [hd] at hv
   have := hc _ _ hv
   rw [show off + k * 6 + (i - k * 6) = off + i by omega] at this
   exact this
  ·obtain ⟨i, hi, rfl⟩ := List.mem_map.1 hx
   exact (hQ i (by have := List.mem_range.1 hi; omega)).2
theorem move_in (hval : Value.okWide Tryz.prog w r b0 57 v) (hj : DataW.Trod enc Tryz.prog w 0 (fun _ => true) true 57 v d ps) :
  ∃ q : Mv, v = mv q ∧ rk (mw q) < 18446744073709551616 ∧ (nm (mw q)).length ≤ maxLen := by
 unfold Value.okWide at hval
 rw [Tryz.underlying57] at hval
 obtain ⟨cs, rfl, _⟩ := hval
 obtain ⟨fuel, hf⟩ := hj
 obtain ⟨q, hq, h1, h2⟩ := move_trod hf
 refine ⟨q, ?_, h1, h2⟩
 have : cs = (mcs q).toArray := by
  have h3 : cs.toList = mcs q := hq
  rw [← h3]
 rw [this]
 rfl
theorem time_in (hval : Value.okWide Tryz.prog w r b0 51 v) (hj : DataW.Trod enc Tryz.prog w 0 (fun _ => true) true 51 v d ps) :
  ∃ c e : Int, v = .agg #[.int .i64 c, .int .i64 e] := by
 unfold Value.okWide at hval
 rw [Tryz.underlying51] at hval
 obtain ⟨cs, rfl, _⟩ := hval
 obtain ⟨fuel, hf⟩ := hj
 obtain ⟨zs, k', _, _, hl, hzl, hg⟩ := DataW.trod_struct Tryz.underlying51 hf
 rw [cells_time] at hl
 match cs, hl with
 | ⟨[v0, v1]⟩, _ =>
  match zs, hzl with
  | [z0, z1], _ =>
   have f0 := hg 0 _ rfl
   have f1 := hg 1 _ rfl
   simp [cells_i64, Value.cells] at f0 f1
   obtain ⟨b0, d0, -, -⟩ := DataW.trod_int Tryz.underlying3 f0
   obtain ⟨b1, d1, -, -⟩ := DataW.trod_int Tryz.underlying3 f1
   cases d0; cases d1
   exact ⟨b0, b1, rfl⟩
end
end Go.Proofs.YthhckdjagnlgpaaGreat
end
section
namespace Go.Proofs.YthhckdjagnlgpaaGreat
open Go.ChangeShapes Go.WideShapes Go.RowKit Go.Joins
open Pk
set_option maxRecDepth 100000
theorem cells_mark : Tryz.prog.cellsOf 105 = 2 := by kernel_rfl
section
variable {H : Type} {enc : TypeId × Value → H} {w : World} {r : Reach} {b0 : Nat} {v : Value} {d : DataW H} {ps : List MemPlace}
theorem mark_trod {base n : Nat} {spare : Nat → Bool} {held : Bool} {cs : List Value} {x : DataW H × List MemPlace} (h : DataW.trod enc Tryz.prog w base spare held n 105 cs = some x) :
  ∃ q : Mk, cs = kcs q := by
 obtain ⟨xs, k, _, _, hlen, hxl, hf⟩ := DataW.trod_struct Tryz.underlying105 h
 rw [cells_mark] at hlen
 match cs, hlen with
 | [v0, v1], _ =>
  match xs, hxl with
  | [y0, y1], _ =>
   have g0 := hf 0 _ rfl
   have g1 := hf 1 _ rfl
   simp [cells_i64] at g0 g1
   obtain ⟨a0, e0, -, -⟩ := DataW.trod_int Tryz.underlying3 g0
   obtain ⟨a1, e1, -, -⟩ := DataW.trod_int Tryz.underlying3 g1
   cases e0; cases e1
   exact ⟨(a0, a1), rfl⟩
theorem marks_in (hval : Value.okWide Tryz.prog w r b0 53 v) (hj : DataW.Trod enc Tryz.prog w 0 (fun _ => true) true 53 v d ps) :
  ∃ (A : Option Addr) (cap : Nat) (l : List Mk), v = .slice A l.length cap ∧ (A = none → cap = 0) ∧ l.length ≤ cap ∧ l.length ≤ maxLen ∧ At w w.heap.size A (kvs l) := by
 obtain ⟨a0, len, cap, rfl⟩ := okWide_slice Tryz.underlying53 hval
 obtain ⟨fuel, hf⟩ := hj
 rcases Go.Deep.open_slice Tryz.underlying53 hf with ⟨hcs, _⟩ | ⟨a, len', cap', m, n, D, Pl, hcs, hb, hl, hm, hmm, _, hx⟩
 ·simp only [Value.cells, List.cons.injEq, and_true] at hcs
  injection hcs with h1 h2 h3
  subst h1 h2 h3
  exact ⟨none, 0, [], rfl, fun _ => rfl, Nat.le_refl _, Nat.zero_le _, At.nil _ _ _⟩
 ·simp only [Value.cells, List.cons.injEq, and_true] at hcs
  injection hcs with h1 h2 h3
  subst h1 h2 h3
  simp only [if_true] at hmm
  subst hmm
  obtain ⟨Q, hQ⟩ := Go.Deep.choose_lt (α := Mk) (p := fun i q => w.cells? 0 (a.add (i * 2)) 2 = some (kcs q)) (fun i hi => by
   obtain ⟨cs', h1, h2⟩ := hx i hi
   rw [cells_mark] at h1
   obtain ⟨q, rfl⟩ := mark_trod h2
   exact ⟨q, h1⟩)
  refine ⟨some a, m, (List.range len).map Q, by simp, (fun h => by cases h), by simp; exact hl, by simp; omega, fun i v hv => ?_⟩
  ·have hlt := (List.getElem?_eq_some_iff.1 hv).1
   rw [kvs_len, List.length_map, List.length_range] at hlt
   obtain ⟨k, hk⟩ : ∃ k, k = i / 2 := ⟨_, rfl⟩
   have hkl : k < len := by omega
   have hq : ((List.range len).map Q)[k]? = some (Q k) := by rw [List.getElem?_map, List.getElem?_range hkl]; rfl
   obtain ⟨b, off, ha, hbl, hc⟩ := at_cells (hQ k (by omega)) (hQ 0 (by omega)) (by omega)
   refine ⟨b, off, by rw [ha], hbl, ?_⟩
   have hik : i = k * 2 + (i - k * 2) := by omega
   have hd : (kvs ((List.range len).map Q))[i]? = (kcs (Q k))[i - k * 2]? := by
    have hdr : kvs (((List.range len).map Q).drop k) = kcs (Q k) ++ kvs (((List.range len).map Q).drop (k + 1)) := by
     have h1 := (List.getElem?_eq_some_iff.1 hq).1
     have h2 := (List.getElem?_eq_some_iff.1 hq).2
     rw [List.drop_eq_getElem_cons h1, h2]; rfl
    rw [kvs_drop] at hdr
    have : (kvs ((List.range len).map Q))[k * 2 + (i - k * 2)]? = (kcs (Q k) ++ kvs (((List.range len).map Q).drop (k + 1)))[i - k * 2]? := by rw [← hdr, List.getElem?_drop]
    rw [← hik] at this
    rw [this, List.getElem?_append_left (by show i - k * 2 < 2; omega)]
   rw [hd] at hv
   have := hc _ _ hv
   rw [show off + k * 2 + (i - k * 2) = off + i by omega] at this
   exact this
end
end Go.Proofs.YthhckdjagnlgpaaGreat
end
section
namespace Go.Proofs.YthhckdjagnlgpaaGreat
open Go.RowKit Go.IntWalk Go.Maps
set_option maxRecDepth 100000
def In64 (x : Int) : Prop := -9223372036854775808 ≤ x ∧ x ≤ 9223372036854775807
theorem in64_wf {x : Int} (h : In64 x) : (Lit.int .i64 x).wf = true := by
 obtain ⟨h1, h2⟩ := h
 simp [Lit.wf]
 exact ⟨h1, h2⟩
theorem keyed_int : Keyed Tryz.prog 3 := int_keyed Tryz.underlying3
theorem key_int {x : Int} (h : In64 x) : keyOf Tryz.prog 3 (.int .i64 x) = some (.int .i64 x) := keyOf_int_mk Tryz.underlying3 (in64_wf h)
/-- the map has just the keys of S -/
def Kok (D : DataW Unit) (S : List Int) : Prop := ∀ x, Maps.has D (.int .i64 x) = decide (x ∈ S)
theorem kok_nil : Kok (.map []) [] := fun x => by simp [Maps.has]
theorem kok_put {D : DataW Unit} {S : List Int} {x : Int} {d : DataW Unit} (hm : IsMap D) (h : Kok D S) : Kok (D.put (.int .i64 x) d) (S ++ [x]) := fun y => by
 by_cases e : y = x
 ·subst e; rw [has_put_same hm (show WideAt.IsKeyLit (Lit.int .i64 y) from trivial)]; simp
 ·rw [has_put_other (by simpa using e), h]; simp [e]
theorem ikeys {D : DataW Unit} {R : Value → Option (DataW Unit × List MemPlace)} {w : World} {b n : Nat} (hown : w.ownsMap Tryz.prog 3 R b n D) : (intKeys D).Nodup ∧ ∀ x, x ∈ intKeys D ↔ Maps.has D (.int .i64 x) = true := by
 obtain ⟨es, hD, hpw, _⟩ := hown.entries keyed_int
 obtain ⟨es', hD', hko⟩ := hown.keysOf
 obtain rfl : es = es' := by rw [hD] at hD'; simpa using hD'
 subst hD
 have hk : ∀ p ∈ es, ∃ x, p.1 = .int .i64 x := fun p hp => by obtain ⟨v, hv⟩ := hko p hp; obtain ⟨x, _, hx, _⟩ := Maps.keyOf_i64 Tryz.underlying3 hv; exact ⟨x, hx⟩
 constructor
 ·show (es.map fun p => Go.intOf p.1).Nodup
  refine List.pairwise_map.2 (hpw.imp_of_mem fun {p q} hp' hq' hne e => hne ?_)
  obtain ⟨a, ha⟩ := hk p hp'
  obtain ⟨b, hb⟩ := hk q hq'
  rw [ha, hb] at e ⊢
  exact congrArg _ e
 ·intro x
  rw [has_eq, List.any_eq_true]
  show x ∈ (es.map fun p => Go.intOf p.1) ↔ _
  rw [List.mem_map]
  constructor
  ·rintro ⟨p, hp', rfl⟩
   obtain ⟨a, ha⟩ := hk p hp'
   exact ⟨p, hp', by rw [ha]; simp [Lit.sameKey, Go.intOf]⟩
  ·rintro ⟨p, hp', hs⟩
   obtain ⟨a, ha⟩ := hk p hp'
   rw [ha] at hs
   exact ⟨p, hp', by rw [ha]; simpa [Lit.sameKey, Go.intOf] using hs⟩
end Go.Proofs.YthhckdjagnlgpaaGreat
end
section
namespace Go.Proofs.YthhckdjagnlgpaaGreat
open Go.RowKit Go.IntWalk Go.Maps
open Gr
set_option maxRecDepth 100000
noncomputable abbrev RB : Value → Option (DataW Unit × List MemPlace) := plainElem Tryz.prog 4
theorem rb_true : RB (.bool true) = some (.lit (.bool true), []) := plainElem_bool Tryz.underlying4 true
/-- the map has just the keys of S, and says true of each -/
def Bok (D : DataW Unit) (S : List Int) : Prop := Kok D S ∧ ∀ x ∈ S, ∀ u, D.atKey (.int .i64 x) u = .lit (.bool true)
theorem bok_nil : Bok (.map []) [] := ⟨kok_nil, fun x hx => by cases hx⟩
theorem bok_put {D : DataW Unit} {S : List Int} {x : Int} (hm : IsMap D) (h : Bok D S) : Bok (D.put (.int .i64 x) (.lit (.bool true))) (S ++ [x]) := by
 refine ⟨kok_put hm h.1, fun y hy u => ?_⟩
 by_cases e : y = x
 ·subst e
  exact atKey_put_same hm (show WideAt.IsKeyLit (Lit.int .i64 y) from trivial) _ _
 ·rw [atKey_put_other (by simpa using e)]
  rcases List.mem_append.1 hy with hy | hy
  ·exact h.2 y hy u
  ·simp at hy; exact absurd hy e
theorem put_b {w : World} {b n : Nat} {D : DataW Unit} {S : List Int} {x : Int} (hown : w.ownsMap Tryz.prog 3 RB b n D) (hS : Bok D S) (hn : n < 100000) (hx : In64 x) :
  ∃ w' D', (Instr.mapUpdate 47 (.map (some b)) (.int .i64 x) (.bool true)).run Tryz.prog w = .ok () w' ∧ w'.ownsMap Tryz.prog 3 RB b (n + 1) D' ∧ Bok D' (S ++ [x]) ∧ w.grownBy w' (some b) := by
 obtain ⟨w', hrun, hown', hg⟩ := hown.update keyed_int Tryz.underlying47 (by unfold maxLen; omega) (key_int hx) rb_true
 exact ⟨w', _, hrun, hown', bok_put hown.isMap hS, hg⟩
theorem zero_bool (w : World) : (zeroValue 4).run Tryz.prog w = .ok (.bool false) w := by kernel_rfl
theorem rb_false : RB (.bool false) = some (.lit (.bool false), []) := plainElem_bool Tryz.underlying4 false
theorem rb_inv {v : Value} {c : Bool} {ps : List MemPlace} (h : RB v = some (.lit (.bool c), ps)) : v = .bool c := by
 have hu := Tryz.underlying4
 unfold RB plainElem at h
 rw [hu] at h
 split at h
 all_goals first
  | (simp at h; done)
  | (simp at h; obtain ⟨rfl, -⟩ := h; rfl)
  | (simp at h; simp_all; done)
theorem look_b {w : World} {b n : Nat} {D : DataW Unit} {S : List Int} {x : Int} (hown : w.ownsMap Tryz.prog 3 RB b n D) (hS : Bok D S) (hx : In64 x) :
  (Instr.lookup 47 (.map (some b)) (.int .i64 x) false).run Tryz.prog w = .ok (.bool (decide (x ∈ S))) w := by
 obtain ⟨v, ps, hrun, hv⟩ := hown.lookup keyed_int Tryz.underlying47 (zero_bool w) rb_false (key_int hx)
 by_cases hm : x ∈ S
 ·rw [hS.2 x hm] at hv
  rw [hrun, rb_inv hv, decide_eq_true hm]
 ·rw [atKey_of_not_has (by rw [hS.1 x, decide_eq_false hm])] at hv
  rw [hrun, rb_inv hv, decide_eq_false hm]
theorem size_le {D : DataW Unit} {R : Value → Option (DataW Unit × List MemPlace)} {w : World} {b n : Nat} {S : List Int} (hown : w.ownsMap Tryz.prog 3 R b n D) (hk : Kok D S) : Maps.size D ≤ S.length := by
 obtain ⟨h1, h2⟩ := ikeys hown
 have h4 : Maps.size D = (intKeys D).length := by
  obtain ⟨es, hD, _⟩ := hown.keysOf
  subst hD
  show es.length = (es.map _).length
  rw [List.length_map]
 rw [h4]
 refine nodup_len h1 fun x hx => ?_
 have := (h2 x).1 hx
 rw [hk x, decide_eq_true_iff] at this
 exact this
theorem map_keep {w w' : World} {b n : Nat} {D : DataW Unit} (h : w.ownsMap Tryz.prog 3 RB b n D) (hb : Below w.heap.size w w') : w'.ownsMap Tryz.prog 3 RB b n D := by
 obtain ⟨es, clock, hh, F, hs, rfl⟩ := h
 exact ⟨es, clock, (hb.block b (Array.getElem?_eq_some_iff.1 hh).1).trans hh, F, hs, rfl⟩
theorem run_makeSet {n : Int} (w : World) : (Instr.makeMap 47 (some (.int .i64 n))).run Tryz.prog w = .ok (.map (some w.heap.size)) (w.alloc (.map #[] 0)) := by
 simp [Instr.makeMap, run_underlying Tryz.underlying47, go_sem]
end Go.Proofs.YthhckdjagnlgpaaGreat
end
section
namespace Go.Proofs.YthhckdjagnlgpaaGreat
open Go.RowKit Go.IntWalk
open Gr
set_option maxRecDepth 100000
/-- a replica: its base, its floor, its log, its marks -/
structure Rp where
 B : List Rw
 fc : Int
 fr : Int
 L : List Mv
 V : List Mk
/-- where its three lists lie -/
structure Pl where
 A1 : Option Addr
 c1 : Nat
 A2 : Option Addr
 c2 : Nat
 A3 : Option Addr
 c3 : Nat
def rpcs (p : Pl) (r : Rp) : List Value := [.slice p.A1 r.B.length p.c1, .int .i64 r.fc, .int .i64 r.fr, .slice p.A2 r.L.length p.c2, .slice p.A3 r.V.length p.c3]
structure RpAt (p : Pl) (r : Rp) (W : World) : Prop where
 b : At W W.heap.size p.A1 (tvs r.B)
 l : At W W.heap.size p.A2 (mvs r.L)
 v : At W W.heap.size p.A3 (kvs r.V)
theorem RpAt.keep {p : Pl} {r : Rp} {W W' : World} (h : RpAt p r W) (hb : Below W.heap.size W W') : RpAt p r W' := ⟨h.b.keep hb, h.l.keep hb, h.v.keep hb⟩
structure RpPl (p : Pl) (r : Rp) : Prop where
 n1 : p.A1 = none → p.c1 = 0
 k1 : r.B.length ≤ p.c1
 n2 : p.A2 = none → p.c2 = 0
 k2 : r.L.length ≤ p.c2
 n3 : p.A3 = none → p.c3 = 0
 k3 : r.V.length ≤ p.c3
/-- such as a program may have, and not great -/
structure RpOk (r : Rp) : Prop where
 lb : r.B.length ≤ 400
 ll : r.L.length ≤ 400
 lv : r.V.length ≤ 400
 rb : Rows_ r.B
 rl : Moves_ r.L
def timeB (c r : Int) : Bool := decide (1 ≤ c) && (decide (c ≤ 4611686018427387903) && (decide (1 ≤ r) && decide (r ≤ 255)))
def knownK (v : List Mk) (c r : Int) : Bool := decide (0 < c) && decide (c ≤ getK v r)
def zeroT (c r : Int) : Bool := decide (c = 0) && decide (r = 0)
/-- may a replica be -/
def mayF (r : Rp) : Bool := mayB r.B && (mayM r.L && (mayK r.V && (decide ((sinM r.L r.fc r.fr).length = r.L.length) && (belowK (ofK r.L) r.V && (zeroT r.fc r.fr || knownK r.V r.fc r.fr)))))
def treeF (r : Rp) : List Rw := allP r.B r.L
def sameF (a b : Rp) : Bool := decide (a.fc = b.fc ∧ a.fr = b.fr) && (decide (a.V = b.V) && (sameP a.B b.B && sameM a.L b.L))
/-- a move that is added to a replica that may be -/
def addG (r : Rp) (m : Mv) : Rp × Bool × Int :=
 if oneM m = false then (r, false, 1) else
 if befT r.fc r.fr (mc m) (mr m) = false then (r, false, 9) else
 if (insM r.L m).2.2 = false then (r, false, 0) else
 ({ r with L := (insM r.L m).1, V := raiseK r.V (mc m) (mr m) }, true, 0)
def addF (r : Rp) (m : Mv) : Rp × Bool × Int := if mayF r = false then (r, false, 1) else addG r m
def pruneF (r : Rp) (c q : Int) : Rp × Int :=
 if mayF r = false then (r, 1) else
 if knownK r.V c q = false then (r, 1) else
 if befT r.fc r.fr c q = false then (r, 0) else
 ({ B := allP r.B (r.L.take (r.L.length - (sinM r.L c q).length)), fc := c, fr := q, L := sinM r.L c q, V := r.V }, 0)
/-- moves that come, one behind the other -/
def mergeG (r0 : Rp) : Rp → List Mv → Rp × Int
 | out, [] => (out, 0)
 | out, m :: t => if (addG out m).2.2 = 0 then mergeG r0 (addG out m).1 t else (r0, (addG out m).2.2)
def mergeF (r : Rp) (l : List Mv) : Rp × Int := if l.length = 0 then (r, 0) else if mayF r = false then (r, 1) else mergeG r r l
theorem oneK_range {v : List Mk} {r : Int} (h : RanK v) (hp : 0 < getK v r) : 1 ≤ r ∧ r ≤ 255 ∧ getK v r ≤ 4611686018427387903 := by
 unfold getK at hp ⊢
 cases hf : v.find? (isK r) with
 | none => rw [hf] at hp; exact absurd hp (by simp)
 | some m =>
  rw [hf] at hp
  have hm := List.mem_of_find?_eq_some hf
  have h1 := oneK_iff.1 (h m hm)
  have h2 : kr m = r := by have := List.find?_some hf; simpa [isK] using this
  rw [h2] at h1
  exact ⟨h1.1, h1.2.1, h1.2.2.2⟩
theorem known_time {v : List Mk} {c r : Int} (h : mayK v = true) : knownK v c r = (timeB c r && decide (c ≤ getK v r)) := by
 have hr := (mayK_iff.1 h).1
 unfold knownK timeB
 by_cases h1 : c ≤ getK v r
 ·by_cases h0 : 0 < c
  ·obtain ⟨a1, a2, a3⟩ := oneK_range hr (show 0 < getK v r by omega)
   rw [decide_eq_true h1, decide_eq_true h0, decide_eq_true (show 1 ≤ c by omega), decide_eq_true (show c ≤ 4611686018427387903 by omega), decide_eq_true a1, decide_eq_true a2]
   rfl
  ·rw [decide_eq_true h1, decide_eq_false h0, decide_eq_false (show ¬ 1 ≤ c by omega)]
   rfl
 ·rw [decide_eq_false h1]
  simp
theorem mayF_iff {r : Rp} : mayF r = true ↔ mayB r.B = true ∧ mayM r.L = true ∧ mayK r.V = true ∧ sinM r.L r.fc r.fr = r.L ∧ belowK (ofK r.L) r.V = true ∧ (zeroT r.fc r.fr = true ∨ knownK r.V r.fc r.fr = true) := by
 unfold mayF
 simp only [Bool.and_eq_true, Bool.or_eq_true, decide_eq_true_eq]
 constructor
 ·rintro ⟨h1, h2, h3, h4, h5, h6⟩
  exact ⟨h1, h2, h3, (List.filter_sublist (p := befM r.fc r.fr) (l := r.L)).eq_of_length h4, h5, h6⟩
 ·rintro ⟨h1, h2, h3, h4, h5, h6⟩
  exact ⟨h1, h2, h3, by rw [h4], h5, h6⟩
end Go.Proofs.YthhckdjagnlgpaaGreat
end
section
namespace Go.Proofs.YthhckdjagnlgpaaGreat
open Go.ChangeShapes Go.WideShapes Go.RowKit Go.Joins
open Pk
set_option maxRecDepth 100000
theorem cells_replica : Tryz.prog.cellsOf 55 = 5 := by kernel_rfl
theorem cells_srow : Tryz.prog.cellsOf 22 = 1 := by kernel_rfl
theorem cells_smove : Tryz.prog.cellsOf 52 = 1 := by kernel_rfl
theorem cells_smark : Tryz.prog.cellsOf 53 = 1 := by kernel_rfl
theorem types_replica : Tryz.prog.cellTypes Tryz.prog.depth 55 = some [22, 3, 3, 52, 53] := by kernel_rfl
section
variable {H : Type} {enc : TypeId × Value → H} {w : World} {r : Reach} {b0 : Nat} {v : Value} {d : DataW H} {ps : List MemPlace}
theorem wide_srow {v : Value} (h : Cell.okWide Tryz.prog w r b0 22 v) : Value.okWide Tryz.prog w r b0 22 v := by
 unfold Value.okWide
 rw [Tryz.underlying22]
 exact h
theorem wide_smove {v : Value} (h : Cell.okWide Tryz.prog w r b0 52 v) : Value.okWide Tryz.prog w r b0 52 v := by
 unfold Value.okWide
 rw [Tryz.underlying52]
 exact h
theorem wide_smark {v : Value} (h : Cell.okWide Tryz.prog w r b0 53 v) : Value.okWide Tryz.prog w r b0 53 v := by
 unfold Value.okWide
 rw [Tryz.underlying53]
 exact h
theorem replica_in (hval : Value.okWide Tryz.prog w r b0 55 v) (hj : DataW.Trod enc Tryz.prog w 0 (fun _ => true) true 55 v d ps) :
  ∃ (p : Pl) (q : Rp), v = .agg #[.slice p.A1 q.B.length p.c1, .int .i64 q.fc, .int .i64 q.fr, .slice p.A2 q.L.length p.c2, .slice p.A3 q.V.length p.c3] ∧ RpPl p q ∧ RpAt p q w ∧ (q.B.length ≤ maxLen ∧ q.L.length ≤ maxLen ∧ q.V.length ≤ maxLen) ∧ Rows_ q.B ∧ Moves_ q.L := by
 unfold Value.okWide at hval
 rw [Tryz.underlying55] at hval
 obtain ⟨cs, rfl, hs, ts, ht, _, hc⟩ := hval
 rw [cells_replica] at hs
 rw [types_replica] at ht
 cases ht
 obtain ⟨cl⟩ := cs
 match cl, hs with
 | [c0, c1, c2, c3, c4], _ =>
  obtain ⟨u0, e0, h0⟩ := hc 0 c0 rfl
  obtain ⟨u1, e1, h1⟩ := hc 1 c1 rfl
  obtain ⟨u2, e2, h2⟩ := hc 2 c2 rfl
  obtain ⟨u3, e3, h3⟩ := hc 3 c3 rfl
  obtain ⟨u4, e4, h4⟩ := hc 4 c4 rfl
  cases e0; cases e1; cases e2; cases e3; cases e4
  obtain ⟨fuel, hf⟩ := hj
  obtain ⟨xs, k, _, _, hlen, hxl, hg⟩ := DataW.trod_struct Tryz.underlying55 hf
  match xs, hxl with
  | [y0, y1, y2, y3], _ =>
   have g0 := hg 0 _ rfl
   have g1 := hg 1 _ rfl
   have g2 := hg 2 _ rfl
   have g3 := hg 3 _ rfl
   simp [cells_srow, cells_smove, cells_smark, cells_time, Value.cells] at g0 g1 g2 g3
   obtain ⟨d0, p0⟩ := y0
   obtain ⟨d2, p2⟩ := y2
   obtain ⟨d3, p3⟩ := y3
   obtain ⟨zs, k', _, _, _, hzl, hz⟩ := DataW.trod_struct Tryz.underlying51 g1
   match zs, hzl with
   | [z0, z1], _ =>
    have f0 := hz 0 _ rfl
    have f1 := hz 1 _ rfl
    simp [cells_i64] at f0 f1
    obtain ⟨t0, k0, -, -⟩ := DataW.trod_int Tryz.underlying3 f0
    obtain ⟨t1, k1, -, -⟩ := DataW.trod_int Tryz.underlying3 f1
    cases k0; cases k1
    have v0 := wide_srow h0
    have v3 := wide_smove h3
    have v4 := wide_smark h4
    obtain ⟨a0, n0, m0, rfl⟩ := okWide_slice Tryz.underlying22 v0
    obtain ⟨a3, n3, m3, rfl⟩ := okWide_slice Tryz.underlying52 v3
    obtain ⟨a4, n4, m4, rfl⟩ := okWide_slice Tryz.underlying53 v4
    obtain ⟨A1, q1, B, e1, x1, x2, x3, x4, x5⟩ := rows_in v0 ⟨k, g0⟩
    obtain ⟨A2, q2, L, e2, y1, y2, y3, y4, y5⟩ := moves_in v3 ⟨k, g2⟩
    obtain ⟨A3, q3, V, e3, z1, z2, z3, z4⟩ := marks_in v4 ⟨k, g3⟩
    exact ⟨⟨A1, q1, A2, q2, A3, q3⟩, ⟨B, t0, t1, L, V⟩, by rw [e1, e2, e3], ⟨x1, x2, y1, y2, z1, z2⟩, ⟨x4, y4, z4⟩, ⟨x3, y3, z3⟩, x5, y5⟩
end
end Go.Proofs.YthhckdjagnlgpaaGreat
end
