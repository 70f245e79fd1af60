/-
 Rows and moves that came in: their cells.
-/
import Derived.Test.YtojhenpaeedimaaGreatBc
import Derived.ProofKit
import Derived.OpenShut
import Derived.SliceStrings
import Derived.ChangeOld
import Derived.Lib.SmallJoins
import Derived.Test.YtojhenpaeedimaaGreatUg
import Derived.Deep.SlicePairs
namespace Go.Proofs.YtojhenpaeedimaaGreat
open Go.ChangeShapes Go.WideShapes Go.RowKit Go.Joins
open Pk
set_option maxRecDepth 100000
theorem cells_i64 : Tryz.prog.cellsOf 3 = 1 := by kernel_rfl
theorem cells_str : Tryz.prog.cellsOf 9 = 1 := by kernel_rfl
theorem cells_f64 : Tryz.prog.cellsOf 49 = 1 := by kernel_rfl
theorem cells_move : Tryz.prog.cellsOf 51 = 6 := by kernel_rfl
theorem cells_time : Tryz.prog.cellsOf 48 = 2 := by kernel_rfl
section
variable {H : Type} {enc : TypeId × Value → H} {w : World} {r : Reach} {b0 : Nat} {v : Value} {d : DataW H} {ps : List MemPlace}
theorem trod_flt {P : Program} {base : Nat} {spare : Nat → Bool} {held : Bool} {fuel : Nat} {t : TypeId} {cs : List Value} {x : DataW H × List MemPlace} (ht : P.underlying t = some (.float .f64)) (h : DataW.trod enc P w base spare held fuel t cs = some x) :
  ∃ b, cs = [.float .f64 b] ∧ b < 18446744073709551616 := by
 cases fuel with
 | zero => simp [DataW.trod] at h
 | succ n =>
  unfold DataW.trod at h
  rw [ht] at h
  split at h
  case h_3 k k' b heq =>
   injection heq with heq
   injection heq with heq
   subst heq
   split at h
   ·rename_i hc
    obtain ⟨rfl, hw⟩ := hc
    exact ⟨b, rfl, by simpa [Lit.wf] using hw⟩
   ·cases h
  all_goals simp_all
theorem move_trod {base n : Nat} {spare : Nat → Bool} {held : Bool} {cs : List Value} {x : DataW H × List MemPlace} (h : DataW.trod enc Tryz.prog w base spare held n 51 cs = some x) :
  ∃ q : Mv, cs = mcs q ∧ rk (mw q) < 18446744073709551616 ∧ (nm (mw q)).length ≤ maxLen := by
 obtain ⟨xs, k, _, _, hlen, hxl, hf⟩ := DataW.trod_struct Tryz.underlying51 h
 rw [cells_move] at hlen
 match cs, hlen with
 | [v0, v1, v2, v3, v4, v5], _ =>
  match xs, hxl with
  | [y0, y1, y2, y3, y4], _ =>
   have g0 := hf 0 _ rfl
   have g1 := hf 1 _ rfl
   have g2 := hf 2 _ rfl
   have g3 := hf 3 _ rfl
   have g4 := hf 4 _ rfl
   simp [cells_i64, cells_str, cells_f64, cells_time] at g0 g1 g2 g3 g4
   obtain ⟨zs, k', _, _, _, hzl, hg⟩ := DataW.trod_struct Tryz.underlying48 g0
   match zs, hzl with
   | [z0, z1], _ =>
    have f0 := hg 0 _ rfl
    have f1 := hg 1 _ rfl
    simp [cells_i64] at f0 f1
    obtain ⟨b0, d0, -, -⟩ := DataW.trod_int Tryz.underlying3 f0
    obtain ⟨b1, d1, -, -⟩ := DataW.trod_int Tryz.underlying3 f1
    obtain ⟨a0, e0, -, -⟩ := DataW.trod_int Tryz.underlying3 g1
    obtain ⟨a1, e1, -, -⟩ := DataW.trod_int Tryz.underlying3 g2
    obtain ⟨a2, e2, -, h2⟩ := DataW.trod_string Tryz.underlying9 g3
    obtain ⟨a3, e3, h3⟩ := trod_flt Tryz.underlying49 g4
    cases d0; cases d1; cases e0; cases e1; cases e2; cases e3
    refine ⟨(b0, b1, a1, a0, a2.data.toList, a3), by show _ = [_, _, _, _, Value.string (ba a2.data.toList), _]; rw [ba_of], h3, ?_⟩
    have := ba_size a2.data.toList
    rw [ba_of] at this
    show a2.data.toList.length ≤ _
    omega
theorem at_cells {w : World} {a : Addr} {k i base : Nat} {cs cs0 : List Value} (h : w.cells? base (a.add (i * k)) k = some cs) (h0 : w.cells? base (a.add (0 * k)) k = some cs0) (hk : 0 < k) : ∃ b off, a = ⟨b, off, none⟩ ∧ b < w.heap.size ∧ ∀ j v, cs[j]? = some v → w.cell? ⟨b, off + i * k + j, none⟩ = some v := by
 obtain ⟨_, hlen, hcell⟩ := World.cells?_some h
 obtain ⟨_, hlen0, hcell0⟩ := World.cells?_some h0
 obtain ⟨b, off, spot⟩ := a
 obtain ⟨v0, hv0⟩ : ∃ v, w.cell? (((⟨b, off, spot⟩ : Addr).add (0 * k)).add 0) = some v := by
  rw [hcell0 0 hk]; exact ⟨_, List.getElem?_eq_getElem (by rw [hlen0]; exact hk)⟩
 rw [Nat.zero_mul] at hv0
 have hspot : spot = none := by simpa [Addr.add] using World.cell?_spot hv0
 subst hspot
 rw [Go.WideShapes.add_plain, Go.WideShapes.add_plain] at hv0
 refine ⟨b, off, rfl, World.block_lt_of_cell? _ _ hv0, fun j v hj => ?_⟩
 have hjk : j < k := by rw [← hlen]; exact (List.getElem?_eq_some_iff.1 hj).1
 have := hcell j hjk
 rw [hj, Go.WideShapes.add_plain, Go.WideShapes.add_plain] at this
 exact this
theorem moves_in (hval : Value.okWide Tryz.prog w r b0 22 v) (hj : DataW.Trod enc Tryz.prog w 0 (fun _ => true) true 22 v d ps) :
  ∃ (A : Option Addr) (cap : Nat) (l : List Mv), v = .slice A l.length cap ∧ (A = none → cap = 0) ∧ l.length ≤ cap ∧ l.length ≤ maxLen ∧ At w w.heap.size A (mvs l) ∧ Moves_ l := by
 obtain ⟨a0, len, cap, rfl⟩ := okWide_slice Tryz.underlying22 hval
 obtain ⟨fuel, hf⟩ := hj
 rcases Go.Deep.open_slice Tryz.underlying22 hf with ⟨hcs, _⟩ | ⟨a, len', cap', m, n, D, Pl, hcs, hb, hl, hm, hmm, _, hx⟩
 ·simp only [Value.cells, List.cons.injEq, and_true] at hcs
  injection hcs with h1 h2 h3
  subst h1 h2 h3
  exact ⟨none, 0, [], rfl, fun _ => rfl, Nat.le_refl _, Nat.zero_le _, At.nil _ _ _, fun x hx => by cases hx⟩
 ·simp only [Value.cells, List.cons.injEq, and_true] at hcs
  injection hcs with h1 h2 h3
  subst h1 h2 h3
  simp only [if_true] at hmm
  subst hmm
  obtain ⟨Q, hQ⟩ := Go.Deep.choose_lt (α := Mv) (p := fun i q => w.cells? 0 (a.add (i * 6)) 6 = some (mcs q) ∧ rk (mw q) < 18446744073709551616 ∧ (nm (mw q)).length ≤ maxLen) (fun i hi => by
   obtain ⟨cs', h1, h2⟩ := hx i hi
   rw [cells_move] at h1
   obtain ⟨q, rfl, h3, h4⟩ := move_trod h2
   exact ⟨q, h1, h3, h4⟩)
  refine ⟨some a, m, (List.range len).map Q, by simp, (fun h => by cases h), by simp; exact hl, by simp; omega, fun i v hv => ?_, fun x hx => ?_⟩
  ·have hlt := (List.getElem?_eq_some_iff.1 hv).1
   rw [mvs_len, List.length_map, List.length_range] at hlt
   obtain ⟨k, hk⟩ : ∃ k, k = i / 6 := ⟨_, rfl⟩
   have hkl : k < len := by omega
   have hq : ((List.range len).map Q)[k]? = some (Q k) := by rw [List.getElem?_map, List.getElem?_range hkl]; rfl
   obtain ⟨b, off, ha, hbl, hc⟩ := at_cells (hQ k (by omega)).1 (hQ 0 (by omega)).1 (by omega)
   refine ⟨b, off, by rw [ha], hbl, ?_⟩
   have hik : i = k * 6 + (i - k * 6) := by omega
   have hd : (mvs ((List.range len).map Q))[i]? = (mcs (Q k))[i - k * 6]? := by
    have hdr : mvs (((List.range len).map Q).drop k) = mcs (Q k) ++ mvs (((List.range len).map Q).drop (k + 1)) := by
     have h1 := (List.getElem?_eq_some_iff.1 hq).1
     have h2 := (List.getElem?_eq_some_iff.1 hq).2
     rw [List.drop_eq_getElem_cons h1, h2]; rfl
    rw [mvs_drop] at hdr
    have : (mvs ((List.range len).map Q))[k * 6 + (i - k * 6)]? = (mcs (Q k) ++ mvs (((List.range len).map Q).drop (k + 1)))[i - k * 6]? := by rw [← hdr, List.getElem?_drop]
    rw [← hik] at this
    rw [this, List.getElem?_append_left (by show i - k * 6 < 6; omega)]
   rw [hd] at hv
   have := hc _ _ hv
   rw [show off + k * 6 + (i - k * 6) = off + i by omega] at this
   exact this
  ·obtain ⟨i, hi, rfl⟩ := List.mem_map.1 hx
   exact (hQ i (by have := List.mem_range.1 hi; omega)).2
end
end Go.Proofs.YtojhenpaeedimaaGreat
