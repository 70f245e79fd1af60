/-
 Slices of numbers with a point that came in: their cells, and that a nil one has no room.
 Chunks that came in: their cells.
 The moves of any chunks, the ranks of any bytes: a walk.
 Ranks that are put are taken, and bytes that are taken are what was put: walks; moves as columns, ranks as bytes: a walk.
-/
import Derived.Test.YtojhenpaeedimaaGreatMg
import Derived.Test.YtojhenpaeedimaaGreatHe
import Derived.Deep.Grids
import Derived.Deep.SlicePairs
import Derived.Test.YtojhenpaeedimaaGreatRz
section
namespace Go.Proofs.YtojhenpaeedimaaGreat
namespace Vf
open Go.ChangeShapes Go.WideShapes Go.RowKit
open Pk Re Rl
set_option maxRecDepth 100000
theorem cells_f64 : Tryz.prog.cellsOf 49 = 1 := by kernel_rfl
section
variable {H : Type} {enc : TypeId × Value → H} {w : World} {r : Reach} {b0 : Nat} {v : Value} {d : DataW H} {ps : List MemPlace}
theorem trod_flt {P : Program} {base : Nat} {spare : Nat → Bool} {held : Bool} {fuel : Nat} {t : TypeId} {cs : List Value} {x : DataW H × List MemPlace} (ht : P.underlying t = some (.float .f64)) (h : DataW.trod enc P w base spare held fuel t cs = some x) :
  ∃ b, cs = [.float .f64 b] ∧ b < 18446744073709551616 := by
 cases fuel with
 | zero => simp [DataW.trod] at h
 | succ n =>
  unfold DataW.trod at h
  rw [ht] at h
  split at h
  case h_3 k k' b heq =>
   injection heq with heq
   injection heq with heq
   subst heq
   split at h
   ·rename_i hc
    obtain ⟨rfl, hw⟩ := hc
    exact ⟨b, rfl, by simpa [Lit.wf] using hw⟩
   ·cases h
  all_goals simp_all
theorem reals_in (hval : Value.okWide Tryz.prog w r b0 23 v) (hj : DataW.Trod enc Tryz.prog w 0 (fun _ => true) true 23 v d ps) :
  ∃ (A : Option Addr) (cap : Nat) (xs : List Nat), v = .slice A xs.length cap ∧ (A = none → cap = 0) ∧ xs.length ≤ cap ∧ xs.length ≤ maxLen ∧ At w w.heap.size A (fvs xs) ∧ Words xs := by
 obtain ⟨a0, len, cap, rfl⟩ := okWide_slice Tryz.underlying23 hval
 obtain ⟨fuel, hf⟩ := hj
 rcases Go.Deep.open_slice1 Tryz.underlying23 cells_f64 hf with ⟨hcs, _⟩ | ⟨a, len', cap', m, n, V, D, Pl, hcs, hb, hl, hm, hmm, _, hx⟩
 ·simp only [Value.cells, List.cons.injEq, and_true] at hcs
  injection hcs with h1 h2 h3
  subst h1 h2 h3
  exact ⟨none, 0, [], rfl, fun _ => rfl, Nat.le_refl _, Nat.zero_le _, At.nil _ _ _, fun u hu => by simp at hu⟩
 ·simp only [Value.cells, List.cons.injEq, and_true] at hcs
  injection hcs with h1 h2 h3
  subst h1 h2 h3
  simp only [if_true] at hmm
  subst hmm
  obtain ⟨B, hB⟩ := Go.Deep.choose_lt (α := Nat) (p := fun i b => V i = .float .f64 b ∧ b < 18446744073709551616) (fun i hi => by
   obtain ⟨b, h1, h2⟩ := trod_flt Tryz.underlying49 (hx i hi).2
   exact ⟨b, by simpa using h1, h2⟩)
  refine ⟨some a, m, (List.range len).map B, by simp, (fun h => by cases h), by simp; exact hl, by simp; omega, fun i v hv => ?_, fun u hu => ?_⟩
  ·have hi : i < len := by
    have := (List.getElem?_eq_some_iff.1 hv).1
    simpa [fvs] using this
   have h00 := (hx 0 (by omega)).1
   have hci := (hx i (by omega)).1
   rw [(hB i (by omega)).1] at hci
   obtain ⟨b, off, spot⟩ := a
   have hspot : spot = none := by simpa [Addr.add] using World.cell?_spot h00
   subst hspot
   rw [Go.WideShapes.add_plain] at hci
   refine ⟨b, off, rfl, World.block_lt_of_cell? _ _ hci, ?_⟩
   rw [hci]
   simp only [fvs, List.map_map] at hv
   rw [List.getElem?_map, List.getElem?_range hi] at hv
   simpa using hv
  ·simp only [List.mem_map, List.mem_range] at hu
   obtain ⟨i, hi, rfl⟩ := hu
   exact (hB i (by omega)).2
end
end Vf
end Go.Proofs.YtojhenpaeedimaaGreat
end
section
namespace Go.Proofs.YtojhenpaeedimaaGreat
namespace Vc
open Go.ChangeShapes Go.WideShapes Go.RowKit Go.Joins
open Pk Ck
set_option maxRecDepth 100000
def numOfV : Value → Int
 | .int _ n => n
 | _ => 0
def strOfV : Value → ByteArray
 | .string s => s
 | _ => ByteArray.empty
theorem cells_chunk : Tryz.prog.cellsOf 53 = 2 := by kernel_rfl
theorem cells_i64 : Tryz.prog.cellsOf 3 = 1 := by kernel_rfl
theorem cells_str : Tryz.prog.cellsOf 9 = 1 := by kernel_rfl
section
variable {H : Type} {enc : TypeId × Value → H} {w : World} {r : Reach} {b0 : Nat} {v : Value} {d : DataW H} {ps : List MemPlace}
theorem chunks_in (hval : Value.okWide Tryz.prog w r b0 26 v) (hj : DataW.Trod enc Tryz.prog w 0 (fun _ => true) true 26 v d ps) :
  ∃ (A : Option Addr) (cap : Nat) (l : List Chk), v = .slice A l.length cap ∧ (A = none → cap = 0) ∧ l.length ≤ cap ∧ l.length ≤ maxLen ∧ At w w.heap.size A (cvs l) ∧ ∀ c ∈ l, c.2.length ≤ maxLen := by
 obtain ⟨a0, len, cap, rfl⟩ := okWide_slice Tryz.underlying26 hval
 obtain ⟨fuel, hf⟩ := hj
 rcases Go.Deep.open_slice_pairs Tryz.underlying26 Tryz.underlying53 cells_chunk rfl rfl cells_i64 cells_str hf with ⟨hcs, _⟩ | ⟨a, len', cap', m, n, V0, V1, D0, D1, P0, P1, hcs, _, hl, hcm, hm, _, hcell⟩
 ·simp only [Value.cells, List.cons.injEq, and_true] at hcs
  injection hcs with h1 h2 h3
  subst h1 h2 h3
  exact ⟨none, 0, [], rfl, fun _ => rfl, Nat.le_refl _, by simp, At.nil _ _ _, fun x hx => by simp at hx⟩
 ·simp only [Value.cells, List.cons.injEq, and_true] at hcs
  injection hcs with h1 h2 h3
  subst h1 h2 h3
  simp only [if_true] at hm
  subst hm
  have hin : ∀ i, i < len → ∃ (u : Int) (c : ByteArray), V0 i = .int .i64 u ∧ V1 i = .string c ∧ c.size ≤ maxLen := fun i hi => by
   obtain ⟨_, _, h0, h1⟩ := hcell i (by omega)
   obtain ⟨x, hx, _, hxw⟩ := DataW.trod_int Tryz.underlying3 h0
   obtain ⟨y, hy, _, hyw⟩ := DataW.trod_string Tryz.underlying9 h1
   exact ⟨x, y, by simpa using hx, by simpa using hy, hyw⟩
  refine ⟨some a, m, (List.range len).map fun i => (numOfV (V0 i), (strOfV (V1 i)).data.toList), by simp, (fun h => by cases h), by simp; exact hl, by simp; omega, fun i v hv => ?_, fun x hx => ?_⟩
  ·have hlt := (List.getElem?_eq_some_iff.1 hv).1
   rw [cvs_len, List.length_map, List.length_range] at hlt
   obtain ⟨k, hk⟩ : ∃ k, k = i / 2 := ⟨_, rfl⟩
   have hkl : k < len := by omega
   obtain ⟨u, c, e0, e1, _⟩ := hin k hkl
   obtain ⟨c0, c1, _, _⟩ := hcell k (by omega)
   have hx : ((List.range len).map fun i => (numOfV (V0 i), (strOfV (V1 i)).data.toList))[k]? = some (u, c.data.toList) := by
    rw [List.getElem?_map, List.getElem?_range hkl, Option.map_some, e0, e1]
    simp [numOfV, strOfV]
   obtain ⟨g0, g1⟩ := cvs_at hx
   rw [ba_of] at g1
   rw [e0] at c0
   rw [e1] at c1
   obtain ⟨b, off, spot⟩ := a
   have h00 := (hcell 0 (by omega)).1
   rw [Nat.zero_mul] at h00
   have hspot : spot = none := by simpa [Addr.add] using World.cell?_spot h00
   subst hspot
   rw [Go.WideShapes.add_plain] at c0 c1
   refine ⟨b, off, rfl, World.block_lt_of_cell? _ _ c0, ?_⟩
   rcases Nat.lt_or_ge (k * 2) i with h | h
   ·have : i = k * 2 + 1 := by omega
    subst this
    rw [g1] at hv
    rw [c1, hv]
   ·have : i = k * 2 := by omega
    subst this
    rw [g0] at hv
    rw [c0, hv]
  ·obtain ⟨i, hi, rfl⟩ := List.mem_map.1 hx
   obtain ⟨u, c, e0, e1, h⟩ := hin i (List.mem_range.1 hi)
   simp only [e1, strOfV]
   have := ba_size c.data.toList
   rw [ba_of] at this
   omega
end
end Vc
end Go.Proofs.YtojhenpaeedimaaGreat
end
section
namespace Go.Proofs.YtojhenpaeedimaaGreat
open Go.RowKit Go.IntWalk
open Pk Rf Fl Wd Ol Dl Ru Fg Dt Rl
set_option maxRecDepth 100000
attribute [local go_sem] Oper.semAt_some
namespace oplogReads
set_option maxHeartbeats 16000000 in
theorem walk (A : Option Addr) (cap : Nat) (l : List Ck.Chk) (s : List UInt8) (n : Int) (hl : l.length ≤ maxLen) (_hs : s.length ≤ maxLen) (hn : -9223372036854775808 ≤ n ∧ n ≤ 9223372036854775807) (w : World) (hc : At w w.heap.size A (Ck.cvs l)) :
  Calls Tryz.prog 4 #[.slice A l.length cap, .string (ba s), .int .i64 n] w fun e w' => e = .returned (.bool true) ∧ Below w.heap.size w w' := by
 have hbs := ba_size s
 have HFEW := Lib.hid (few11_v (q := Ck.few l) (cap := cap) rfl hl hc)
 have HC := Lib.hid hc
 clear hc
 rcases Decidable.em (Ck.few l = false) with hf | hf
 ·rw [hf] at HFEW
  go_enter Tryz.func4, Tryz.ntmps4
  go_wp2_with fail
  refine HFEW.out.mono ?_
  rintro e wq ⟨rfl, hw⟩
  subst hw
  go_wp2_with fail
  refine (live19_c _).mono ?_
  rintro e w1 ⟨rfl, hb⟩
  go_wp2_with fail
  go_ret
  exact ⟨rfl, hb⟩
 have hf2 : Ck.few l = true := by simpa using hf
 rw [hf2] at HFEW
 by_cases hbig : 500 < s.length
 ·have hb1 : (500 : Int) < (s.length : Int) := by omega
  go_enter Tryz.func4, Tryz.ntmps4
  go_wp2_with fail
  refine HFEW.out.mono ?_
  rintro e wq ⟨rfl, hw⟩
  subst hw
  go_wp2_with fail
  refine (live19_c _).mono ?_
  rintro e w1 ⟨rfl, hb⟩
  go_wp2_with fail
  go_ret
  exact ⟨rfl, hb⟩
 have hb1 : ¬ (500 : Int) < (s.length : Int) := by omega
 obtain ⟨hl20, hl200⟩ := Ck.few_in hf2
 obtain ⟨⟨r, x⟩, hd⟩ : ∃ q, decO l = q := ⟨_, rfl⟩
 obtain ⟨⟨us, z⟩, ht⟩ : ∃ q, takeU s n = q := ⟨_, rfl⟩
 obtain ⟨N, hN⟩ : ∃ N, r.length = N := ⟨_, rfl⟩
 obtain ⟨M, hM⟩ : ∃ M, us.length = M := ⟨_, rfl⟩
 have hN2 : N ≤ 2000 := by rw [← hN]; exact (decO_names hd).2
 have HSM := Lib.hid (show ∀ q ∈ l, q.2.length ≤ 90000 from fun q hq => by have := hl200 q hq; omega)
 have HD := Lib.hid hd
 have HT := Lib.hid ht
 have HN := Lib.hid hN
 have HM := Lib.hid hM
 have HS := Lib.hid (show s.length ≤ 90000 by omega)
 have HL := Lib.hid (show l.length ≤ 100000 by omega)
 have H1 := Lib.hid hn
 clear hd ht hN hM hl200 hf hf2 hbig hn
 go_enter Tryz.func4, Tryz.ntmps4
 go_wp2_with fail
 refine HFEW.out.mono ?_
 rintro e wq ⟨rfl, hw⟩
 subst hw
 have B0 : Hid (Below w.heap.size w w) := Lib.hid (Below.refl _ _)
 have C0 := Lib.hid HC.out
 go_wp2_with fail
 refine (odec_v rfl HD.out HN.out HL.out HSM.out C0.out).mono ?_
 rintro e w1 ⟨A1, c1, m1, rfl, hm1, hs1, ha, hb⟩
 have B1 := Lib.hid (B0.out.trans (hb.mono B0.out.size))
 have C1 := Lib.hid (C0.out.keep hb)
 clear hb B0 C0
 have P1 := Lib.hid ha
 clear ha
 go_wp2_with fail
 refine (ordec_v rfl HD.out HN.out HL.out HSM.out C1.out).mono ?_
 rintro e w2 ⟨A2, c2, m2, rfl, hm2, hs2, ha, hb⟩
 have B2 := Lib.hid (B1.out.trans (hb.mono B1.out.size))
 have C2 := Lib.hid (C1.out.keep hb)
 have P2 := Lib.hid (P1.out.keep hb)
 clear hb B1 C1 P1
 have Q2 := Lib.hid ha
 clear ha
 go_wp2_with fail
 refine (otake_v rfl HT.out HM.out HS.out H1.out.1 H1.out.2 _).mono ?_
 rintro e w3 ⟨A3, c3, y1, rfl, hy1, hc1, hw1, ha, hb⟩
 have B3 := Lib.hid (B2.out.trans (hb.mono B2.out.size))
 have C3 := Lib.hid (C2.out.keep hb)
 have P3 := Lib.hid (P2.out.keep hb)
 have Q3 := Lib.hid (Q2.out.keep hb)
 clear hb B2 C2 P2 Q2
 have R3 := Lib.hid ha
 clear ha
 go_wp2_with fail
 refine (ortake_v rfl HT.out HM.out HS.out H1.out.1 H1.out.2 _).mono ?_
 rintro e w4 ⟨A4, c4, y2, rfl, hy2, hc2, hw2, ha, hb⟩
 have B4 := Lib.hid (B3.out.trans (hb.mono B3.out.size))
 have C4 := Lib.hid (C3.out.keep hb)
 have P4 := Lib.hid (P3.out.keep hb)
 have Q4 := Lib.hid (Q3.out.keep hb)
 have R4 := Lib.hid (R3.out.keep hb)
 clear hb B3 C3 P3 Q3 R3
 have T4 := Lib.hid ha
 clear ha
 have hM2 : M ≤ maxLen := takeU_max HT.out HM.out HS.out
 have X1 := Lib.hid (rmsame_v (c1 := c1) (c2 := c2) (sim_sameM hs1 hs2) hm1 hm2 (by rw [hm1]; unfold maxLen; omega) (by rw [hm2]; unfold maxLen; omega) (sim_movesO HD.out hs1) (sim_movesO HD.out hs2) P4.out Q4.out)
 have Y1 := Lib.hid hy1
 have Y2 := Lib.hid hy2
 have Z1 := Lib.hid (decide_eq_true (hc1.trans hc2.symm))
 have V1 := Lib.hid hw1
 have V2 := Lib.hid hw2
 have U1 := Lib.hid (show y1.length ≤ maxLen by rw [hy1]; exact hM2)
 have U2 := Lib.hid (show y2.length ≤ maxLen by rw [hy2]; exact hM2)
 clear hm1 hs1 hm2 hs2 hy1 hc1 hw1 hy2 hc2 hw2 hM2
 go_wp2_with fail
 refine (X1.out).mono ?_
 rintro e w5 ⟨rfl, hb⟩
 have B5 := Lib.hid (B4.out.trans (hb.mono B4.out.size))
 have C5 := Lib.hid (C4.out.keep hb)
 have P5 := Lib.hid (P4.out.keep hb)
 have Q5 := Lib.hid (Q4.out.keep hb)
 have R5 := Lib.hid (R4.out.keep hb)
 have T5 := Lib.hid (T4.out.keep hb)
 clear hb B4 C4 P4 Q4 R4 T4
 go_wp2_with fail
 refine (rsame9_v Z1.out Y1.out Y2.out U1.out U2.out V1.out V2.out R5.out T5.out).mono ?_
 rintro e wq ⟨rfl, q, hwq⟩
 have hb : Below w5.heap.size w5 wq := by rw [hwq]; exact below_drewN (Below.refl _ _) q
 clear hwq
 obtain ⟨w6, hw6⟩ : ∃ w6, w6 = wq := ⟨_, rfl⟩
 rw [← hw6] at hb ⊢
 clear hw6
 have B6 := Lib.hid (B5.out.trans (hb.mono B5.out.size))
 have C6 := Lib.hid (C5.out.keep hb)
 have P6 := Lib.hid (P5.out.keep hb)
 have Q6 := Lib.hid (Q5.out.keep hb)
 have R6 := Lib.hid (R5.out.keep hb)
 have T6 := Lib.hid (T5.out.keep hb)
 clear hb B5 C5 P5 Q5 R5 T5
 go_wp2_with fail
 refine (live19_c _).mono ?_
 rintro e w7 ⟨rfl, hb⟩
 have B7 := Lib.hid (B6.out.trans (hb.mono B6.out.size))
 have C7 := Lib.hid (C6.out.keep hb)
 have P7 := Lib.hid (P6.out.keep hb)
 have Q7 := Lib.hid (Q6.out.keep hb)
 have R7 := Lib.hid (R6.out.keep hb)
 have T7 := Lib.hid (T6.out.keep hb)
 clear hb B6 C6 P6 Q6 R6 T6
 go_wp2_with fail
 go_ret
 exact ⟨rfl, B7.out⟩
end oplogReads
end Go.Proofs.YtojhenpaeedimaaGreat
end
section
namespace Go.Proofs.YtojhenpaeedimaaGreat
open Go.RowKit Go.IntWalk
open Pk Rf Fl Wd Ol Dl Ru Fg Dt Rl
set_option maxRecDepth 100000
attribute [local go_sem] Oper.semAt_some
theorem few_z {l : List Mv} {n : Nat} {q : Bool} {z : Int} (h : fewM l n = q) (hz : (n : Int) = z) (hn : n ≤ 1000) {A : Option Addr} {cap : Nat} (hl : l.length ≤ maxLen) {w : World} (hc : At w w.heap.size A (mvs l)) :
  Calls Tryz.prog 9 #[.slice A l.length cap, .int .i64 z] w fun e w' => e = .returned (.bool q) ∧ w = w' := by
 subst hz; exact few_q h hn hl hc
theorem rk_good {l : List Nat} (h : Re.Words l) : Re.Good (cbs l) := fun u hu => by
 obtain ⟨x, hx, rfl⟩ := List.mem_map.1 hu
 exact ⟨cb_lt x (h x hx), cn_cb (h x hx)⟩
theorem rk_take {l : List Nat} (h : Re.Words l) (hl : l.length ≤ 4096) {n : Int} (hn : n = (l.length : Int)) : takeU (rkF l) n = (cbs l, 0) := by
 subst hn
 have := takeU_rkU (rk_good h) (by rw [cbs_len]; exact hl)
 rw [cbs_len] at this
 exact this
theorem rk_off {l : List Nat} (hl : l.length ≤ 4096) {n : Int} (hn : n ≠ (l.length : Int)) : (takeU (rkF l) n).2 ≠ 0 := takeU_len (by rw [cbs_len]; exact hl) (by rw [cbs_len]; exact hn)
theorem rk_bytes {l : List Nat} (hl : l.length ≤ 1000) : (rkF l).length ≤ 90000 := by
 have hfl := fnz_len l
 have h1' : (nzL l).length = l.length := List.length_map ..
 have h1 := encF_len (l := nzL l) (by omega)
 rw [h1'] at h1
 have h2 := (Re.encR_len (cbs (fnz l))).2
 rw [cbs_len] at h2
 have h3 := prt_len (s := encF (nzL l)) (by omega)
 rw [rkF_eq, List.length_append]
 omega
namespace oplogRanks
set_option maxHeartbeats 16000000 in
theorem walk_a (A : Option Addr) (cap : Nat) (l : List Nat) (s : List UInt8) (n : Int) (hA : A = none → cap = 0) (hl : l.length ≤ 100) (hs : s.length ≤ 500) (hn : -9223372036854775808 ≤ n ∧ n ≤ 9223372036854775807) (hw : Re.Words l) (hne : n ≠ (l.length : Int)) (w : World) (hc : At w w.heap.size A (fvs l)) :
  Calls Tryz.prog 6 #[.slice A l.length cap, .string (ba s), .int .i64 n] w fun e w' => e = .returned (.bool true) ∧ Below w.heap.size w w' := by
 have hbs := ba_size s
 have hb0 : ¬ (100 : Int) < (l.length : Int) := by omega
 have hb1 : ¬ (500 : Int) < (s.length : Int) := by omega
 obtain ⟨L, hL⟩ : ∃ L, l.length = L := ⟨_, rfl⟩
 obtain ⟨T, hT⟩ : ∃ T, ba (rkF l) = T := ⟨_, rfl⟩
 have ht1 := rk_take hw (by omega) (n := (l.length : Int)) rfl
 have hbt := rk_bytes (l := l) (by omega)
 have hcl : (cbs l).length = L := by rw [cbs_len, hL]
 obtain ⟨⟨ux, zx⟩, htx⟩ : ∃ q, takeU (rkF l) n = q := ⟨_, rfl⟩
 have hzx : zx ≠ 0 := by have := rk_off (l := l) (by omega) hne; rw [htx] at this; exact this
 have HTX := Lib.hid htx
 have HZX := Lib.hid hzx
 have hq1 : (n != (L : Int)) = true := by rw [← hL]; simpa using hne
 have hq2 : (n == (L : Int)) = false := by rw [← hL]; simpa using hne
 have hq3 : ¬ n = (L : Int) := by rw [← hL]; exact hne
 have hz1 : (zx == 0) = false := by simpa using hzx
 have hz2 : (zx != 0) = true := by simpa using hzx
 clear htx hzx
 obtain ⟨⟨us, z⟩, ht⟩ : ∃ q, takeU s n = q := ⟨_, rfl⟩
 obtain ⟨M, hM⟩ : ∃ M, us.length = M := ⟨_, rfl⟩
 have HLL := Lib.hid hL
 have HT := Lib.hid hT
 have HT1 := Lib.hid ht1
 have HBT := Lib.hid hbt
 have HCL := Lib.hid hcl
 have HTK := Lib.hid ht
 have HM := Lib.hid hM
 have HW := Lib.hid hw
 have HC := Lib.hid hc
 have HA := Lib.hid hA
 have H1 := Lib.hid hn
 have HS := Lib.hid (show s.length ≤ 90000 by omega)
 have hL1 : L ≤ 100 := by omega
 have hLL0 : (-9223372036854775808 : Int) ≤ (L : Int) := by omega
 have hLL9 : (L : Int) ≤ 9223372036854775807 := by omega
 rw [hL] at hb0 ⊢
 rw [hL] at HT1
 clear hL hT ht1 hbt hcl ht hM hw hc hA hn hne hl
 go_enter Tryz.func6, Tryz.ntmps6
 have B0 : Hid (Below w.heap.size w w) := Lib.hid (Below.refl _ _)
 have C0 := Lib.hid HC.out
 go_wp2_with fail
 refine (pranks_k HLL.out HT.out (by omega) HA.out HW.out C0.out).mono ?_
 rintro e w1 ⟨rfl, hb⟩
 have B1 := Lib.hid (B0.out.trans (hb.mono B0.out.size))
 have C1 := Lib.hid (C0.out.keep hb)
 clear hb B0 C0
 go_wp2_with fail
 refine (otake_v HT.out HT1.out HCL.out HBT.out hLL0 hLL9 _).mono ?_
 rintro e w2 ⟨A1, c1, y1, rfl, hy1, hc1, hw1, ha, hb⟩
 have B2 := Lib.hid (B1.out.trans (hb.mono B1.out.size))
 have C2 := Lib.hid (C1.out.keep hb)
 clear hb B1 C1
 have P2 := Lib.hid ha
 clear ha
 have Z1 := Lib.hid (decide_eq_true hc1)
 have U1 := Lib.hid (show y1.length ≤ maxLen by rw [hy1]; unfold maxLen; omega)
 have U2 := Lib.hid (show l.length ≤ maxLen by rw [HLL.out]; unfold maxLen; omega)
 have Y1 := Lib.hid hy1
 have V1 := Lib.hid hw1
 clear hy1 hc1 hw1
 go_wp2_with fail
 refine (rsame9_v Z1.out Y1.out HLL.out U1.out U2.out V1.out HW.out P2.out C2.out).mono ?_
 rintro e wq ⟨rfl, q, hwq⟩
 have hb : Below w2.heap.size w2 wq := by rw [hwq]; exact below_drewN (Below.refl _ _) q
 clear hwq
 obtain ⟨w3, hw3⟩ : ∃ w3, w3 = wq := ⟨_, rfl⟩
 rw [← hw3] at hb ⊢
 clear hw3
 have B3 := Lib.hid (B2.out.trans (hb.mono B2.out.size))
 have C3 := Lib.hid (C2.out.keep hb)
 have P3 := Lib.hid (P2.out.keep hb)
 clear hb B2 C2 P2
 obtain ⟨MX, hMX⟩ : ∃ MX, ux.length = MX := ⟨_, rfl⟩
 have HMX := Lib.hid hMX
 clear hMX
 go_wp2_with fail
 refine (otake_v HT.out HTX.out HMX.out HBT.out H1.out.1 H1.out.2 _).mono ?_
 rintro e w4 ⟨A2, c2, y2, rfl, -, -, -, -, hb⟩
 have B4 := Lib.hid (B3.out.trans (hb.mono B3.out.size))
 have C4 := Lib.hid (C3.out.keep hb)
 have P4 := Lib.hid (P3.out.keep hb)
 clear hb B3 C3 P3
 go_wp2_with fail
 refine (otake_w rfl HTK.out HM.out HS.out H1.out.1 H1.out.2 _).mono ?_
 rintro e w5 ⟨A3, c3, y3, rfl, hy3, hc3, hw3, ha, hno, hb⟩
 have B5 := Lib.hid (B4.out.trans (hb.mono B4.out.size))
 have C5 := Lib.hid (C4.out.keep hb)
 have P5 := Lib.hid (P4.out.keep hb)
 clear hb B4 C4 P4
 have R5 := Lib.hid ha
 clear ha
 have Y3 := Lib.hid hy3
 have HNO := Lib.hid hno
 have C3 := Lib.hid hc3
 have V3 := Lib.hid hw3
 clear hy3 hno hc3 hw3
 rcases Decidable.em (z ≠ 0) with hz | hz
 ·have hu := takeU_none (s := s) (n := n) (by rw [HTK.out]; exact hz)
  rw [HTK.out] at hu
  have hM0 : M = 0 := by rw [← HM.out]; simp only at hu; rw [hu]; rfl
  subst hM0
  have hz1 : (z != 0) = true := by simpa using hz
  have hz2 : (z == 0) = false := by simpa using hz
  clear hu
  go_wp2_with fail
  refine (live19_c _).mono ?_
  rintro e w9 ⟨rfl, hb⟩
  go_wp2_with fail
  go_ret
  exact ⟨rfl, B5.out.trans (hb.mono B5.out.size)⟩
 obtain rfl : z = 0 := by simpa using hz
 have hbk := takeU_back HTK.out
 have hMn : (M : Int) = n := by rw [← HM.out]; exact hbk.2.1
 have hM9 := takeU_fit HTK.out
 rw [HM.out] at hM9
 have hrb : ba (rkF y3) = ba s := by unfold rkF; rw [C3.out, hbk.1]
 have HRB := Lib.hid hrb
 have hmq : ((M : Int) == n) = true := by rw [hMn]; simp
 clear hbk hrb hz
 go_wp2_with fail
 refine (pranks_k Y3.out HRB.out (by omega) HNO.out V3.out R5.out).mono ?_
 rintro e w6 ⟨rfl, hb⟩
 have B6 := Lib.hid (B5.out.trans (hb.mono B5.out.size))
 have C6 := Lib.hid (C5.out.keep hb)
 have P6 := Lib.hid (P5.out.keep hb)
 have R6 := Lib.hid (R5.out.keep hb)
 clear hb B5 C5 P5 R5
 go_wp2_with fail
 refine (live19_c _).mono ?_
 rintro e w7 ⟨rfl, hb⟩
 have B7 := Lib.hid (B6.out.trans (hb.mono B6.out.size))
 have C7 := Lib.hid (C6.out.keep hb)
 have P7 := Lib.hid (P6.out.keep hb)
 have R7 := Lib.hid (R6.out.keep hb)
 clear hb B6 C6 P6 R6
 go_wp2_with fail
 go_ret
 exact ⟨rfl, B7.out⟩
set_option maxHeartbeats 16000000 in
theorem walk_b (A : Option Addr) (cap : Nat) (l : List Nat) (s : List UInt8) (n : Int) (hA : A = none → cap = 0) (hl : l.length ≤ 100) (hs : s.length ≤ 500) (hn : -9223372036854775808 ≤ n ∧ n ≤ 9223372036854775807) (hw : Re.Words l) (hne : n = (l.length : Int)) (w : World) (hc : At w w.heap.size A (fvs l)) :
  Calls Tryz.prog 6 #[.slice A l.length cap, .string (ba s), .int .i64 n] w fun e w' => e = .returned (.bool true) ∧ Below w.heap.size w w' := by
 have hbs := ba_size s
 have hb0 : ¬ (100 : Int) < (l.length : Int) := by omega
 have hb1 : ¬ (500 : Int) < (s.length : Int) := by omega
 obtain ⟨L, hL⟩ : ∃ L, l.length = L := ⟨_, rfl⟩
 obtain ⟨T, hT⟩ : ∃ T, ba (rkF l) = T := ⟨_, rfl⟩
 have ht1 := rk_take hw (by omega) (n := (l.length : Int)) rfl
 have hbt := rk_bytes (l := l) (by omega)
 have hcl : (cbs l).length = L := by rw [cbs_len, hL]
 obtain rfl : n = (L : Int) := by rw [← hL]; exact hne
 obtain ⟨⟨us, z⟩, ht⟩ : ∃ q, takeU s (L : Int) = q := ⟨_, rfl⟩
 obtain ⟨M, hM⟩ : ∃ M, us.length = M := ⟨_, rfl⟩
 have HLL := Lib.hid hL
 have HT := Lib.hid hT
 have HT1 := Lib.hid ht1
 have HBT := Lib.hid hbt
 have HCL := Lib.hid hcl
 have HTK := Lib.hid ht
 have HM := Lib.hid hM
 have HW := Lib.hid hw
 have HC := Lib.hid hc
 have HA := Lib.hid hA
 have H1 := Lib.hid hn
 have HS := Lib.hid (show s.length ≤ 90000 by omega)
 have hL1 : L ≤ 100 := by omega
 have hLL0 : (-9223372036854775808 : Int) ≤ (L : Int) := by omega
 have hLL9 : (L : Int) ≤ 9223372036854775807 := by omega
 rw [hL] at hb0 ⊢
 rw [hL] at HT1
 clear hL hT ht1 hbt hcl ht hM hw hc hA hn hne hl
 go_enter Tryz.func6, Tryz.ntmps6
 have B0 : Hid (Below w.heap.size w w) := Lib.hid (Below.refl _ _)
 have C0 := Lib.hid HC.out
 go_wp2_with fail
 refine (pranks_k HLL.out HT.out (by omega) HA.out HW.out C0.out).mono ?_
 rintro e w1 ⟨rfl, hb⟩
 have B1 := Lib.hid (B0.out.trans (hb.mono B0.out.size))
 have C1 := Lib.hid (C0.out.keep hb)
 clear hb B0 C0
 go_wp2_with fail
 refine (otake_v HT.out HT1.out HCL.out HBT.out hLL0 hLL9 _).mono ?_
 rintro e w2 ⟨A1, c1, y1, rfl, hy1, hc1, hw1, ha, hb⟩
 have B2 := Lib.hid (B1.out.trans (hb.mono B1.out.size))
 have C2 := Lib.hid (C1.out.keep hb)
 clear hb B1 C1
 have P2 := Lib.hid ha
 clear ha
 have Z1 := Lib.hid (decide_eq_true hc1)
 have U1 := Lib.hid (show y1.length ≤ maxLen by rw [hy1]; unfold maxLen; omega)
 have U2 := Lib.hid (show l.length ≤ maxLen by rw [HLL.out]; unfold maxLen; omega)
 have Y1 := Lib.hid hy1
 have V1 := Lib.hid hw1
 clear hy1 hc1 hw1
 go_wp2_with fail
 refine (rsame9_v Z1.out Y1.out HLL.out U1.out U2.out V1.out HW.out P2.out C2.out).mono ?_
 rintro e wq ⟨rfl, q, hwq⟩
 have hb : Below w2.heap.size w2 wq := by rw [hwq]; exact below_drewN (Below.refl _ _) q
 clear hwq
 obtain ⟨w3, hw3⟩ : ∃ w3, w3 = wq := ⟨_, rfl⟩
 rw [← hw3] at hb ⊢
 clear hw3
 have B3 := Lib.hid (B2.out.trans (hb.mono B2.out.size))
 have C3 := Lib.hid (C2.out.keep hb)
 have P3 := Lib.hid (P2.out.keep hb)
 clear hb B2 C2 P2
 go_wp2_with fail
 refine (otake_w rfl HTK.out HM.out HS.out H1.out.1 H1.out.2 _).mono ?_
 rintro e w4 ⟨A3, c3, y3, rfl, hy3, hc3, hw3, ha, hno, hb⟩
 have B4 := Lib.hid (B3.out.trans (hb.mono B3.out.size))
 have C4 := Lib.hid (C3.out.keep hb)
 have P4 := Lib.hid (P3.out.keep hb)
 clear hb B3 C3 P3
 have R4 := Lib.hid ha
 clear ha
 have Y3 := Lib.hid hy3
 have HNO := Lib.hid hno
 have C3 := Lib.hid hc3
 have V3 := Lib.hid hw3
 clear hy3 hno hc3 hw3
 rcases Decidable.em (z ≠ 0) with hz | hz
 ·have hu := takeU_none (s := s) (n := (L : Int)) (by rw [HTK.out]; exact hz)
  rw [HTK.out] at hu
  have hM0 : M = 0 := by rw [← HM.out]; simp only at hu; rw [hu]; rfl
  subst hM0
  have hz1 : (z != 0) = true := by simpa using hz
  have hz2 : (z == 0) = false := by simpa using hz
  clear hu
  go_wp2_with fail
  refine (live19_c _).mono ?_
  rintro e w9 ⟨rfl, hb⟩
  go_wp2_with fail
  go_ret
  exact ⟨rfl, B4.out.trans (hb.mono B4.out.size)⟩
 obtain rfl : z = 0 := by simpa using hz
 have hbk := takeU_back HTK.out
 have hMn : (M : Int) = (L : Int) := by rw [← HM.out]; exact hbk.2.1
 have hM9 := takeU_fit HTK.out
 rw [HM.out] at hM9
 have hrb : ba (rkF y3) = ba s := by unfold rkF; rw [C3.out, hbk.1]
 have HRB := Lib.hid hrb
 have hmq : ((M : Int) == (L : Int)) = true := by rw [hMn]; simp
 clear hbk hrb hz
 go_wp2_with fail
 refine (pranks_k Y3.out HRB.out (by omega) HNO.out V3.out R4.out).mono ?_
 rintro e w5 ⟨rfl, hb⟩
 have B5 := Lib.hid (B4.out.trans (hb.mono B4.out.size))
 have C5 := Lib.hid (C4.out.keep hb)
 have P5 := Lib.hid (P4.out.keep hb)
 have R5 := Lib.hid (R4.out.keep hb)
 clear hb B4 C4 P4 R4
 go_wp2_with fail
 refine (live19_c _).mono ?_
 rintro e w6 ⟨rfl, hb⟩
 have B6 := Lib.hid (B5.out.trans (hb.mono B5.out.size))
 have C6 := Lib.hid (C5.out.keep hb)
 have P6 := Lib.hid (P5.out.keep hb)
 have R6 := Lib.hid (R5.out.keep hb)
 clear hb B5 C5 P5 R5
 go_wp2_with fail
 go_ret
 exact ⟨rfl, B6.out⟩
theorem walk (A : Option Addr) (cap : Nat) (l : List Nat) (s : List UInt8) (n : Int) (hA : A = none → cap = 0) (_hl : l.length ≤ maxLen) (_hs : s.length ≤ maxLen) (hn : -9223372036854775808 ≤ n ∧ n ≤ 9223372036854775807) (hw : Re.Words l) (w : World) (hc : At w w.heap.size A (fvs l)) :
  Calls Tryz.prog 6 #[.slice A l.length cap, .string (ba s), .int .i64 n] w fun e w' => e = .returned (.bool true) ∧ Below w.heap.size w w' := by
 have hbs := ba_size s
 by_cases hb : 100 < l.length
 ·have hb0 : (100 : Int) < (l.length : Int) := by omega
  go_enter Tryz.func6, Tryz.ntmps6
  go_wp2_with fail
  refine (live19_c _).mono ?_
  rintro e w1 ⟨rfl, hb⟩
  go_wp2_with fail
  go_ret
  exact ⟨rfl, hb⟩
 by_cases hb1 : 500 < s.length
 ·have hb0 : ¬ (100 : Int) < (l.length : Int) := by omega
  have hb2 : (500 : Int) < (s.length : Int) := by omega
  go_enter Tryz.func6, Tryz.ntmps6
  go_wp2_with fail
  refine (live19_c _).mono ?_
  rintro e w1 ⟨rfl, hb⟩
  go_wp2_with fail
  go_ret
  exact ⟨rfl, hb⟩
 by_cases hne : n = (l.length : Int)
 ·exact walk_b A cap l s n hA (by omega) (by omega) hn hw hne w hc
 ·exact walk_a A cap l s n hA (by omega) (by omega) hn hw hne w hc
end oplogRanks
namespace oplogWrites
theorem few_mok4 {l : List Mv} {n : Nat} (h : fewM l n = true) (hm : Moves_ l) : Mok4 l := fun m hmm => ⟨(hm m hmm).1, by have := (fewM_in h).2 m hmm; omega⟩
set_option maxHeartbeats 16000000 in
theorem walk (A : Option Addr) (cap : Nat) (l : List Mv) (A1 : Option Addr) (cap1 : Nat) (r : List Nat) (s : List UInt8) (hA : A1 = none → cap1 = 0) (hl : l.length ≤ maxLen) (_hr : r.length ≤ maxLen) (_hs : s.length ≤ maxLen) (hmv : Moves_ l) (hw : Re.Words r) (w : World) (hc : At w w.heap.size A (mvs l)) (hc1 : At w w.heap.size A1 (fvs r)) :
  Calls Tryz.prog 3 #[.slice A l.length cap, .slice A1 r.length cap1, .string (ba s)] w fun e w' => e = .returned (.bool true) ∧ Below w.heap.size w w' := by
 have hbs := ba_size s
 obtain ⟨q, hq⟩ : ∃ q, fewM l 60 = q := ⟨_, rfl⟩
 have HFEW := Lib.hid (few_z (cap := cap) (z := 60) hq rfl (by decide) hl hc)
 cases q with
 | false =>
  go_enter Tryz.func3, Tryz.ntmps3
  go_wp2_with fail
  refine HFEW.out.mono ?_
  rintro e wq ⟨rfl, hw⟩
  subst hw
  go_wp2_with fail
  refine (live19_c _).mono ?_
  rintro e w1 ⟨rfl, hb⟩
  go_wp2_with fail
  go_ret
  exact ⟨rfl, hb⟩
 | true =>
 by_cases hb : 60 < r.length
 ·have hb0 : (60 : Int) < (r.length : Int) := by omega
  go_enter Tryz.func3, Tryz.ntmps3
  go_wp2_with fail
  refine HFEW.out.mono ?_
  rintro e wq ⟨rfl, hw⟩
  subst hw
  go_wp2_with fail
  refine (live19_c _).mono ?_
  rintro e w1 ⟨rfl, hb⟩
  go_wp2_with fail
  go_ret
  exact ⟨rfl, hb⟩
 by_cases hb1 : 500 < s.length
 ·have hb0 : ¬ (60 : Int) < (r.length : Int) := by omega
  have hb2 : (500 : Int) < (s.length : Int) := by omega
  go_enter Tryz.func3, Tryz.ntmps3
  go_wp2_with fail
  refine HFEW.out.mono ?_
  rintro e wq ⟨rfl, hw⟩
  subst hw
  go_wp2_with fail
  refine (live19_c _).mono ?_
  rintro e w1 ⟨rfl, hb⟩
  go_wp2_with fail
  go_ret
  exact ⟨rfl, hb⟩
 have hb0 : ¬ (60 : Int) < (r.length : Int) := by omega
 have hb2 : ¬ (500 : Int) < (s.length : Int) := by omega
 obtain ⟨c, hcc⟩ : ∃ c, encC l = c := ⟨_, rfl⟩
 obtain ⟨x, hx⟩ : ∃ x, encE l = x := ⟨_, rfl⟩
 obtain ⟨⟨a, b, z⟩, hz⟩ : ∃ q, cutP s = q := ⟨_, rfl⟩
 obtain ⟨T, hT⟩ : ∃ T, ba (rkF r) = T := ⟨_, rfl⟩
 obtain ⟨U, hU⟩ : ∃ U, ba (prt s) = U := ⟨_, rfl⟩
 obtain ⟨P, hP⟩ : ∃ P, ba a = P := ⟨_, rfl⟩
 obtain ⟨Q, hQ⟩ : ∃ Q, ba b = Q := ⟨_, rfl⟩
 have hln := (fewM_in hq).1
 have hcl : c.length ≤ 5 := by rw [← hcc]; unfold encC; split <;> simp [encO]
 have HOK := Lib.hid (few_mok4 hq hmv)
 have HCC := Lib.hid hcc
 have HX := Lib.hid hx
 have HZ := Lib.hid hz
 have HT := Lib.hid hT
 have HU := Lib.hid hU
 have HP := Lib.hid hP
 have HQ := Lib.hid hQ
 have HC := Lib.hid hc
 have HC1 := Lib.hid hc1
 have HW := Lib.hid hw
 have HA := Lib.hid hA
 have HL4 := Lib.hid (show l.length ≤ 4000 by omega)
 have HR9 := Lib.hid (show r.length ≤ 10000 by omega)
 have HS1 := Lib.hid (show s.length ≤ 1000000000 by omega)
 have HS2 := Lib.hid (show s.length ≤ 1000000 by omega)
 have HCL := Lib.hid (show c.length ≤ maxLen by unfold maxLen; omega)
 clear hcc hx hz hT hU hP hQ hc hc1 hw hA hmv hq hln hb hb1
 go_enter Tryz.func3, Tryz.ntmps3
 go_wp2_with fail
 refine HFEW.out.mono ?_
 rintro e wq ⟨rfl, hw⟩
 subst hw
 have B0 : Hid (Below w.heap.size w w) := Lib.hid (Below.refl _ _)
 have C0 := Lib.hid HC.out
 have D0 := Lib.hid HC1.out
 go_wp2_with fail
 refine (oenc_v rfl HCC.out HX.out HL4.out HOK.out C0.out).mono ?_
 rintro e w1 ⟨A2, c2, rfl, ha, -, hb⟩
 have B1 := Lib.hid (B0.out.trans (hb.mono B0.out.size))
 have C1 := Lib.hid (C0.out.keep hb)
 have D1 := Lib.hid (D0.out.keep hb)
 clear hb B0 C0 D0
 have P1 := Lib.hid ha
 clear ha
 go_wp2_with fail
 refine (orenc_v rfl HCC.out HX.out HL4.out HOK.out C1.out).mono ?_
 rintro e w2 ⟨A3, c3, rfl, ha, -, hb⟩
 have B2 := Lib.hid (B1.out.trans (hb.mono B1.out.size))
 have C2 := Lib.hid (C1.out.keep hb)
 have D2 := Lib.hid (D1.out.keep hb)
 have P2 := Lib.hid (P1.out.keep hb)
 clear hb B1 C1 D1 P1
 have Q2 := Lib.hid ha
 clear ha
 go_wp2_with fail
 refine (ocut_v rfl HZ.out HP.out HQ.out HS1.out _).mono ?_
 rintro e w3 ⟨rfl, hb⟩
 have B3 := Lib.hid (B2.out.trans (hb.mono B2.out.size))
 have C3 := Lib.hid (C2.out.keep hb)
 have D3 := Lib.hid (D2.out.keep hb)
 have P3 := Lib.hid (P2.out.keep hb)
 have Q3 := Lib.hid (Q2.out.keep hb)
 clear hb B2 C2 D2 P2 Q2
 go_wp2_with fail
 refine (orcut_v rfl HZ.out HP.out HQ.out HS1.out _).mono ?_
 rintro e w4 ⟨rfl, hb⟩
 have B4 := Lib.hid (B3.out.trans (hb.mono B3.out.size))
 have C4 := Lib.hid (C3.out.keep hb)
 have D4 := Lib.hid (D3.out.keep hb)
 have P4 := Lib.hid (P3.out.keep hb)
 have Q4 := Lib.hid (Q3.out.keep hb)
 clear hb B3 C3 D3 P3 Q3
 go_wp2_with fail
 refine (same11_v (decide_eq_true (rfl : c = c)) rfl rfl HCL.out HCL.out P4.out Q4.out).mono ?_
 rintro e wq ⟨rfl, q, hwq⟩
 have hb : Below w4.heap.size w4 wq := by rw [hwq]; exact below_drewN (Below.refl _ _) q
 clear hwq
 obtain ⟨w5, hw5⟩ : ∃ w5, w5 = wq := ⟨_, rfl⟩
 rw [← hw5] at hb ⊢
 clear hw5
 have B5 := Lib.hid (B4.out.trans (hb.mono B4.out.size))
 have C5 := Lib.hid (C4.out.keep hb)
 have D5 := Lib.hid (D4.out.keep hb)
 have P5 := Lib.hid (P4.out.keep hb)
 have Q5 := Lib.hid (Q4.out.keep hb)
 clear hb B4 C4 D4 P4 Q4
 go_wp2_with fail
 refine (pranks_k rfl HT.out HR9.out HA.out HW.out D5.out).mono ?_
 rintro e w6 ⟨rfl, hb⟩
 have B6 := Lib.hid (B5.out.trans (hb.mono B5.out.size))
 have C6 := Lib.hid (C5.out.keep hb)
 have D6 := Lib.hid (D5.out.keep hb)
 have P6 := Lib.hid (P5.out.keep hb)
 have Q6 := Lib.hid (Q5.out.keep hb)
 clear hb B5 C5 D5 P5 Q5
 go_wp2_with fail
 refine (pranksD_k rfl HT.out HR9.out HW.out D6.out).mono ?_
 rintro e w7 ⟨rfl, hb⟩
 have B7 := Lib.hid (B6.out.trans (hb.mono B6.out.size))
 have C7 := Lib.hid (C6.out.keep hb)
 have D7 := Lib.hid (D6.out.keep hb)
 have P7 := Lib.hid (P6.out.keep hb)
 have Q7 := Lib.hid (Q6.out.keep hb)
 clear hb B6 C6 D6 P6 Q6
 go_wp2_with fail
 refine (prt_v rfl HU.out HS2.out _).mono ?_
 rintro e w8 ⟨rfl, hb⟩
 have B8 := Lib.hid (B7.out.trans (hb.mono B7.out.size))
 have C8 := Lib.hid (C7.out.keep hb)
 have D8 := Lib.hid (D7.out.keep hb)
 have P8 := Lib.hid (P7.out.keep hb)
 have Q8 := Lib.hid (Q7.out.keep hb)
 clear hb B7 C7 D7 P7 Q7
 go_wp2_with fail
 refine (prtD_v rfl HU.out HS2.out _).mono ?_
 rintro e w9 ⟨rfl, hb⟩
 have B9 := Lib.hid (B8.out.trans (hb.mono B8.out.size))
 have C9 := Lib.hid (C8.out.keep hb)
 have D9 := Lib.hid (D8.out.keep hb)
 have P9 := Lib.hid (P8.out.keep hb)
 have Q9 := Lib.hid (Q8.out.keep hb)
 clear hb B8 C8 D8 P8 Q8
 go_wp2_with fail
 refine (live19_c _).mono ?_
 rintro e w10 ⟨rfl, hb⟩
 have B10 := Lib.hid (B9.out.trans (hb.mono B9.out.size))
 have C10 := Lib.hid (C9.out.keep hb)
 have D10 := Lib.hid (D9.out.keep hb)
 have P10 := Lib.hid (P9.out.keep hb)
 have Q10 := Lib.hid (Q9.out.keep hb)
 clear hb B9 C9 D9 P9 Q9
 go_wp2_with fail
 go_ret
 exact ⟨rfl, B10.out⟩
end oplogWrites
end Go.Proofs.YtojhenpaeedimaaGreat
end
