/-
 Moves that come to a replica, one behind the other.
-/
import Derived.Test.YthhckdjagnlgpaaGreatWj
namespace Go.Proofs.YthhckdjagnlgpaaGreat
open Go.RowKit Go.IntWalk Go.Maps
open Gr
set_option maxRecDepth 100000
attribute [local go_sem] Oper.semAt_some
theorem addG_facts {r r2 : Rp} {m : Mv} {b : Bool} {x : Int} (h : addG r m = (r2, b, x)) (hm : rk (mw m) < 18446744073709551616 ∧ (nm (mw m)).length ≤ maxLen) (hl : Moves_ r.L) (hi : RpIn r) : r2.B = r.B ∧ r2.L.length ≤ r.L.length + 1 ∧ r2.V.length ≤ r.V.length + 1 ∧ Moves_ r2.L ∧ RpIn r2 := by
 unfold addG at h
 by_cases h1 : oneM m = false
 ·rw [if_pos h1] at h; cases h; exact ⟨rfl, by omega, by omega, hl, hi⟩
 ·rw [if_neg h1] at h
  by_cases h2 : befT r.fc r.fr (mc m) (mr m) = false
  ·rw [if_pos h2] at h; cases h; exact ⟨rfl, by omega, by omega, hl, hi⟩
  ·rw [if_neg h2] at h
   by_cases h3 : (insM r.L m).2.2 = false
   ·rw [if_pos h3] at h; cases h; exact ⟨rfl, by omega, by omega, hl, hi⟩
   ·rw [if_neg h3] at h
    cases h
    refine ⟨rfl, insM_len r.L m, raiseK_len r.V _ _, fun y hy => ?_, hi.b, fun y hy => ?_⟩
    ·rcases insM_mem hy with h | h
     ·exact hl y h
     ·rw [h]; exact hm
    ·rcases insM_mem hy with h | h
     ·exact hi.l y h
     ·rw [h]; exact one64 (one_row (by simpa using h1))
/-- a Merge under way: k moves came -/
structure Mrg (w : World) (p : Pl) (r : Rp) (l : List Mv) (K k : Nat) (pq : Pl) (rq : Rp) (W : World) : Prop where
 ik : Is W K 55 [.slice pq.A1 rq.B.length pq.c1, .int .i64 rq.fc, .int .i64 rq.fr, .slice pq.A2 rq.L.length pq.c2, .slice pq.A3 rq.V.length pq.c3]
 ig : Is W w.heap.size 55 [.slice p.A1 r.B.length p.c1, .int .i64 r.fc, .int .i64 r.fr, .slice p.A2 r.L.length p.c2, .slice p.A3 r.V.length p.c3]
 ir : Is W (w.heap.size + 1) 55 [.slice none 0 0, .int .i64 0, .int .i64 0, .slice none 0 0, .slice none 0 0]
 eb : pq.A1 = p.A1 ∧ rq.B = r.B
 al : At W W.heap.size pq.A2 (mvs rq.L)
 av : At W W.heap.size pq.A3 (kvs rq.V)
 pl : RpPl pq rq
 ml : Moves_ rq.L
 ll : rq.L.length ≤ r.L.length + k
 lv : rq.V.length ≤ r.V.length + k
 inn : k < l.length → RpIn rq
 offK : kvs rq.V = [] ∨ ∀ a, pq.A3 = some a → a.block ≠ K
 offR : kvs rq.V = [] ∨ ∀ a, pq.A3 = some a → a.block ≠ w.heap.size + 1
 mg : mergeG r rq (l.drop k) = mergeG r r l
 bel : Below w.heap.size w W
theorem Mrg.keep {w W W' : World} {p pq : Pl} {r rq : Rp} {l : List Mv} {K k : Nat} (h : Mrg w p r l K k pq rq W) (hb : Below W.heap.size W W') : Mrg w p r l K k pq rq W' :=
 ⟨is_below h.ik hb (is_lt h.ik), is_below h.ig hb (is_lt h.ig), is_below h.ir hb (is_lt h.ir), h.eb, h.al.keep hb, h.av.keep hb, h.pl, h.ml, h.ll, h.lv, h.inn, h.offK, h.offR, h.mg, h.bel.trans (hb.mono h.bel.size)⟩
/-- told: a replica and a number, nothing else -/
def MrTold (r : Rp) (x : Int) (w : World) (e : Ending) (w' : World) : Prop :=
 ∃ p : Pl, e = .returned (.tuple #[.agg #[.slice p.A1 r.B.length p.c1, .int .i64 r.fc, .int .i64 r.fr, .slice p.A2 r.L.length p.c2, .slice p.A3 r.V.length p.c3], .int .i64 x]) ∧ RpAt p r w' ∧ RpPl p r ∧ Below w.heap.size w w'
theorem mergeG_step {r rq r2 : Rp} {l : List Mv} {k : Nat} {m : Mv} {b : Bool} {x : Int} (hm : l[k]? = some m) (h : addG rq m = (r2, b, x)) : mergeG r rq (l.drop k) = if x = 0 then mergeG r r2 (l.drop (k + 1)) else (r, x) := by
 obtain ⟨hk, e⟩ := List.getElem?_eq_some_iff.1 hm
 rw [List.drop_eq_getElem_cons hk, e]
 show (if (addG rq m).2.2 = 0 then mergeG r (addG rq m).1 (l.drop (k + 1)) else (r, (addG rq m).2.2)) = _
 rw [h]
set_option maxHeartbeats 16000000 in
theorem fMerge_c {p : Pl} {r : Rp} (ok : RpOk r) (pl : RpPl p r) (A : Option Addr) (cap : Nat) (l : List Mv) (hll : l.length ≤ 200) (hbl : r.L.length ≤ 150) (hbv : r.V.length ≤ 150) (hM : Moves_ l) {w : World} (ha : RpAt p r w) (hc : At w w.heap.size A (mvs l)) :
  Calls Tryz.prog 55 #[.agg #[.slice p.A1 r.B.length p.c1, .int .i64 r.fc, .int .i64 r.fr, .slice p.A2 r.L.length p.c2, .slice p.A3 r.V.length p.c3], .slice A l.length cap] w (MrTold (mergeF r l).1 (mergeF r l).2 w) := by
 obtain ⟨w2, hw2⟩ : ∃ w2, w2 = (w.alloc (.cells #[.slice p.A1 r.B.length p.c1, .int .i64 r.fc, .int .i64 r.fr, .slice p.A2 r.L.length p.c2, .slice p.A3 r.V.length p.c3] 55)).alloc (.cells #[.slice none 0 0, .int .i64 0, .int .i64 0, .slice none 0 0, .slice none 0 0] 55) := ⟨_, rfl⟩
 have hI : Is w2 w.heap.size 55 [.slice p.A1 r.B.length p.c1, .int .i64 r.fc, .int .i64 r.fr, .slice p.A2 r.L.length p.c2, .slice p.A3 r.V.length p.c3] := by rw [hw2]; exact is_below (is_new w 55 _) ((Below.refl _ _).alloc (Nat.le_refl _) _) (by simp)
 have hZ : Is w2 (w.heap.size + 1) 55 [.slice none 0 0, .int .i64 0, .int .i64 0, .slice none 0 0, .slice none 0 0] := by rw [hw2]; exact is_newA w 55 _ _
 have hb2 : Below w.heap.size w w2 := by rw [hw2]; exact ((Below.refl w.heap.size w).alloc (Nat.le_refl _) _).alloc (by simp) _
 have hs2 : w2.heap.size = w.heap.size + 2 := by rw [hw2]; simp
 have HA := Lib.hid ha
 have HC := Lib.hid hc
 have PL := Lib.hid pl
 have OK := Lib.hid ok
 have HW := Lib.hid hw2
 have HI := Lib.hid hI
 have HZ := Lib.hid hZ
 have HB := Lib.hid hb2
 have HS := Lib.hid hs2
 have HM := Lib.hid hM
 obtain ⟨⟨q0, q1, q2, q3, q4⟩, -⟩ := cells5 hI
 have hlb := ok.lb
 clear ha hc pl ok hw2 hI hZ hb2 hs2 hM
 by_cases hl0 : l.length = 0
 ·have hl00 : l = [] := List.eq_nil_of_length_eq_zero hl0
  have HMG : Hid (mergeF r l = mergeG r r l) := Lib.hid (by rw [hl00]; rfl)
  have hd : decide ((0 : Int) < (l.length : Int)) = false := decide_eq_false (by omega)
  have hd2 : decide (0 < l.length) = false := decide_eq_false (by omega)
  have hli : ¬ ((0 : Int) < (l.length : Int)) := by omega
  have hz0 : ¬ 0 < l.length := by omega
  clear hl00 q0 q1 q2 q3 q4 hl0
  have hi2 := HI.out
  rw [HW.out] at hi2
  obtain ⟨⟨q0, q1, q2, q3, q4⟩, -⟩ := cells5 hi2
  clear hi2
  obtain ⟨K, hK⟩ : ∃ K, K = w2.heap.size := ⟨_, rfl⟩
  obtain ⟨wk, hwk⟩ : ∃ wk, wk = w2.alloc (.cells #[.slice p.A1 r.B.length p.c1, .int .i64 r.fc, .int .i64 r.fr, .slice p.A2 r.L.length p.c2, .slice p.A3 r.V.length p.c3] 55) := ⟨_, rfl⟩
  have hbk : Below w2.heap.size w2 wk := by rw [hwk]; exact (Below.refl _ _).alloc (Nat.le_refl _) _
  have hKG : w.heap.size + 2 ≤ K := by have := is_lt HZ.out; omega
  have HST := Lib.hid (show Mrg w p r l K 0 p r wk from ⟨by rw [hwk, hK]; exact is_new _ 55 _, is_below HI.out hbk (is_lt HI.out), is_below HZ.out hbk (is_lt HZ.out), ⟨rfl, rfl⟩, ((HA.out.keep HB.out).keep hbk).l, ((HA.out.keep HB.out).keep hbk).v, PL.out, OK.out.rl, by omega, by omega, fun h => absurd h (by omega), marks_off (N := K + 1) HA.out.v (.inl ⟨rfl, rfl⟩) (by omega) (by omega), marks_off (N := K + 1) HA.out.v (.inl ⟨rfl, rfl⟩) (by omega) (by omega), by rw [List.drop_zero], HB.out.trans (hbk.mono HB.out.size)⟩)
  have HK := Lib.hid hK
  have HWK := Lib.hid hwk
  clear hK hwk hbk
  go_enter Tryz.func55, Tryz.ntmps55
  go_wp2_with fail
  rw [← HW.out, ← HWK.out]
  have hKn : w.heap.size + 1 + 1 = K := by rw [HK.out, HS.out]
  rw [hKn]
  clear hKn
  clear q0 q1 q2 q3 q4 HK HWK
  go_loopw [24] (fun i wr => ∃ (k : Nat) (pq : Pl) (rq : Rp), i = .int .i64 (k : Int) ∧ k ≤ l.length ∧ Mrg w p r l K k pq rq wr) (fun i _ => l.length - (Go.RowKit.intOf i).toNat)
  case atStart => exact ⟨0, p, r, rfl, Nat.zero_le _, HST.out⟩
  case round =>
   clear HST
   obtain ⟨k, pq, rq, rfl, hk, hst⟩ := hrel
   have HR := Lib.hid hst
   have hll2 := hst.ll
   have hlv2 := hst.lv
   have HEB := Lib.hid hst.eb.2
   clear hst
   by_cases hlt : k < l.length
   ·exfalso; omega
   ·obtain rfl : k = l.length := by omega
    have hmg := HR.out.mg
    rw [List.drop_length] at hmg
    have HMF : Hid (mergeF r l = (rq, 0)) := Lib.hid (HMG.out.trans hmg.symm)
    have HAT := Lib.hid (show RpAt pq rq wr from ⟨by rw [HR.out.eb.1, HR.out.eb.2]; exact HA.out.b.keep HR.out.bel, HR.out.al, HR.out.av⟩)
    have HIk := Lib.hid HR.out.ik
    have HIr := Lib.hid HR.out.ir
    have HBr := Lib.hid HR.out.bel
    clear hmg
    obtain ⟨⟨q0, q1, q2, q3, q4⟩, -⟩ := cells5 HIk.out
    obtain ⟨⟨z0, z1, z2, z3, z4⟩, f0, f1, f2, f3, f4⟩ := cells5 HIr.out
    have HI9 := Lib.hid (set5_is (a0 := .slice pq.A1 rq.B.length pq.c1) (a1 := .int .i64 rq.fc) (a2 := .int .i64 rq.fr) (a3 := .slice pq.A2 rq.L.length pq.c2) (a4 := .slice pq.A3 rq.V.length pq.c3) HIr.out)
    have HB9 := Lib.hid (set5_below (a0 := .slice pq.A1 rq.B.length pq.c1) (a1 := .int .i64 rq.fc) (a2 := .int .i64 rq.fr) (a3 := .slice pq.A2 rq.L.length pq.c2) (a4 := .slice pq.A3 rq.V.length pq.c3) (G := w.heap.size + 1) HBr.out (by omega))
    go_wp2_with fail
    clear q0 q1 q2 q3 q4 z0 z1 z2 z3 z4 f0 f1 f2 f3 f4
    obtain ⟨w9, hw9⟩ : ∃ w9, w9 = set5 wr (w.heap.size + 1) (.slice pq.A1 rq.B.length pq.c1) (.int .i64 rq.fc) (.int .i64 rq.fr) (.slice pq.A2 rq.L.length pq.c2) (.slice pq.A3 rq.V.length pq.c3) := ⟨_, rfl⟩
    have hi9 := HI9.out
    have hb9 := HB9.out
    have hk9 : ∀ k, k ≠ w.heap.size + 1 → w9.heap[k]? = wr.heap[k]? := fun k hk => by rw [hw9, set5_off k hk]
    have hs9 : w9.heap.size = wr.heap.size := by rw [hw9, set5_size]
    rw [← hw9] at hi9 hb9
    unfold set5 at hw9
    rw [← hw9]
    obtain ⟨⟨j0, j1, j2, j3, j4⟩, -⟩ := cells5 hi9
    refine bodyPost_ret (v := .tuple #[.agg #[.slice pq.A1 rq.B.length pq.c1, .int .i64 rq.fc, .int .i64 rq.fr, .slice pq.A2 rq.L.length pq.c2, .slice pq.A3 rq.V.length pq.c3], .int .i64 0]) (by simp [results, Tryz.f55, go_sem, j0, j1, j2, j3, j4]) rfl ?_
    exact ⟨pq, by rw [HMF.out], by rw [HMF.out]; exact ⟨by rw [HR.out.eb.1, HR.out.eb.2]; exact HA.out.b.keep hb9, at_offG HAT.out.l (moves_off HIr.out rfl HAT.out.l) hk9 hs9, at_offG HAT.out.v HR.out.offR hk9 hs9⟩, by rw [HMF.out]; exact HR.out.pl, hb9⟩
 ·have hd : decide ((0 : Int) < (l.length : Int)) = true := decide_eq_true (by omega)
  have hd2 : decide (0 < l.length) = true := decide_eq_true (by omega)
  have hli : (0 : Int) < (l.length : Int) := by omega
  cases hmay : mayF r with
  | false =>
   have HMF : Hid (mergeF r l = (r, 1)) := Lib.hid (by unfold mergeF; rw [if_neg hl0, if_pos hmay])
   have HMAY := Lib.hid hmay
   clear hmay
   go_enter Tryz.func55, Tryz.ntmps55
   go_wp2_with fail
   rw [← HW.out]
   refine (fmay_v HMAY.out OK.out (HA.out.keep HB.out)).mono ?_
   rintro e w3 ⟨rfl, hb3⟩
   have HI3 := Lib.hid (is_below HI.out hb3 (is_lt HI.out))
   have HZ3 := Lib.hid (is_below HZ.out hb3 (is_lt HZ.out))
   have HB3 := Lib.hid (HB.out.trans (hb3.mono HB.out.size))
   clear q0 q1 q2 q3 q4 hb3
   obtain ⟨⟨q0, q1, q2, q3, q4⟩, -⟩ := cells5 HI3.out
   obtain ⟨⟨z0, z1, z2, z3, z4⟩, f0, f1, f2, f3, f4⟩ := cells5 HZ3.out
   have HI9 := Lib.hid (set5_is (a0 := .slice p.A1 r.B.length p.c1) (a1 := .int .i64 r.fc) (a2 := .int .i64 r.fr) (a3 := .slice p.A2 r.L.length p.c2) (a4 := .slice p.A3 r.V.length p.c3) HZ3.out)
   have HB9 := Lib.hid (set5_below (a0 := .slice p.A1 r.B.length p.c1) (a1 := .int .i64 r.fc) (a2 := .int .i64 r.fr) (a3 := .slice p.A2 r.L.length p.c2) (a4 := .slice p.A3 r.V.length p.c3) (G := w.heap.size + 1) HB3.out (by omega))
   go_wp2_with fail
   clear q0 q1 q2 q3 q4 z0 z1 z2 z3 z4 f0 f1 f2 f3 f4
   obtain ⟨w9, hw9⟩ : ∃ w9, w9 = set5 w3 (w.heap.size + 1) (.slice p.A1 r.B.length p.c1) (.int .i64 r.fc) (.int .i64 r.fr) (.slice p.A2 r.L.length p.c2) (.slice p.A3 r.V.length p.c3) := ⟨_, rfl⟩
   have hi9 := HI9.out
   have hb9 := HB9.out
   have hk9 : ∀ k, k ≠ w.heap.size + 1 → w9.heap[k]? = w3.heap[k]? := fun k hk => by rw [hw9, set5_off k hk]
   have hs9 : w9.heap.size = w3.heap.size := by rw [hw9, set5_size]
   rw [← hw9] at hi9 hb9
   unfold set5 at hw9
   rw [← hw9]
   obtain ⟨⟨j0, j1, j2, j3, j4⟩, -⟩ := cells5 hi9
   refine bodyPost_ret (v := .tuple #[.agg #[.slice p.A1 r.B.length p.c1, .int .i64 r.fc, .int .i64 r.fr, .slice p.A2 r.L.length p.c2, .slice p.A3 r.V.length p.c3], .int .i64 1]) (by simp [results, Tryz.f55, go_sem, j0, j1, j2, j3, j4]) rfl ?_
   exact ⟨p, by rw [HMF.out], by rw [HMF.out]; exact HA.out.keep hb9, by rw [HMF.out]; exact PL.out, hb9⟩
  | true =>
   have HMG : Hid (mergeF r l = mergeG r r l) := Lib.hid (by unfold mergeF; rw [if_neg hl0, if_neg (by rw [hmay]; decide)])
   have HMAY := Lib.hid hmay
   clear hmay
   go_enter Tryz.func55, Tryz.ntmps55
   go_wp2_with fail
   rw [← HW.out]
   refine (fmay_v HMAY.out OK.out (HA.out.keep HB.out)).mono ?_
   rintro e w3 ⟨rfl, hb3⟩
   have HI3 := Lib.hid (is_below HI.out hb3 (is_lt HI.out))
   have HZ3 := Lib.hid (is_below HZ.out hb3 (is_lt HZ.out))
   have HB3 := Lib.hid (HB.out.trans (hb3.mono HB.out.size))
   clear q0 q1 q2 q3 q4 hb3
   obtain ⟨⟨q0, q1, q2, q3, q4⟩, -⟩ := cells5 HI3.out
   obtain ⟨K, hK⟩ : ∃ K, K = w3.heap.size := ⟨_, rfl⟩
   obtain ⟨wk, hwk⟩ : ∃ wk, wk = w3.alloc (.cells #[.slice p.A1 r.B.length p.c1, .int .i64 r.fc, .int .i64 r.fr, .slice p.A2 r.L.length p.c2, .slice p.A3 r.V.length p.c3] 55) := ⟨_, rfl⟩
   have hbk : Below w3.heap.size w3 wk := by rw [hwk]; exact (Below.refl _ _).alloc (Nat.le_refl _) _
   have hKG : w.heap.size + 2 ≤ K := by have := is_lt HZ3.out; omega
   have HST := Lib.hid (show Mrg w p r l K 0 p r wk from ⟨by rw [hwk, hK]; exact is_new _ 55 _, is_below HI3.out hbk (is_lt HI3.out), is_below HZ3.out hbk (is_lt HZ3.out), ⟨rfl, rfl⟩, ((HA.out.keep HB3.out).keep hbk).l, ((HA.out.keep HB3.out).keep hbk).v, PL.out, OK.out.rl, by omega, by omega, fun _ => mayF_in HMAY.out, marks_off (N := K + 1) HA.out.v (.inl ⟨rfl, rfl⟩) (by omega) (by omega), marks_off (N := K + 1) HA.out.v (.inl ⟨rfl, rfl⟩) (by omega) (by omega), by rw [List.drop_zero], HB3.out.trans (hbk.mono HB3.out.size)⟩)
   have HK := Lib.hid hK
   have HWK := Lib.hid hwk
   clear hK hwk hbk
   go_wp2_with fail
   rw [← HWK.out, ← HK.out]
   clear q0 q1 q2 q3 q4 HK HWK
   go_loopw [24] (fun i wr => ∃ (k : Nat) (pq : Pl) (rq : Rp), i = .int .i64 (k : Int) ∧ k ≤ l.length ∧ Mrg w p r l K k pq rq wr) (fun i _ => l.length - (Go.RowKit.intOf i).toNat)
   case atStart => exact ⟨0, p, r, rfl, Nat.zero_le _, HST.out⟩
   case round =>
    clear HST
    obtain ⟨k, pq, rq, rfl, hk, hst⟩ := hrel
    have HR := Lib.hid hst
    have hll2 := hst.ll
    have hlv2 := hst.lv
    have HEB := Lib.hid hst.eb.2
    clear hst
    by_cases hlt : k < l.length
    ·obtain ⟨m, hm⟩ := some_at hlt
     obtain ⟨b0, o0, rfl, -, x0, x1, x2, x3, x4, x5⟩ := move_cells (HC.out.keep HR.out.bel) hm
     have hk0 : (0 : Int) ≤ (k : Int) := by omega
     have hkl : (k : Int) < (l.length : Int) := by omega
     obtain ⟨o, ho⟩ : ∃ o, addG rq m = o := ⟨_, rfl⟩
     obtain ⟨r2, b, x⟩ := o
     have HO := Lib.hid ho
     have HMM := Lib.hid (HM.out m (mem_at hm))
     have HFA := Lib.hid (addG_facts ho (HM.out m (mem_at hm)) HR.out.ml (HR.out.inn hlt))
     have HSTEP := Lib.hid (HR.out.mg.symm.trans (mergeG_step (r := r) hm ho))
     have HOK := Lib.hid (show RpOk rq from ⟨by rw [HEB.out]; exact hlb, by omega, by omega, by rw [HEB.out]; exact OK.out.rb, HR.out.ml⟩)
     have hf2 := HFA.out.2.1
     have hf3 := HFA.out.2.2.1
     obtain ⟨H, hH⟩ : ∃ H, H = wr.heap.size := ⟨_, rfl⟩
     obtain ⟨w4, hw4⟩ : ∃ w4, w4 = wr.alloc (.cells #[.int .i64 (mc m), .int .i64 (mr m), .int .i64 (pa (mw m)), .int .i64 (ch (mw m)), .string (ba (nm (mw m))), .float .f64 (rk (mw m))] 57) := ⟨_, rfl⟩
     have hb4 : Below wr.heap.size wr w4 := by rw [hw4]; exact (Below.refl _ _).alloc (Nat.le_refl _) _
     have hM4 : Is w4 H 57 [.int .i64 (mc m), .int .i64 (mr m), .int .i64 (pa (mw m)), .int .i64 (ch (mw m)), .string (ba (nm (mw m))), .float .f64 (rk (mw m))] := by rw [hw4, hH]; exact is_new wr 57 _
     have HR4 := Lib.hid (HR.out.keep hb4)
     have HH := Lib.hid hH
     have HW4 := Lib.hid hw4
     have hinn := HR.out.inn hlt
     have HINN := Lib.hid hinn
     have hik4 := HR4.out.ik
     have hM4' := hM4
     rw [hw4] at hik4 hM4'
     rw [hH] at hM4'
     obtain ⟨⟨q0, q1, q2, q3, q4⟩, -⟩ := cells5 hik4
     obtain ⟨m0, m1, m2, m3, m4, m5⟩ := box6 (m := m) hM4'
     have hKl := is_lt HR4.out.ik
     have hRl := is_lt HR4.out.ir
     have HAT4 := Lib.hid (show RpAt pq rq w4 from ⟨by rw [HR4.out.eb.1, HR4.out.eb.2]; exact HA.out.b.keep HR4.out.bel, HR4.out.al, HR4.out.av⟩)
     clear ho hm hH hw4 hb4 hM4 hinn HR hik4 hM4'
     go_wp2_with fail
     rw [← HW4.out, ← HH.out]
     refine (add_v HO.out HOK.out HR4.out.pl HINN.out HMM.out.1 HMM.out.2 HAT4.out).mono ?_
     rintro e w5 ⟨p2, rfl, ha5, pl5, h15, h35, hb5, -⟩
     have HR5 := Lib.hid (HR4.out.keep hb5)
     obtain ⟨J, hJ⟩ : ∃ J, J = w5.heap.size := ⟨_, rfl⟩
     obtain ⟨w6, hw6⟩ : ∃ w6, w6 = w5.alloc (.cells #[.slice p2.A1 r2.B.length p2.c1, .int .i64 r2.fc, .int .i64 r2.fr, .slice p2.A2 r2.L.length p2.c2, .slice p2.A3 r2.V.length p2.c3] 55) := ⟨_, rfl⟩
     have hb6 : Below w5.heap.size w5 w6 := by rw [hw6]; exact (Below.refl _ _).alloc (Nat.le_refl _) _
     have hJ6 : Is w6 J 55 [.slice p2.A1 r2.B.length p2.c1, .int .i64 r2.fc, .int .i64 r2.fr, .slice p2.A2 r2.L.length p2.c2, .slice p2.A3 r2.V.length p2.c3] := by rw [hw6, hJ]; exact is_new w5 55 _
     have HR6 := Lib.hid (HR5.out.keep hb6)
     have HA6 := Lib.hid (ha5.keep hb6)
     have HPL := Lib.hid pl5
     have H15 := Lib.hid h15
     have HOK2 : Hid (kvs r2.V = [] ∨ ∀ a, p2.A3 = some a → a.block ≠ K) := Lib.hid (by
      rcases h35 with ⟨e1, e2⟩ | h
      ·rw [e1, e2]; exact HR4.out.offK
      ·exact .inr fun a ha => by have := h a ha; omega)
     have HOR2 : Hid (kvs r2.V = [] ∨ ∀ a, p2.A3 = some a → a.block ≠ w.heap.size + 1) := Lib.hid (by
      rcases h35 with ⟨e1, e2⟩ | h
      ·rw [e1, e2]; exact HR4.out.offR
      ·exact .inr fun a ha => by have := h a ha; omega)
     have HJ := Lib.hid hJ
     have HW6 := Lib.hid hw6
     have HJ6 := Lib.hid hJ6
     clear q0 q1 q2 q3 q4 m0 m1 m2 m3 m4 m5 x0 x1 x2 x3 x4 x5 hKl hRl ha5 pl5 h15 h35 hb5 hJ hw6 hb6 hJ6 HW4 HH HR4 HR5
     by_cases hx : x = 0
     ·subst hx
      have hstep := HSTEP.out
      rw [if_pos rfl] at hstep
      have HS2 := Lib.hid hstep
      clear hstep
      have hj6 := HJ6.out
      have hik6 := HR6.out.ik
      rw [HW6.out] at hj6 hik6
      rw [HJ.out] at hj6
      obtain ⟨⟨q0, q1, q2, q3, q4⟩, -⟩ := cells5 hj6
      obtain ⟨⟨z0, z1, z2, z3, z4⟩, f0, f1, f2, f3, f4⟩ := cells5 hik6
      clear hj6 hik6
      go_wp2_with fail
      rw [← HW6.out]
      clear q0 q1 q2 q3 q4 z0 z1 z2 z3 z4 f0 f1 f2 f3 f4
      obtain ⟨w7, hw7⟩ : ∃ w7, w7 = set5 w6 K (.slice p2.A1 r2.B.length p2.c1) (.int .i64 r2.fc) (.int .i64 r2.fr) (.slice p2.A2 r2.L.length p2.c2) (.slice p2.A3 r2.V.length p2.c3) := ⟨_, rfl⟩
      have hik7 : Is w7 K 55 [.slice p2.A1 r2.B.length p2.c1, .int .i64 r2.fc, .int .i64 r2.fr, .slice p2.A2 r2.L.length p2.c2, .slice p2.A3 r2.V.length p2.c3] := by rw [hw7]; exact set5_is HR6.out.ik
      have hk7 : ∀ j, j ≠ K → w7.heap[j]? = w6.heap[j]? := fun j hj => by rw [hw7, set5_off j hj]
      have hs7 : w7.heap.size = w6.heap.size := by rw [hw7, set5_size]
      have hb7 : Below w.heap.size w w7 := by rw [hw7]; exact set5_below HR6.out.bel (by omega)
      unfold set5 at hw7
      rw [← hw7]
      have HNEW := Lib.hid (show Mrg w p r l K (k + 1) p2 r2 w7 from ⟨hik7, (hk7 _ (by omega)).trans HR6.out.ig, (hk7 _ (by omega)).trans HR6.out.ir, ⟨H15.out.1.trans HR6.out.eb.1, H15.out.2.trans HR6.out.eb.2⟩, at_offG HA6.out.l (moves_off HR6.out.ik rfl HA6.out.l) hk7 hs7, at_offG HA6.out.v HOK2.out hk7 hs7, HPL.out, HFA.out.2.2.2.1, by omega, by omega, fun _ => HFA.out.2.2.2.2, HOK2.out, HOR2.out, HS2.out.symm, hb7⟩)
      clear hik7 hk7 hs7 hb7
      go_roundw
      case rel => exact ⟨k + 1, p2, r2, by go_num, by omega, HNEW.out⟩
      case measure => simp only [Go.RowKit.intOf]; omega
     ·have hstep := HSTEP.out
      rw [if_neg hx] at hstep
      have HMF := Lib.hid (HMG.out.trans hstep)
      clear hstep
      have hig6 := HR6.out.ig
      have hir6 := HR6.out.ir
      rw [HW6.out] at hig6 hir6
      obtain ⟨⟨q0, q1, q2, q3, q4⟩, -⟩ := cells5 hig6
      obtain ⟨⟨z0, z1, z2, z3, z4⟩, f0, f1, f2, f3, f4⟩ := cells5 hir6
      have HI9 := Lib.hid (set5_is (a0 := .slice p.A1 r.B.length p.c1) (a1 := .int .i64 r.fc) (a2 := .int .i64 r.fr) (a3 := .slice p.A2 r.L.length p.c2) (a4 := .slice p.A3 r.V.length p.c3) HR6.out.ir)
      have HB9 := Lib.hid (set5_below (a0 := .slice p.A1 r.B.length p.c1) (a1 := .int .i64 r.fc) (a2 := .int .i64 r.fr) (a3 := .slice p.A2 r.L.length p.c2) (a4 := .slice p.A3 r.V.length p.c3) (G := w.heap.size + 1) HR6.out.bel (by omega))
      clear hig6 hir6
      go_wp2_with fail
      rw [← HW6.out]
      clear q0 q1 q2 q3 q4 z0 z1 z2 z3 z4 f0 f1 f2 f3 f4
      obtain ⟨w9, hw9⟩ : ∃ w9, w9 = set5 w6 (w.heap.size + 1) (.slice p.A1 r.B.length p.c1) (.int .i64 r.fc) (.int .i64 r.fr) (.slice p.A2 r.L.length p.c2) (.slice p.A3 r.V.length p.c3) := ⟨_, rfl⟩
      have hi9 := HI9.out
      have hb9 := HB9.out
      rw [← hw9] at hi9 hb9
      unfold set5 at hw9
      rw [← hw9]
      obtain ⟨⟨j0, j1, j2, j3, j4⟩, -⟩ := cells5 hi9
      refine bodyPost_ret (v := .tuple #[.agg #[.slice p.A1 r.B.length p.c1, .int .i64 r.fc, .int .i64 r.fr, .slice p.A2 r.L.length p.c2, .slice p.A3 r.V.length p.c3], .int .i64 x]) (by simp [results, Tryz.f55, go_sem, j0, j1, j2, j3, j4]) rfl ?_
      exact ⟨p, by rw [HMF.out], by rw [HMF.out]; exact HA.out.keep hb9, by rw [HMF.out]; exact PL.out, hb9⟩
    ·obtain rfl : k = l.length := by omega
     have hmg := HR.out.mg
     rw [List.drop_length] at hmg
     have HMF : Hid (mergeF r l = (rq, 0)) := Lib.hid (HMG.out.trans hmg.symm)
     have HAT := Lib.hid (show RpAt pq rq wr from ⟨by rw [HR.out.eb.1, HR.out.eb.2]; exact HA.out.b.keep HR.out.bel, HR.out.al, HR.out.av⟩)
     have HIk := Lib.hid HR.out.ik
     have HIr := Lib.hid HR.out.ir
     have HBr := Lib.hid HR.out.bel
     clear hmg
     obtain ⟨⟨q0, q1, q2, q3, q4⟩, -⟩ := cells5 HIk.out
     obtain ⟨⟨z0, z1, z2, z3, z4⟩, f0, f1, f2, f3, f4⟩ := cells5 HIr.out
     have HI9 := Lib.hid (set5_is (a0 := .slice pq.A1 rq.B.length pq.c1) (a1 := .int .i64 rq.fc) (a2 := .int .i64 rq.fr) (a3 := .slice pq.A2 rq.L.length pq.c2) (a4 := .slice pq.A3 rq.V.length pq.c3) HIr.out)
     have HB9 := Lib.hid (set5_below (a0 := .slice pq.A1 rq.B.length pq.c1) (a1 := .int .i64 rq.fc) (a2 := .int .i64 rq.fr) (a3 := .slice pq.A2 rq.L.length pq.c2) (a4 := .slice pq.A3 rq.V.length pq.c3) (G := w.heap.size + 1) HBr.out (by omega))
     go_wp2_with fail
     clear q0 q1 q2 q3 q4 z0 z1 z2 z3 z4 f0 f1 f2 f3 f4
     obtain ⟨w9, hw9⟩ : ∃ w9, w9 = set5 wr (w.heap.size + 1) (.slice pq.A1 rq.B.length pq.c1) (.int .i64 rq.fc) (.int .i64 rq.fr) (.slice pq.A2 rq.L.length pq.c2) (.slice pq.A3 rq.V.length pq.c3) := ⟨_, rfl⟩
     have hi9 := HI9.out
     have hb9 := HB9.out
     have hk9 : ∀ k, k ≠ w.heap.size + 1 → w9.heap[k]? = wr.heap[k]? := fun k hk => by rw [hw9, set5_off k hk]
     have hs9 : w9.heap.size = wr.heap.size := by rw [hw9, set5_size]
     rw [← hw9] at hi9 hb9
     unfold set5 at hw9
     rw [← hw9]
     obtain ⟨⟨j0, j1, j2, j3, j4⟩, -⟩ := cells5 hi9
     refine bodyPost_ret (v := .tuple #[.agg #[.slice pq.A1 rq.B.length pq.c1, .int .i64 rq.fc, .int .i64 rq.fr, .slice pq.A2 rq.L.length pq.c2, .slice pq.A3 rq.V.length pq.c3], .int .i64 0]) (by simp [results, Tryz.f55, go_sem, j0, j1, j2, j3, j4]) rfl ?_
     exact ⟨pq, by rw [HMF.out], by rw [HMF.out]; exact ⟨by rw [HR.out.eb.1, HR.out.eb.2]; exact HA.out.b.keep hb9, at_offG HAT.out.l (moves_off HIr.out rfl HAT.out.l) hk9 hs9, at_offG HAT.out.v HR.out.offR hk9 hs9⟩, by rw [HMF.out]; exact HR.out.pl, hb9⟩
end Go.Proofs.YthhckdjagnlgpaaGreat
