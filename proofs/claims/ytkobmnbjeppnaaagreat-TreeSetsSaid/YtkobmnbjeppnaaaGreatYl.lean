/-
 What is set in any rows, and what is told of their nodes: a walk.
-/
import Derived.Test.YtkobmnbjeppnaaaGreatYf
import Derived.Test.YtkobmnbjeppnaaaGreatXl
import Derived.Deep.DeepCutAuto
import Derived.Deep.RegionHeld3
namespace Go.Proofs.YtkobmnbjeppnaaaGreat
open Go.RowKit Go.IntWalk
open Fl Gr
set_option maxRecDepth 100000
attribute [local go_sem] Oper.semAt_some
theorem hold6T {p0 p1 p2 p3 p4 p5 : Addr} {v0 v1 v2 v3 v4 v5 : Value} {wb W W' : World} (h : W.cell? p0 = some v0 ∧ W.cell? p1 = some v1 ∧ W.cell? p2 = some v2 ∧ W.cell? p3 = some v3 ∧ W.cell? p4 = some v4 ∧ W.cell? p5 = some v5 ∧ Below wb.heap.size wb W) (hb : Below W.heap.size W W') : W'.cell? p0 = some v0 ∧ W'.cell? p1 = some v1 ∧ W'.cell? p2 = some v2 ∧ W'.cell? p3 = some v3 ∧ W'.cell? p4 = some v4 ∧ W'.cell? p5 = some v5 ∧ Below wb.heap.size wb W' := by
 obtain ⟨h0, h1, h2, h3, h4, h5, hB⟩ := h
 exact ⟨keep_cell hb h0, keep_cell hb h1, keep_cell hb h2, keep_cell hb h3, keep_cell hb h4, keep_cell hb h5, hB.trans (hb.mono hB.size)⟩
theorem hold6Tb {p0 p1 p2 p3 p4 p5 : Addr} {v0 v1 v2 v3 v4 v5 : Value} {wb W : World} (h : W.cell? p0 = some v0 ∧ W.cell? p1 = some v1 ∧ W.cell? p2 = some v2 ∧ W.cell? p3 = some v3 ∧ W.cell? p4 = some v4 ∧ W.cell? p5 = some v5 ∧ Below wb.heap.size wb W) : Below wb.heap.size wb W := by
 obtain ⟨h0, h1, h2, h3, h4, h5, hB⟩ := h
 exact hB
theorem hold6Ts {p0 p1 p2 p3 p4 p5 : Addr} {v0 v1 v2 v3 v4 v5 : Value} {wb : World} (h0 : wb.cell? p0 = some v0) (h1 : wb.cell? p1 = some v1) (h2 : wb.cell? p2 = some v2) (h3 : wb.cell? p3 = some v3) (h4 : wb.cell? p4 = some v4) (h5 : wb.cell? p5 = some v5) : wb.drew.cell? p0 = some v0 ∧ wb.drew.cell? p1 = some v1 ∧ wb.drew.cell? p2 = some v2 ∧ wb.drew.cell? p3 = some v3 ∧ wb.drew.cell? p4 = some v4 ∧ wb.drew.cell? p5 = some v5 ∧ Below wb.heap.size wb wb.drew := ⟨h0, h1, h2, h3, h4, h5, (Below.refl _ _).drew⟩
namespace treeSets
set_option maxHeartbeats 16000000 in
theorem walk (A : Option Addr) (cap : Nat) (l : List Rw) (hA : A = none → cap = 0) (hcap : l.length ≤ cap) (hmx : l.length ≤ maxLen) (hrw : Rows_ l) (h6 : ∀ r ∈ l, In64 (ch r) ∧ In64 (pa r)) (r : Rw) (hr1 : rk r < 18446744073709551616) (hr2 : (nm r).length ≤ maxLen) (a b : Int) (w : World) (hc : At w w.heap.size A (tvs l)) :
  Calls Tryz.prog 4 #[.slice A l.length cap, .agg #[.int .i64 (ch r), .int .i64 (pa r), .string (ba (nm r)), .float .f64 (rk r)], .agg #[.int .i64 a, .int .i64 b]] w fun e w' => e = .returned (.bool true) ∧ Below w.heap.size w w' := by
 have S0 := Lib.hid ((Bed.start w).addR (A := A) (l := l) hc)
 have HRW := Lib.hid hrw
 have H6 := Lib.hid h6
 have HCAP := Lib.hid (show Cap A l.length cap from ⟨hA, hcap⟩)
 have HR := Lib.hid (And.intro hr1 hr2)
 clear hc hrw h6 hA hcap hr1 hr2
 have hsz := ba_size (nm r)
 go_enter Tryz.func4, Tryz.ntmps4
 obtain ⟨w1, hw⟩ : ∃ w1, w1 = w.alloc (.cells #[.int .i64 (ch r), .int .i64 (pa r), .string (ba (nm r)), .float .f64 (rk r)] 28) := ⟨_, rfl⟩
 have hb : Below w.heap.size w w1 := by rw [hw]; exact (Below.refl _ _).alloc (Nat.le_refl _) _
 have S1 := Lib.hid ((S0.out.step hb).addB (g := w.heap.size) (t := 28) (vs := [.int .i64 (ch r), .int .i64 (pa r), .string (ba (nm r)), .float .f64 (rk r)]) (by rw [hw]; exact is_new w 28 _))
 have HW1 := Lib.hid hw
 clear hw hb
 obtain ⟨w2, hw⟩ : ∃ w2, w2 = w1.alloc (.cells #[.int .i64 a, .int .i64 b] 35) := ⟨_, rfl⟩
 have hb : Below w1.heap.size w1 w2 := by rw [hw]; exact (Below.refl _ _).alloc (Nat.le_refl _) _
 have S2 := Lib.hid ((S1.out.step hb).addB (g := w1.heap.size) (t := 35) (vs := [.int .i64 a, .int .i64 b]) (by rw [hw]; exact is_new w1 35 _))
 have HW2 := Lib.hid hw
 clear hw hb
 have hzt : w1.heap.size = w.heap.size + 1 := by rw [HW1.out]; simp
 cases hfew : few l with
 | false =>
  go_wp2_with fail
  rw [← HW1.out, ← HW2.out]
  refine (few_v hfew hmx (S2.out.rows (.tail _ (.tail _ (.head _))))).mono ?_
  rintro e w3 ⟨rfl, hb⟩
  have S3 := Lib.hid (S2.out.step hb)
  clear hb
  go_wp2_with fail
  refine (live12_c _).mono ?_
  rintro e w4 ⟨rfl, hb⟩
  have S4 := Lib.hid (S3.out.step hb)
  clear hb
  go_wp2_with fail
  go_ret
  exact ⟨rfl, S4.out.bel⟩
 | true =>
  go_wp2_with fail
  rw [← HW1.out, ← HW2.out]
  refine (few_v hfew hmx (S2.out.rows (.tail _ (.tail _ (.head _))))).mono ?_
  rintro e w3 ⟨rfl, hb⟩
  have S3 := Lib.hid (S2.out.step hb)
  clear hb
  have hl60 := (few_in hfew).1
  have hl5 : l.length ≤ 100000 := by omega
  clear hfew
  have hx := (S3.out.box (.tail _ (.head _)))
  have y1_0 := is_cell hx 0
  have y1_1 := is_cell hx 1
  have y1_2 := is_cell hx 2
  have y1_3 := is_cell hx 3
  simp only [List.getElem?_cons_zero, List.getElem?_cons_succ] at y1_0 y1_1 y1_2 y1_3
  clear hx
  by_cases h100 : 100 < (nm r).length
  ·have h100i : (100 : Int) < ((nm r).length : Int) := by omega
   go_wp2_with fail
   refine (live12_c _).mono ?_
   rintro e w4 ⟨rfl, hb⟩
   have S4 := Lib.hid (S3.out.step hb)
   clear y1_0 y1_1 y1_2 y1_3
   clear hb
   go_wp2_with fail
   go_ret
   exact ⟨rfl, S4.out.bel⟩
  ·have h100i : ¬ (100 : Int) < ((nm r).length : Int) := by omega
   obtain ⟨m, hm⟩ : ∃ m, setP l r = m := ⟨_, rfl⟩
   have hml : m.length ≤ l.length + 1 := by rw [← hm]; exact setP_le l r
   have hmm : m.length ≤ maxLen := by unfold maxLen; omega
   have HMR := Lib.hid (show Rows_ m by rw [← hm]; exact setP_rows HRW.out HR.out)
   obtain ⟨k, hk⟩ : ∃ k, kidsR l b = k := ⟨_, rfl⟩
   have hkl : k.length ≤ l.length := by rw [← hk]; exact kidsR_le l b
   have hkm : k.length ≤ maxLen := by omega
   have HKR := Lib.hid (show Rows_ k by rw [← hk]; exact kidsR_rows HRW.out b)
   obtain ⟨q, hq⟩ : ∃ q, (wayR l a).getD [] = q := ⟨_, rfl⟩
   have hql : q.length ≤ l.length + 1 := by rw [← hq]; exact wayR_le l a
   have hqm : q.length ≤ maxLen := by unfold maxLen; omega
   obtain ⟨x, hx⟩ : ∃ x, (wayR l a).isSome = x := ⟨_, rfl⟩
   obtain ⟨z, hz⟩ : ∃ z, reachR l = z := ⟨_, rfl⟩
   have hzl : z.length ≤ l.length + 1 := by rw [← hz]; exact reachR_le l
   have hzm : z.length ≤ maxLen := by unfold maxLen; omega
   obtain ⟨y, hy⟩ : ∃ y, abv l a l.length b = y := ⟨_, rfl⟩
   have HM := Lib.hid hm
   have HK := Lib.hid hk
   have HQ := Lib.hid hq
   have HX := Lib.hid hx
   have HZ := Lib.hid hz
   have HY := Lib.hid hy
   have HS6 := Lib.hid (show Kk.S64 l from fun x hx => ⟨by have := (H6.out x hx).1; unfold In64 at this; omega, (HRW.out x hx).1⟩)
   clear hm hk hq hx hz hy
   have hx := (S3.out.box (.head _))
   have y2_0 := is_cell hx 0
   have y2_1 := is_cell hx 1
   simp only [List.getElem?_cons_zero, List.getElem?_cons_succ] at y2_0 y2_1
   clear hx
   try rw [hzt] at y2_0 y2_1
   go_wp2_with fail
   refine (path_v HQ.out HX.out rfl hl5 (S3.out.rows (.tail _ (.tail _ (.head _))))).mono ?_
   rintro e w4 ⟨AP, cP, rfl, hat, hcap, hb⟩
   have S4 := Lib.hid ((S3.out.step hb).addI (A := AP) (l := q) hat)
   have CPAP := Lib.hid hcap
   clear y2_0 y2_1
   clear hb hat hcap
   have hx := (S4.out.box (.tail _ (.head _)))
   have y3_0 := is_cell hx 0
   have y3_1 := is_cell hx 1
   simp only [List.getElem?_cons_zero, List.getElem?_cons_succ] at y3_0 y3_1
   clear hx
   try rw [hzt] at y3_0 y3_1
   go_wp2_with fail
   refine (rpath_v HQ.out HX.out rfl (show l.length ≤ 50000 by omega) (S4.out.rows (.tail _ (.tail _ (.tail _ (.head _)))))).mono ?_
   rintro e w5 ⟨AQ, cQ, rfl, hat, hcap, hb⟩
   have S5 := Lib.hid ((S4.out.step hb).addI (A := AQ) (l := q) hat)
   have CPAQ := Lib.hid hcap
   clear y3_0 y3_1
   clear hb hat hcap
   go_upto_region 5 with fail
   have HIr := Lib.hid (S5.out.box (.tail _ (.tail _ (.tail _ (.head _)))))
   have HIt := Lib.hid (S5.out.box (.tail _ (.tail _ (.head _))))
   have HLz := Lib.hid (S5.out.rows (.tail _ (.tail _ (.tail _ (.tail _ (.head _))))))
   have HPz := Lib.hid (S5.out.ints (.tail _ (.head _)))
   have HQz := Lib.hid (S5.out.ints (.head _))
   have hit := HIt.out
   rw [hzt] at hit
   have g0 := is_cell HIr.out 0
   have g1 := is_cell HIr.out 1
   have g2 := is_cell HIr.out 2
   have g3 := is_cell HIr.out 3
   have g4 := is_cell hit 0
   have g5 := is_cell hit 1
   simp only [List.getElem?_cons_zero, List.getElem?_cons_succ] at g0 g1 g2 g3 g4 g5
   have hyy : (y == y) = true := by cases y <;> rfl
   have hxx : (x == x) = true := by cases x <;> rfl
   have HH := Lib.hid hzt
   clear hit hzt
   go_region_held3 (fun w' => w'.cell? ⟨w.heap.size, 0, none⟩ = some (.int .i64 (ch r)) ∧ w'.cell? ⟨w.heap.size, 1, none⟩ = some (.int .i64 (pa r)) ∧ w'.cell? ⟨w.heap.size, 2, none⟩ = some (.string (ba (nm r))) ∧ w'.cell? ⟨w.heap.size, 3, none⟩ = some (.float .f64 (rk r)) ∧ w'.cell? ⟨w.heap.size + 1, 0, none⟩ = some (.int .i64 a) ∧ w'.cell? ⟨w.heap.size + 1, 1, none⟩ = some (.int .i64 b) ∧ Below w5.heap.size w5 w')
    (first
     | (exact hold6T (by assumption) hbn)
     | (exact hold6Td (by assumption))
     | (exact hold6Ts g0 g1 g2 g3 g4 g5)
     | go_keep)
    (first
     | (go_at_call 25; refine (set_v (r := r) HM.out rfl hl5 HCAP.out (HLz.out.keep (hold6Tb (by assumption)))).mono ?_; rintro e wz ⟨E1, f1, rfl, hT1, hc1, hbn⟩)
     | (go_at_call 26; refine (rset_v (r := r) HM.out rfl hl5 HCAP.out (HLz.out.keep (hold6Tb (by assumption)))).mono ?_; rintro e wz ⟨E2, f2, rfl, hT2, hc2, hbn⟩; have hT1b := At.keep hT1 hbn)
     | (go_at_call 19; (first | (refine (rsame_v (same_one k) hkm hkm HKR.out HKR.out hK1b hK2).mono ?_) | (refine (rsame_v (same_one m) hmm hmm HMR.out HMR.out hT1b hT2).mono ?_)); rintro e wz ⟨rfl, hbn⟩)
     | (go_at_call 27; refine (above_v HY.out hl5 (HLz.out.keep (hold6Tb (by assumption)))).mono ?_; rintro e wz ⟨rfl, hbn⟩)
     | (go_at_call 28; refine (rabove_v HY.out hmx (HLz.out.keep (hold6Tb (by assumption)))).mono ?_; rintro e wz ⟨rfl, hbn⟩)
     | (go_at_call 29; refine (kids_v HK.out rfl (show l.length ≤ 10000 by omega) HS6.out (HLz.out.keep (hold6Tb (by assumption)))).mono ?_; rintro e wz ⟨E3, f3, rfl, hK1, hc3, hbn⟩)
     | (go_at_call 30; refine (rkids_v HK.out rfl (show l.length ≤ 10000 by omega) HRW.out (HLz.out.keep (hold6Tb (by assumption)))).mono ?_; rintro e wz ⟨E4, f4, rfl, hK2, hc4, hbn⟩; have hK1b := At.keep hK1 hbn)
     | (go_at_call 32; refine (reached_v HZ.out rfl (show l.length ≤ 1000 by omega) H6.out (HLz.out.keep (hold6Tb (by assumption)))).mono ?_; rintro e wz ⟨E5, f5, rfl, hR1, hc5, hbn⟩)
     | (go_at_call 33; refine (rreached_v HZ.out rfl (show l.length ≤ 10000 by omega) (HLz.out.keep (hold6Tb (by assumption)))).mono ?_; rintro e wz ⟨E6, f6, rfl, hR2, hc6, hbn⟩; have hR1b := At.keep hR1 hbn)
     | (go_at_call 31; (first | (refine (same5_v (x := true) (by simp) hzm hzm hR1b hR2).mono ?_) | (refine (same5_v (x := true) (by simp) hqm hqm (HPz.out.keep (hold6Tb (by assumption))) (HQz.out.keep (hold6Tb (by assumption)))).mono ?_)); rintro e wz ⟨rfl, hbn⟩)
     | (go_at_call 11; refine (live12_c _).mono ?_; rintro e wz ⟨rfl, hbn⟩))
   have hbz : Below w5.heap.size w5 wz := hold6Tb (by assumption)
   have HBZ := Lib.hid (S5.out.step hbz).bel
   clear hbz g0 g1 g2 g3 g4 g5
   go_wp2_with fail
   go_ret
   exact ⟨rfl, HBZ.out⟩
end treeSets
end Go.Proofs.YtkobmnbjeppnaaaGreat
