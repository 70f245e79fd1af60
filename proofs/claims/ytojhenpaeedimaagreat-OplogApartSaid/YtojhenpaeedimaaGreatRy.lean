/-
 Two lists of moves have the same columns just if they are the same: the walk.
-/
import Derived.Test.YtojhenpaeedimaaGreatRx
import Derived.Deep.RegionWith
import Derived.Deep.DeepCutAuto
namespace Go.Proofs.YtojhenpaeedimaaGreat
open Go.RowKit Go.IntWalk
open Pk Rf Fl Wd Ol Dl Ru Fg Dt Rl
set_option maxRecDepth 100000
attribute [local go_sem] Oper.semAt_some
namespace oplogApart
theorem mok_reR {l : List Mv} (h : Mok4 l) (hl : l.length ≤ 60) : Mok4 (l.mapIdx reR) := fun m hm => by
 obtain ⟨i, hi, rfl⟩ := List.mem_mapIdx.1 hm
 exact ⟨small_float (by omega), (h _ (List.getElem_mem hi)).2⟩
theorem mok_reN {l : List Mv} (h : Mok4 l) : Mok4 (l.map reN) := fun m hm => by
 obtain ⟨x, hx, rfl⟩ := List.mem_map.1 hm
 exact ⟨(h x hx).1, by show ([115, 97, 109, 101] : List UInt8).length ≤ 1000; decide⟩
theorem reR_take {l : List Mv} {k : Nat} {m : Mv} (h : l[k]? = some m) : (l.mapIdx reR).take (k + 1) = (l.mapIdx reR).take k ++ [reR k m] := by
 rw [List.take_add_one, List.getElem?_mapIdx, h]; rfl
theorem reN_take {l : List Mv} {k : Nat} {m : Mv} (h : l[k]? = some m) : (l.map reN).take (k + 1) = (l.map reN).take k ++ [reN m] := by
 rw [List.take_add_one, List.getElem?_map, h]; rfl
theorem reR_drop {l : List Mv} {k : Nat} {m : Mv} (h : l[k]? = some m) : (l.mapIdx reR).drop k = reR k m :: (l.mapIdx reR).drop (k + 1) := by
 have hi : (l.mapIdx reR)[k]? = some (reR k m) := by rw [List.getElem?_mapIdx, h]; rfl
 exact drop_at_cons hi
set_option maxHeartbeats 16000000 in
theorem main (A : Option Addr) (cap : Nat) (l : List Mv) (A1 : Option Addr) (cap1 : Nat) (l2 : List Mv) (hl : l.length ≤ maxLen) (hl2 : l2.length ≤ maxLen) (hm : Moves_ l) (hm2 : Moves_ l2) (hq1 : fewM l 60 = true) (hq2 : fewM l2 60 = true) (hy1 : mayM l = true) (hy2 : mayM l2 = true)
  (w : World) (hc : At w w.heap.size A (mvs l)) (hc2 : At w w.heap.size A1 (mvs l2)) :
  Calls Tryz.prog 7 #[.slice A l.length cap, .slice A1 l2.length cap1] w fun e w' => e = .returned (.bool true) ∧ Below w.heap.size w w' := by
 obtain ⟨h60, hnm⟩ := fewM_in hq1
 obtain ⟨h602, hnm2⟩ := fewM_in hq2
 obtain ⟨n, hn⟩ : ∃ n, l.length = n := ⟨_, rfl⟩
 have HF1 := Lib.hid (few_z (cap := cap) (z := 60) hq1 rfl (by decide) hl hc)
 have HF2 := Lib.hid (few_z (cap := cap1) (z := 60) hq2 rfl (by decide) hl2 hc2)
 have ho1 := oplogWrites.few_mok4 hq1 hm
 have ho2 := oplogWrites.few_mok4 hq2 hm2
 obtain ⟨sb, hq⟩ : ∃ sb, sameM l l2 = sb := ⟨_, rfl⟩
 have hsm := encO_same hy1 hy2 (fun m hmm => (hm m hmm).1) (fun m hmm => (hm2 m hmm).1)
 rw [hq] at hsm
 have HM1 := Lib.hid (fun W (h : At W W.heap.size A (mvs l)) => rmmay_o (cap := cap) hy1 hl hm h)
 have HM2 := Lib.hid (fun W (h : At W W.heap.size A1 (mvs l2)) => rmmay_o (cap := cap1) hy2 hl2 hm2 h)
 have HE1 := Lib.hid (fun W (h : At W W.heap.size A (mvs l)) => oenc_y (cap := cap) (n := l.length) rfl hy1 (by omega) ho1 h)
 have HE2 := Lib.hid (fun W (h : At W W.heap.size A1 (mvs l2)) => oenc_y (cap := cap1) (n := l2.length) rfl hy2 (by omega) ho2 h)
 have HS := Lib.hid hsm
 have HQ := Lib.hid hq
 have HR1 := Lib.hid ((may_reR l).trans hy1)
 have HN1 := Lib.hid (may_reN hy1)
 have HO1 := Lib.hid (mok_reR ho1 h60)
 have HO2 := Lib.hid (mok_reN ho1)
 have HLL := Lib.hid hl
 have HLL2 := Lib.hid hl2
 have HMV := Lib.hid hm
 have HMV2 := Lib.hid hm2
 have HC := Lib.hid hc
 have HC2 := Lib.hid hc2
 have HN := Lib.hid hn
 have h60n : n ≤ 60 := by omega
 rw [hn] at HF1 HM1 HE1 ⊢
 have HRL := Lib.hid (show (l.mapIdx reR).length = n by rw [List.length_mapIdx, hn])
 have HNL := Lib.hid (show (l.map reN).length = n by rw [List.length_map, hn])
 clear hl hl2 hm hm2 hq1 hq2 hy1 hy2 hc hc2 hn hnm hnm2 ho1 ho2 hq hsm
 go_enter Tryz.func7, Tryz.ntmps7
 go_wp2_with fail
 refine HF1.out.mono ?_
 rintro e wq ⟨rfl, hw⟩
 subst hw
 go_wp2_with fail
 refine HF2.out.mono ?_
 rintro e wq ⟨rfl, hw⟩
 subst hw
 have B0 : Hid (Below w.heap.size w w) := Lib.hid (Below.refl _ _)
 have C0 := Lib.hid HC.out
 have D0 := Lib.hid HC2.out
 go_wp2_with fail
 refine (HM1.out _ C0.out).mono ?_
 rintro e w1 ⟨rfl, hb⟩
 have B1 := Lib.hid (B0.out.trans (hb.mono B0.out.size))
 have C1 := Lib.hid (C0.out.keep hb)
 have D1 := Lib.hid (D0.out.keep hb)
 clear hb B0 C0 D0
 go_wp2_with fail
 refine (HM2.out _ D1.out).mono ?_
 rintro e w2 ⟨rfl, hb⟩
 have B2 := Lib.hid (B1.out.trans (hb.mono B1.out.size))
 have C2 := Lib.hid (C1.out.keep hb)
 have D2 := Lib.hid (D1.out.keep hb)
 clear hb B1 C1 D1
 go_wp2_with fail
 refine (HE1.out _ C2.out).mono ?_
 rintro e w3 ⟨A2, c2, rfl, ha, hp2, hb⟩
 have B3 := Lib.hid (B2.out.trans (hb.mono B2.out.size))
 have C3 := Lib.hid (C2.out.keep hb)
 have D3 := Lib.hid (D2.out.keep hb)
 clear hb B2 C2 D2
 have X3 := Lib.hid ha
 clear ha
 go_wp2_with fail
 refine (HE2.out _ D3.out).mono ?_
 rintro e w4 ⟨A3, c3, rfl, ha, hp3, hb⟩
 have B4 := Lib.hid (B3.out.trans (hb.mono B3.out.size))
 have C4 := Lib.hid (C3.out.keep hb)
 have D4 := Lib.hid (D3.out.keep hb)
 have X4 := Lib.hid (X3.out.keep hb)
 clear hb B3 C3 D3 X3
 have Y4 := Lib.hid ha
 clear ha
 go_wp2_with fail
 refine (same11_v (n1 := 5) (n2 := 5) HS.out rfl rfl (by show 5 ≤ maxLen; unfold maxLen; decide) (by show 5 ≤ maxLen; unfold maxLen; decide) X4.out Y4.out).mono ?_
 rintro e wq ⟨rfl, q, hwq⟩
 have hb : Below w4.heap.size w4 wq := by rw [hwq]; exact below_drewN (Below.refl _ _) q
 clear hwq
 obtain ⟨w5, hw5⟩ : ∃ w5, w5 = wq := ⟨_, rfl⟩
 rw [← hw5] at hb ⊢
 clear hw5
 have B5 := Lib.hid (B4.out.trans (hb.mono B4.out.size))
 have C5 := Lib.hid (C4.out.keep hb)
 have D5 := Lib.hid (D4.out.keep hb)
 have X5 := Lib.hid (X4.out.keep hb)
 have Y5 := Lib.hid (Y4.out.keep hb)
 clear hb B4 C4 D4 X4 Y4
 go_wp2_with fail
 refine (rmsame_v (n1 := n) HQ.out HN.out rfl HLL.out HLL2.out HMV.out HMV2.out C5.out D5.out).mono ?_
 rintro e w6 ⟨rfl, hb⟩
 have B6 := Lib.hid (B5.out.trans (hb.mono B5.out.size))
 have C6 := Lib.hid (C5.out.keep hb)
 have D6 := Lib.hid (D5.out.keep hb)
 have X6 := Lib.hid (X5.out.keep hb)
 have Y6 := Lib.hid (Y5.out.keep hb)
 clear hb B5 C5 D5 X5 Y5
 have hqq : (sb != sb) = false := by cases sb <;> rfl
 have hqe : (sb == sb) = true := by cases sb <;> rfl
 obtain ⟨i0, hi, hz0, hz1, hz2⟩ := info_parts Tryz.info51
 go_wp2_with fail
 go_loopw [9, 10] (fun v i wr => ∃ k : Nat, i = .int .i64 (k : Int) ∧ k ≤ n ∧ wr.ownsRow w6.heap.size 51 6 v k (mvs ((l.mapIdx reR).take k)) ∧ Below w6.heap.size w6 wr) (fun _ i _ => n - (Go.RowKit.intOf i).toNat)
 case atStart => exact ⟨0, rfl, Nat.zero_le _, World.ownsRow_nil _ _ _ _, Below.refl _ _⟩
 case round =>
  obtain ⟨k, rfl, hk, hown, hb⟩ := hrel
  obtain ⟨Av, cv, rfl, -⟩ := own_shape hown
  have HO := Lib.hid hown
  have HB := Lib.hid hb
  clear hown hb
  by_cases hlt : k < n
  ·have hki : (0 : Int) ≤ (k : Int) := by omega
   have hkn : (k : Int) < (n : Int) := by omega
   obtain ⟨m, hmk⟩ := some_at (show k < l.length by rw [HN.out]; exact hlt)
   obtain ⟨bm, om, rfl, hbm, d0, d1, d2, d3, d4, d5⟩ := move_cells (C6.out.keep HB.out) hmk
   have HMK := Lib.hid hmk
   clear hmk
   go_upto_region 13 with fail
   obtain ⟨W7, hW7⟩ : ∃ W7, W7 = wr.alloc (.cells #[.int .i64 (mc m), .int .i64 (mr m), .int .i64 (pa (mw m)), .int .i64 (ch (mw m)), .string (ba (nm (mw m))), .float .f64 (floatOfInt .f64 (k : Int))] 51) := ⟨_, rfl⟩
   have b7 : Below wr.heap.size wr W7 := by rw [hW7]; exact (Below.refl _ _).alloc (Nat.le_refl _) _
   have i7 : Is W7 wr.heap.size 51 (mcs (reR k m)) := by rw [hW7]; exact is_new wr 51 (mcs (reR k m))
   have ho7 : W7.ownsRow w6.heap.size 51 6 (.slice Av k cv) k (mvs ((l.mapIdx reR).take k)) := by rw [hW7]; exact HO.out.alloc _
   rw [← hW7]
   have hbb := HB.out.trans (b7.mono HB.out.size)
   have HO7 := Lib.hid ho7
   have HB7 := Lib.hid hbb
   have g0 := is_cell i7 0
   have g1 := is_cell i7 1
   have g2 := is_cell i7 2
   have g3 := is_cell i7 3
   have g4 := is_cell i7 4
   have g5 := is_cell i7 5
   unfold mcs at g0 g1 g2 g3 g4 g5
   simp only [List.getElem?_cons_zero, List.getElem?_cons_succ] at g0 g1 g2 g3 g4 g5
   have hab := at_boxD W7 (reR k m)
   have HAB := Lib.hid hab
   clear hab b7 i7 ho7 hbb hW7 d0 d1 d2 d3 d4 d5 HO HB
   go_wp2_with (at_builtin; refine append_optM _ rfl _ _ rfl w6.heap.size _ _ _ rfl (HO7.out.alloc _) (some ⟨W7.heap.size, 0, none⟩) 1 [reR k m] rfl (fun h => by cases h) (by simp) (W7.heap.size + 1) HAB.out (by simp; omega) (by have := HB7.out.size; simp; omega) ?_; intro v2 wA hown2 hgrow)
   have hbA2 : Below w6.heap.size w6 wA := below_own (HB7.out.alloc HB7.out.size _) (by have := HB7.out.size; simp; omega) (HO7.out.alloc _) hgrow
   have hoA : wA.ownsRow w6.heap.size 51 6 v2 (k + 1) (mvs ((l.mapIdx reR).take (k + 1))) := by
    rw [reR_take HMK.out]
    exact hown2
   have HOA := Lib.hid hoA
   have HBA := Lib.hid hbA2
   clear hown2 hgrow hbA2 hoA g0 g1 g2 g3 g4 g5
   go_wp2_with fail
   go_roundw
   case rel => exact ⟨k + 1, by go_num, by omega, HOA.out, HBA.out⟩
   case measure => simp only [Go.RowKit.intOf]; omega
  obtain rfl : k = n := by omega
  have hown := HO.out
  rw [show (l.mapIdx reR).take k = l.mapIdx reR from List.take_of_length_le (by rw [HRL.out]; exact Nat.le_refl _)] at hown
  have hat := (own_at hown).choose_spec.choose_spec.2.1
  have hE := (own_at hown).choose_spec.choose_spec.1
  generalize (own_at hown).choose_spec.choose = cc at hE
  generalize (own_at hown).choose = AA at hat hE
  injection hE with hE1 hE2 hE3
  subst hE1
  clear hE2 hE3
  have hcall := oenc_y (cap := cv) HRL.out HR1.out (by rw [HRL.out]; omega) HO1.out hat
  have HCA := Lib.hid hcall
  have HOW := Lib.hid hown
  clear hcall hown hat HO hlt hk
  go_wp2_with fail
  refine HCA.out.mono ?_
  rintro e wE ⟨A5, c5, rfl, ha, hp5, hb⟩
  have HBE := Lib.hid (HB.out.trans (hb.mono HB.out.size))
  have HOE := Lib.hid (below_ownI HOW.out hb)
  have HZE := Lib.hid ha
  clear ha hb HOW HB HCA
  have hp54 : (4 : Int) ≤ (c5 : Int) := by omega
  have hp24 : (4 : Int) ≤ (c2 : Int) := by omega
  have hp23 : (3 : Int) ≤ (c2 : Int) := by omega
  have hcall := fun (W : World) (hW : Below wE.heap.size wE W) => same11_v (w := W) (q := true) (n1 := 4) (n2 := 4) (c1 := c5) (c2 := c2) (decide_eq_true (enc_reR l)) rfl rfl (by show 4 ≤ maxLen; unfold maxLen; decide) (by show 4 ≤ maxLen; unfold maxLen; decide) (cvs_take (HZE.out.keep hW) 4) (cvs_take ((X6.out.keep HBE.out).keep hW) 4)
  have HCA := Lib.hid hcall
  clear hcall
  go_upto_region 15 with fail
  refine quiet_held (fun w' => Below wE.heap.size wE w') (by kernel_rfl) (by kernel_rfl) (Below.refl _ _).drew ?_
  repeat (first
   | go_big_quiet_skip
   | (go_big_quiet_want; go_big_quiet_op; go_big_quiet_on)
   | (go_big_quiet_want; apply Exists.intro; refine ⟨fun wq hq => ?_, ?_⟩; (focus (unfold Oper.quietAt; go_simp; all_goals (first | rfl | exact ⟨rfl, rfl⟩ | (with_reducible refine (HCA.out wq hq).mono ?_; rintro e w9 ⟨rfl, dq, rfl⟩; exact ⟨rfl, below_drewN hq _⟩)))); simp only [Act.put, List.setIfInBounds_toArray, List.set_cons_zero, List.set_cons_succ]; go_big_quiet_on))
  refine wpQuiet_nil ?_
  intro wF hb
  have HBF := Lib.hid (HBE.out.trans (hb.mono HBE.out.size))
  have HOF := Lib.hid (below_ownI HOE.out hb)
  clear hb HCA HBE HOE HZE
  go_wp2_with fail
  go_loopw [14] (fun i wr => ∃ j : Nat, i = .int .i64 (j : Int) ∧ j ≤ k ∧ wr.ownsRow w6.heap.size 51 6 (.slice Av k cv) k (mvs ((l.map reN).take j ++ (l.mapIdx reR).drop j)) ∧ Below w6.heap.size w6 wr) (fun i _ => k - (Go.RowKit.intOf i).toNat)
  case atStart => exact ⟨0, rfl, Nat.zero_le _, by rw [List.take_zero, List.drop_zero, List.nil_append]; exact HOF.out, HBF.out⟩
  case round =>
   obtain ⟨j, rfl, hj, hown, hb⟩ := hrel
   have HO := Lib.hid hown
   have HB := Lib.hid hb
   clear hown hb
   by_cases hlt : j < k
   ·have hki : (0 : Int) ≤ (j : Int) := by omega
    have hkn : (j : Int) < (k : Int) := by omega
    obtain ⟨m, hmk⟩ := some_at (show j < l.length by rw [HN.out]; exact hlt)
    obtain ⟨G, hG, hbG⟩ : ∃ G, Av = some ⟨G, 0, none⟩ ∧ w6.heap.size ≤ G := by
     rcases HO.out.2 with ⟨h1, h2⟩ | ⟨g, cap', cur, h1, h2, -⟩
     ·exact absurd h2 (by omega)
     ·injection h1 with h1 _ _
      exact ⟨g, h1, h2⟩
    subst hG
    obtain ⟨bm, om, rfl, hbm, d0, d1, d2, d3, d4, d5⟩ := move_cells (C6.out.keep HB.out) hmk
    have htl : ((l.map reN).take j).length = j := by rw [List.length_take, HNL.out]; omega
    have ho := HO.out
    rw [reR_drop hmk] at ho
    have hno : ∀ i, i < 6 → ∃ u, wr.cell? ⟨G, j * 6 + i, none⟩ = some u := fun i hi => by
     have hx := ho.cellAt (j * 6 + i) (by omega)
     obtain ⟨u, hu⟩ := some_at (show j * 6 + i < (mvs ((l.map reN).take j ++ reR j m :: (l.mapIdx reR).drop (j + 1))).length by rw [ho.1]; omega)
     exact ⟨u, hx.trans hu⟩
    obtain ⟨q0, l0⟩ := hno 0 (by omega)
    obtain ⟨q1, l1⟩ := hno 1 (by omega)
    obtain ⟨q2, l2c⟩ := hno 2 (by omega)
    obtain ⟨q3, l3⟩ := hno 3 (by omega)
    obtain ⟨q4, l4⟩ := hno 4 (by omega)
    obtain ⟨q5, l5⟩ := hno 5 (by omega)
    rw [Nat.add_zero] at l0
    have f0 := ho.frozenAt (j * 6)
    have f1 := ho.frozenAt (j * 6 + 1)
    have f2 := ho.frozenAt (j * 6 + 2)
    have f3 := ho.frozenAt (j * 6 + 3)
    have f4 := ho.frozenAt (j * 6 + 4)
    have f5 := ho.frozenAt (j * 6 + 5)
    have HO8 := Lib.hid (own_set6 ho htl m)
    have HMK := Lib.hid hmk
    have HTL := Lib.hid htl
    clear hmk htl ho hno
    go_upto_region 21 with fail
    obtain ⟨W8, hW8⟩ : ∃ W8, W8 = ((((((wr.setCell ⟨G, j * 6, none⟩ (.int .i64 (mc m))).setCell ⟨G, j * 6 + 1, none⟩ (.int .i64 (mr m))).setCell ⟨G, j * 6 + 2, none⟩ (.int .i64 (pa (mw m)))).setCell ⟨G, j * 6 + 3, none⟩ (.int .i64 (ch (mw m)))).setCell ⟨G, j * 6 + 4, none⟩ (.string (ba (nm (mw m))))).setCell ⟨G, j * 6 + 5, none⟩ (.float .f64 (rk (mw m)))) := ⟨_, rfl⟩
    have ho8 := HO8.out
    rw [← hW8] at ho8 ⊢
    have hb8 : Below w6.heap.size w6 W8 := by rw [hW8]; exact set6_belowB HB.out hbG
    have hx := ho8.cellAt (j * 6 + 4) (by omega)
    obtain ⟨u4, hu4⟩ := some_at (show j * 6 + 4 < (mvs ((l.map reN).take j ++ m :: (l.mapIdx reR).drop (j + 1))).length by rw [ho8.1]; omega)
    have l4 := hx.trans hu4
    have f4 := ho8.frozenAt (j * 6 + 4)
    have ho9 := (ho8.stored (j * 6 + 4) (.string (ba [115, 97, 109, 101]))).1
    rw [mvs_setN _ _ _ j HTL.out] at ho9
    have HO9 := Lib.hid ho9
    have HB9 := Lib.hid (hb8.setCell (p := ⟨G, j * 6 + 4, none⟩) hbG (.string (ba [115, 97, 109, 101])))
    clear hx hu4 ho8 hb8 hW8 HO8 HO HB l0 l1 l2c l3 l5 f0 f1 f2 f3 f5 d0 d1 d2 d3 d4 d5 ho9
    have hstr : (⟨#[115, 97, 109, 101]⟩ : ByteArray) = ba [115, 97, 109, 101] := rfl
    go_wp2_with fail
    go_roundw
    case rel =>
     refine ⟨j + 1, by go_num, by omega, ?_, HB9.out⟩
     rw [reN_take HMK.out, List.append_assoc]
     exact HO9.out
    case measure => simp only [Go.RowKit.intOf]; omega
   obtain rfl : j = k := by omega
   have hown := HO.out
   rw [show (l.map reN).take j = l.map reN from List.take_of_length_le (by rw [HNL.out]; exact Nat.le_refl _), show (l.mapIdx reR).drop j = [] from List.drop_eq_nil_of_le (by rw [HRL.out]; exact Nat.le_refl _), List.append_nil] at hown
   have hat := (own_at hown).choose_spec.choose_spec.2.1
   have hE := (own_at hown).choose_spec.choose_spec.1
   generalize (own_at hown).choose_spec.choose = cc at hE
   generalize (own_at hown).choose = AA at hat hE
   injection hE with hE1 hE2 hE3
   subst hE1
   clear hE2 hE3
   have hcall := oenc_y (cap := cv) HNL.out HN1.out (by rw [HNL.out]; omega) HO2.out hat
   have HCA := Lib.hid hcall
   clear hcall hown hat hlt hj HO HOF HBF
   go_wp2_with fail
   refine HCA.out.mono ?_
   rintro e wG ⟨A6, c6, rfl, ha, hp6, hb⟩
   have HBE := Lib.hid (HB.out.trans (hb.mono HB.out.size))
   have HZE := Lib.hid ha
   clear ha hb HB HCA
   obtain ⟨T, hT⟩ : ∃ T, ba (rkU (rkL l)) = T := ⟨_, rfl⟩
   have c1e : (encO l)[4]? = some (8, rkU (rkL l)) := rfl
   have c2e : (encO (l.map reN))[4]? = some (8, rkU (rkL l)) := by rw [← (enc_reN l).2]; rfl
   obtain ⟨bx, ox, rfl, hbx, x0, x1⟩ := Ck.chunk_cells (X6.out.keep HBE.out) c1e
   obtain ⟨bz, oz, rfl, hbz, z0, z1⟩ := Ck.chunk_cells HZE.out c2e
   simp only at x0 x1 z0 z1
   rw [hT] at x1 z1
   have hp63 : (3 : Int) ≤ (c6 : Int) := by omega
   have hp65 : (5 : Int) ≤ (c6 : Int) := by omega
   have X0 := Lib.hid x0
   have X1 := Lib.hid x1
   have Z0 := Lib.hid z0
   have Z1 := Lib.hid z1
   have hcall := fun (W : World) (hW : Below wG.heap.size wG W) => same11_v (w := W) (q := true) (n1 := 3) (n2 := 3) (c1 := c6) (c2 := c2) (decide_eq_true (enc_reN l).1) rfl rfl (by show 3 ≤ maxLen; unfold maxLen; decide) (by show 3 ≤ maxLen; unfold maxLen; decide) (cvs_take (HZE.out.keep hW) 3) (cvs_take ((X6.out.keep HBE.out).keep hW) 3)
   have HCA := Lib.hid hcall
   clear hcall hT c1e c2e x0 x1 z0 z1
   go_upto_region 23 with fail
   refine quiet_held (fun w' => Below wG.heap.size wG w') (by kernel_rfl) (by kernel_rfl) (Below.refl _ _).drew ?_
   repeat (first
    | go_big_quiet_skip
    | (go_big_quiet_want; go_big_quiet_op; go_big_quiet_on)
    | (go_big_quiet_want; apply Exists.intro; refine ⟨fun wq hq => ?_, ?_⟩; (focus (have k0 := cell_below X0.out hq hbx; have k1 := cell_below X1.out hq hbx; have k2 := cell_below Z0.out hq hbz; have k3 := cell_below Z1.out hq hbz; unfold Oper.quietAt; go_simp; all_goals (first | rfl | exact ⟨rfl, rfl⟩ | (with_reducible refine (HCA.out wq hq).mono ?_; rintro e w9 ⟨rfl, dq, rfl⟩; exact ⟨rfl, below_drewN hq _⟩) | (with_reducible refine (live19_c wq).mono ?_; rintro e w9 ⟨rfl, hbn⟩; exact ⟨rfl, hq.trans (hbn.mono hq.size)⟩)))); simp only [Act.put, List.setIfInBounds_toArray, List.set_cons_zero, List.set_cons_succ]; go_big_quiet_on))
   refine wpQuiet_nil ?_
   intro wH hb
   have hbG := HBE.out.trans (hb.mono HBE.out.size)
   go_wp2_with fail
   go_ret
   exact ⟨rfl, B6.out.trans (hbG.mono B6.out.size)⟩
set_option maxHeartbeats 4000000 in
theorem walk (A : Option Addr) (cap : Nat) (l : List Mv) (A1 : Option Addr) (cap1 : Nat) (l2 : List Mv) (hl : l.length ≤ maxLen) (hl2 : l2.length ≤ maxLen) (hm : Moves_ l) (hm2 : Moves_ l2) (w : World) (hc : At w w.heap.size A (mvs l)) (hc2 : At w w.heap.size A1 (mvs l2)) :
  Calls Tryz.prog 7 #[.slice A l.length cap, .slice A1 l2.length cap1] w fun e w' => e = .returned (.bool true) ∧ Below w.heap.size w w' := by
 obtain ⟨q1, hq1⟩ : ∃ q, fewM l 60 = q := ⟨_, rfl⟩
 obtain ⟨q2, hq2⟩ : ∃ q, fewM l2 60 = q := ⟨_, rfl⟩
 obtain ⟨y1, hy1⟩ : ∃ q, mayM l = q := ⟨_, rfl⟩
 obtain ⟨y2, hy2⟩ : ∃ q, mayM l2 = q := ⟨_, rfl⟩
 have HF1 := Lib.hid (few_z (cap := cap) (z := 60) hq1 rfl (by decide) hl hc)
 have HF2 := Lib.hid (few_z (cap := cap1) (z := 60) hq2 rfl (by decide) hl2 hc2)
 have HM1 := Lib.hid (fun W (h : At W W.heap.size A (mvs l)) => rmmay_o (cap := cap) hy1 hl hm h)
 have HM2 := Lib.hid (fun W (h : At W W.heap.size A1 (mvs l2)) => rmmay_o (cap := cap1) hy2 hl2 hm2 h)
 have HC := Lib.hid hc
 have HC2 := Lib.hid hc2
 cases q1 with
 | false =>
  go_enter Tryz.func7, Tryz.ntmps7
  go_wp2_with fail
  refine HF1.out.mono ?_
  rintro e wq ⟨rfl, hw⟩
  subst hw
  go_wp2_with fail
  refine (live19_c _).mono ?_
  rintro e w1 ⟨rfl, hb⟩
  go_wp2_with fail
  go_ret
  exact ⟨rfl, hb⟩
 | true =>
 cases q2 with
 | false =>
  go_enter Tryz.func7, Tryz.ntmps7
  go_wp2_with fail
  refine HF1.out.mono ?_
  rintro e wq ⟨rfl, hw⟩
  subst hw
  go_wp2_with fail
  refine HF2.out.mono ?_
  rintro e wq ⟨rfl, hw⟩
  subst hw
  go_wp2_with fail
  refine (live19_c _).mono ?_
  rintro e w1 ⟨rfl, hb⟩
  go_wp2_with fail
  go_ret
  exact ⟨rfl, hb⟩
 | true =>
 cases y1 with
 | false =>
  go_enter Tryz.func7, Tryz.ntmps7
  go_wp2_with fail
  refine HF1.out.mono ?_
  rintro e wq ⟨rfl, hw⟩
  subst hw
  go_wp2_with fail
  refine HF2.out.mono ?_
  rintro e wq ⟨rfl, hw⟩
  subst hw
  go_wp2_with fail
  refine (HM1.out _ HC.out).mono ?_
  rintro e w1 ⟨rfl, hb1⟩
  go_wp2_with fail
  refine (live19_c _).mono ?_
  rintro e w2 ⟨rfl, hb⟩
  go_wp2_with fail
  go_ret
  exact ⟨rfl, hb1.trans (hb.mono hb1.size)⟩
 | true =>
 cases y2 with
 | false =>
  go_enter Tryz.func7, Tryz.ntmps7
  go_wp2_with fail
  refine HF1.out.mono ?_
  rintro e wq ⟨rfl, hw⟩
  subst hw
  go_wp2_with fail
  refine HF2.out.mono ?_
  rintro e wq ⟨rfl, hw⟩
  subst hw
  go_wp2_with fail
  refine (HM1.out _ HC.out).mono ?_
  rintro e w1 ⟨rfl, hb1⟩
  go_wp2_with fail
  refine (HM2.out _ (HC2.out.keep hb1)).mono ?_
  rintro e w2 ⟨rfl, hb2⟩
  have hb12 := hb1.trans (hb2.mono hb1.size)
  go_wp2_with fail
  refine (live19_c _).mono ?_
  rintro e w3 ⟨rfl, hb⟩
  go_wp2_with fail
  go_ret
  exact ⟨rfl, hb12.trans (hb.mono hb12.size)⟩
 | true => exact main A cap l A1 cap1 l2 hl hl2 hm hm2 hq1 hq2 hy1 hy2 w hc hc2
end oplogApart
end Go.Proofs.YtojhenpaeedimaaGreat
