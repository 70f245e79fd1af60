/-
 Moves as columns are read as they were, chunks that are read are what their moves make: a walk.
-/
import Derived.Test.YtojhenpaeedimaaGreatPy
namespace Go.Proofs.YtojhenpaeedimaaGreat
open Go.RowKit Go.IntWalk
open Pk Rf Fl Wd Ol Dl Ru Fg Dt Rl
set_option maxRecDepth 100000
attribute [local go_sem] Oper.semAt_some
theorem rmmay_o {A : Option Addr} {cap : Nat} {l : List Mv} {b : Bool} (h : mayM l = b) (hl : l.length ≤ maxLen) (hM : Moves_ l) {w : World} (hc : At w w.heap.size A (mvs l)) :
  Calls Tryz.prog 27 #[.slice A l.length cap] w fun e w' => e = .returned (.bool b) ∧ Below w.heap.size w w' := by
 subst h; exact rmmay_c A cap l hl (fun m hm => (hM m hm).2) w hc
theorem encD_small {l : List (List UInt8)} (hl : l.length ≤ 100) (hn : ∀ t ∈ l, t.length ≤ 100) : (Dt.encD l).length ≤ 90000 := by
 have h1 := Dc.ws_len l []
 have h2 := Dc.pl_len l []
 have h3 := enc4_len (Dc.ws [] l) 100 (by omega) (Dt.ws_texts hn)
 have h4 := encU_len (l := Dc.pl [] l) (Dt.pl_nums (by omega)) (by omega)
 have h5 := put_len10 (n := (Dc.ws [] l).length) (by simp at h1; omega)
 simp at h1
 have h6 : (100 + 10) * (Dc.ws [] l).length ≤ 110 * 100 := Nat.mul_le_mul (by omega) (by omega)
 unfold Dt.encD
 rw [List.length_append, List.length_append]
 omega
theorem encO_small {l : List Mv} (_h : mayM l = true) (hl : l.length ≤ 100) (hn : ∀ m ∈ l, (nm (mw m)).length ≤ 100) : ∀ q ∈ encO l, q.2.length ≤ 90000 := by
 have e1 : (mcL l).length = l.length := List.length_map ..
 have e2 : (mrL l).length = l.length := List.length_map ..
 have e3 : (paL l).length = l.length := List.length_map ..
 have e4 : (chL l).length = l.length := List.length_map ..
 have e5 : (nmL l).length = l.length := List.length_map ..
 have e6 : (l.map fun m => rk (mw m)).length = l.length := List.length_map ..
 have b1 := (encL_len (mcL l)).2
 have b3 := (encL_len (paL l)).2
 have b4 := (encL_len (chL l)).2
 have b2 := encU_len (nums_u64 l) (by omega)
 have p1 := prt_len (s := encL (mcL l)) (by omega)
 have p3 := prt_len (s := encL (paL l)) (by omega)
 have p0 := put_len10 (n := l.length) (by omega)
 have r1 := rk_bytes (l := l.map fun m => rk (mw m)) (by omega)
 rw [rkF_rkL] at r1
 have d1 := encD_small (l := nmL l) (by omega) (fun t ht => by obtain ⟨m, hm, rfl⟩ := List.mem_map.1 ht; exact hn m hm)
 intro q hq
 unfold encO at hq
 simp only [List.mem_cons, List.not_mem_nil, or_false] at hq
 rcases hq with rfl | rfl | rfl | rfl | rfl
 ·show (put l.length).length ≤ 90000; omega
 ·show (bdT l).length ≤ 90000; unfold bdT; rw [List.length_append]; omega
 ·show (bdE l).length ≤ 90000; unfold bdE; rw [List.length_append]; omega
 ·exact d1
 ·exact r1
theorem sim_bkL : ∀ {l : List Mv}, (∀ m ∈ l, rk (mw m) < 18446744073709551616) → SimL l (l.map bkM)
 | [], _ => trivial
 | m :: l, h => by
  have h0 := h m (List.mem_cons_self ..)
  refine ⟨⟨rfl, rfl, rfl, rfl, rfl, h0, ?_⟩, sim_bkL fun x hx => h x (List.mem_cons_of_mem _ hx)⟩
  show cb (rk (mw m)) = cb (fl (cb (rk (mw m))))
  rw [cb_fl_cn (cb_lt _ h0) (cn_cb h0)]
namespace oplogBack
set_option maxHeartbeats 16000000 in
theorem walk_y (A : Option Addr) (cap : Nat) (l : List Mv) (A1 : Option Addr) (cap1 : Nat) (c : List Ck.Chk) (hq : fewM l 60 = true) (hf : Ck.few c = true) (hcm : c.length ≤ maxLen) (hl : l.length ≤ maxLen) (hmv : Moves_ l) (hmay : mayM l = true) (w : World) (hc : At w w.heap.size A (mvs l)) (hc1 : At w w.heap.size A1 (Ck.cvs c)) :
  Calls Tryz.prog 5 #[.slice A l.length cap, .slice A1 c.length cap1] w fun e w' => e = .returned (.bool true) ∧ Below w.heap.size w w' := by
 obtain ⟨hln, hnm⟩ := fewM_in hq
 obtain ⟨hc20, hc200⟩ := Ck.few_in hf
 have HFEW := Lib.hid (few_z (cap := cap) (z := 60) hq rfl (by decide) hl hc)
 have HFC := Lib.hid (few11_v (cap := cap1) hf hcm hc1)
 have hcc : encC l = encO l := by unfold encC; rw [hmay]; rfl
 have hx : encE l = 0 := by unfold encE; rw [hmay]; rfl
 have hrm := rmmay_o (cap := cap) hmay hl hmv hc
 have hr64 : ∀ m ∈ l, rk (mw m) < 18446744073709551616 := fun m hm => (hmv m hm).1
 have hde := decO_enc hmay hr64
 have hes := encO_small hmay (by omega) hnm
 have hbl : (l.map bkM).length = l.length := List.length_map ..
 have HDE := Lib.hid hde
 have HES := Lib.hid hes
 have HBL := Lib.hid hbl
 have HBK := Lib.hid (sim_bkL hr64)
 clear hde hes hbl hr64
 obtain ⟨⟨r, x⟩, hd⟩ : ∃ q, decO c = q := ⟨_, rfl⟩
 obtain ⟨N, hN⟩ : ∃ N, r.length = N := ⟨_, rfl⟩
 have hN2 : N ≤ 2000 := by rw [← hN]; exact (decO_names hd).2
 have HOK := Lib.hid (oplogWrites.few_mok4 hq hmv)
 have HCC := Lib.hid hcc
 have HX := Lib.hid hx
 have HD := Lib.hid hd
 have HN := Lib.hid hN
 have HMV := Lib.hid hmv
 have HL4 := Lib.hid (show l.length ≤ 4000 by omega)
 have HLM := Lib.hid hl
 have HCM := Lib.hid hcm
 have HCL := Lib.hid (show c.length ≤ 100000 by omega)
 have HSM := Lib.hid (show ∀ q ∈ c, q.2.length ≤ 90000 from fun q hq => by have := hc200 q hq; omega)
 have HC := Lib.hid hc
 have HC1 := Lib.hid hc1
 have HRM := Lib.hid (fun W (h : At W W.heap.size A (mvs l)) => rmmay_o (cap := cap) hmay hl hmv h)
 clear hcc hx hd hN hmv hc hc1 hc200 hc20 hrm hq hf hnm
 go_enter Tryz.func5, Tryz.ntmps5
 go_wp2_with fail
 refine HFEW.out.mono ?_
 rintro e wq ⟨rfl, hw⟩
 subst hw
 go_wp2_with fail
 refine HFC.out.mono ?_
 rintro e wq ⟨rfl, hw⟩
 subst hw
 have B0 : Hid (Below w.heap.size w w) := Lib.hid (Below.refl _ _)
 have C0 := Lib.hid HC.out
 have D0 := Lib.hid HC1.out
 go_wp2_with fail
 refine (oenc_v rfl HCC.out HX.out HL4.out HOK.out C0.out).mono ?_
 rintro e w1 ⟨A2, c2, rfl, ha, -, hb⟩
 have B1 := Lib.hid (B0.out.trans (hb.mono B0.out.size))
 have C1 := Lib.hid (C0.out.keep hb)
 have D1 := Lib.hid (D0.out.keep hb)
 clear hb B0 C0 D0
 have P1 := Lib.hid ha
 clear ha
 have h5 : (encO l).length = 5 := rfl
 rw [h5]
 go_wp2_with fail
 refine (HRM.out _ C1.out).mono ?_
 rintro e w2 ⟨rfl, hb⟩
 have B2 := Lib.hid (B1.out.trans (hb.mono B1.out.size))
 have C2 := Lib.hid (C1.out.keep hb)
 have D2 := Lib.hid (D1.out.keep hb)
 have P2 := Lib.hid (P1.out.keep hb)
 clear hb B1 C1 D1 P1
 go_wp2_with fail
 refine (odec_v (n := 5) rfl HDE.out HBL.out (by rw [h5]; decide) HES.out P2.out).mono ?_
 rintro e w3 ⟨A3, c3, m3, rfl, hm3, hs3, ha, hb⟩
 have B3 := Lib.hid (B2.out.trans (hb.mono B2.out.size))
 have C3 := Lib.hid (C2.out.keep hb)
 have D3 := Lib.hid (D2.out.keep hb)
 have P3 := Lib.hid (P2.out.keep hb)
 clear hb B2 C2 D2 P2
 have Q3 := Lib.hid ha
 clear ha
 have X1 := Lib.hid (rmsame_v (c1 := c3) (c2 := cap) (sim_sameM hs3 HBK.out) hm3 rfl (by rw [hm3]; exact HLM.out) HLM.out (sim_movesO HDE.out hs3) HMV.out Q3.out C3.out)
 clear hm3 hs3
 go_wp2_with fail
 refine (X1.out).mono ?_
 rintro e w4 ⟨rfl, hb⟩
 have B4 := Lib.hid (B3.out.trans (hb.mono B3.out.size))
 have C4 := Lib.hid (C3.out.keep hb)
 have D4 := Lib.hid (D3.out.keep hb)
 have P4 := Lib.hid (P3.out.keep hb)
 have Q4 := Lib.hid (Q3.out.keep hb)
 clear hb B3 C3 D3 P3 Q3
 go_wp2_with fail
 refine (odec_v rfl HD.out HN.out HCL.out HSM.out D4.out).mono ?_
 rintro e w5 ⟨A4, c4, m4, rfl, hm4, hs4, ha, hb⟩
 have B5 := Lib.hid (B4.out.trans (hb.mono B4.out.size))
 have C5 := Lib.hid (C4.out.keep hb)
 have D5 := Lib.hid (D4.out.keep hb)
 have P5 := Lib.hid (P4.out.keep hb)
 have Q5 := Lib.hid (Q4.out.keep hb)
 clear hb B4 C4 D4 P4 Q4
 have R5 := Lib.hid ha
 clear ha
 have S4 := Lib.hid hs4
 have N4 := Lib.hid hm4
 clear hs4 hm4
 rcases Decidable.em (x ≠ 0) with hz | hz
 ·have hu := decO_none (c := c) (by rw [HD.out]; exact hz)
  rw [HD.out] at hu
  have hM0 : N = 0 := by rw [← HN.out]; simp only at hu; rw [hu]; rfl
  subst hM0
  have hz1 : (x != 0) = true := by simpa using hz
  have hz2 : (x == 0) = false := by simpa using hz
  clear hu
  go_wp2_with fail
  refine (live19_c _).mono ?_
  rintro e w9 ⟨rfl, hb⟩
  go_wp2_with fail
  go_ret
  exact ⟨rfl, B5.out.trans (hb.mono B5.out.size)⟩
 obtain rfl : x = 0 := by simpa using hz
 obtain ⟨hbk1, hbk2⟩ := decO_back HD.out
 have hmc : encC m4 = c := by rw [sim_encC S4.out]; unfold encC; rw [hbk2]; exact hbk1
 have hme : encE m4 = 0 := by rw [sim_encE S4.out]; unfold encE; rw [hbk2]; rfl
 have HMC := Lib.hid hmc
 have HME := Lib.hid hme
 have HM4 := Lib.hid (sim_mokO HD.out S4.out)
 have HL9 := Lib.hid (show m4.length ≤ 4000 by rw [N4.out]; omega)
 clear hbk1 hbk2 hmc hme hz
 go_wp2_with fail
 refine (oenc_v N4.out HMC.out HME.out HL9.out HM4.out R5.out).mono ?_
 rintro e w6 ⟨A5, c5, rfl, ha, -, hb⟩
 have B6 := Lib.hid (B5.out.trans (hb.mono B5.out.size))
 have C6 := Lib.hid (C5.out.keep hb)
 have D6 := Lib.hid (D5.out.keep hb)
 have P6 := Lib.hid (P5.out.keep hb)
 have Q6 := Lib.hid (Q5.out.keep hb)
 have R6 := Lib.hid (R5.out.keep hb)
 clear hb B5 C5 D5 P5 Q5 R5
 have S6 := Lib.hid ha
 clear ha
 go_wp2_with fail
 refine (same11_v (decide_eq_true (rfl : c = c)) rfl rfl HCM.out HCM.out S6.out D6.out).mono ?_
 rintro e wq ⟨rfl, q, hwq⟩
 have hb : Below w6.heap.size w6 wq := by rw [hwq]; exact below_drewN (Below.refl _ _) q
 clear hwq
 obtain ⟨w7, hw7⟩ : ∃ w7, w7 = wq := ⟨_, rfl⟩
 rw [← hw7] at hb ⊢
 clear hw7
 have B7 := Lib.hid (B6.out.trans (hb.mono B6.out.size))
 have C7 := Lib.hid (C6.out.keep hb)
 have D7 := Lib.hid (D6.out.keep hb)
 have P7 := Lib.hid (P6.out.keep hb)
 have Q7 := Lib.hid (Q6.out.keep hb)
 have R7 := Lib.hid (R6.out.keep hb)
 have S7 := Lib.hid (S6.out.keep hb)
 clear hb B6 C6 D6 P6 Q6 R6 S6
 go_wp2_with fail
 refine (live19_c _).mono ?_
 rintro e w8 ⟨rfl, hb⟩
 have B8 := Lib.hid (B7.out.trans (hb.mono B7.out.size))
 have C8 := Lib.hid (C7.out.keep hb)
 have D8 := Lib.hid (D7.out.keep hb)
 have P8 := Lib.hid (P7.out.keep hb)
 have Q8 := Lib.hid (Q7.out.keep hb)
 have R8 := Lib.hid (R7.out.keep hb)
 have S8 := Lib.hid (S7.out.keep hb)
 clear hb B7 C7 D7 P7 Q7 R7 S7
 go_wp2_with fail
 go_ret
 exact ⟨rfl, B8.out⟩
set_option maxHeartbeats 16000000 in
theorem walk_n (A : Option Addr) (cap : Nat) (l : List Mv) (A1 : Option Addr) (cap1 : Nat) (c : List Ck.Chk) (hq : fewM l 60 = true) (hf : Ck.few c = true) (hcm : c.length ≤ maxLen) (hl : l.length ≤ maxLen) (hmv : Moves_ l) (hmay : mayM l = false) (w : World) (hc : At w w.heap.size A (mvs l)) (hc1 : At w w.heap.size A1 (Ck.cvs c)) :
  Calls Tryz.prog 5 #[.slice A l.length cap, .slice A1 c.length cap1] w fun e w' => e = .returned (.bool true) ∧ Below w.heap.size w w' := by
 obtain ⟨hln, hnm⟩ := fewM_in hq
 obtain ⟨hc20, hc200⟩ := Ck.few_in hf
 have HFEW := Lib.hid (few_z (cap := cap) (z := 60) hq rfl (by decide) hl hc)
 have HFC := Lib.hid (few11_v (cap := cap1) hf hcm hc1)
 have hcc : encC l = [] := by unfold encC; rw [hmay]; rfl
 have hx : encE l = 1 := by unfold encE; rw [hmay]; rfl
 have hrm := rmmay_o (cap := cap) hmay hl hmv hc
 obtain ⟨⟨r, x⟩, hd⟩ : ∃ q, decO c = q := ⟨_, rfl⟩
 obtain ⟨N, hN⟩ : ∃ N, r.length = N := ⟨_, rfl⟩
 have hN2 : N ≤ 2000 := by rw [← hN]; exact (decO_names hd).2
 have HOK := Lib.hid (oplogWrites.few_mok4 hq hmv)
 have HCC := Lib.hid hcc
 have HX := Lib.hid hx
 have HD := Lib.hid hd
 have HN := Lib.hid hN
 have HMV := Lib.hid hmv
 have HL4 := Lib.hid (show l.length ≤ 4000 by omega)
 have HLM := Lib.hid hl
 have HCM := Lib.hid hcm
 have HCL := Lib.hid (show c.length ≤ 100000 by omega)
 have HSM := Lib.hid (show ∀ q ∈ c, q.2.length ≤ 90000 from fun q hq => by have := hc200 q hq; omega)
 have HC := Lib.hid hc
 have HC1 := Lib.hid hc1
 have HRM := Lib.hid (fun W (h : At W W.heap.size A (mvs l)) => rmmay_o (cap := cap) hmay hl hmv h)
 clear hcc hx hd hN hmv hc hc1 hc200 hc20 hrm hq hf hnm
 go_enter Tryz.func5, Tryz.ntmps5
 go_wp2_with fail
 refine HFEW.out.mono ?_
 rintro e wq ⟨rfl, hw⟩
 subst hw
 go_wp2_with fail
 refine HFC.out.mono ?_
 rintro e wq ⟨rfl, hw⟩
 subst hw
 have B0 : Hid (Below w.heap.size w w) := Lib.hid (Below.refl _ _)
 have C0 := Lib.hid HC.out
 have D0 := Lib.hid HC1.out
 go_wp2_with fail
 refine (oenc_v rfl HCC.out HX.out HL4.out HOK.out C0.out).mono ?_
 rintro e w1 ⟨A2, c2, rfl, ha, -, hb⟩
 have B1 := Lib.hid (B0.out.trans (hb.mono B0.out.size))
 have C1 := Lib.hid (C0.out.keep hb)
 have D1 := Lib.hid (D0.out.keep hb)
 clear hb B0 C0 D0
 have P1 := Lib.hid ha
 clear ha
 rw [show ([] : List Ck.Chk).length = 0 from rfl]
 go_wp2_with fail
 refine (HRM.out _ C1.out).mono ?_
 rintro e w2 ⟨rfl, hb⟩
 have B2 := Lib.hid (B1.out.trans (hb.mono B1.out.size))
 have C2 := Lib.hid (C1.out.keep hb)
 have D2 := Lib.hid (D1.out.keep hb)
 have P2 := Lib.hid (P1.out.keep hb)
 clear hb B1 C1 D1 P1
 go_wp2_with fail
 refine (odec_v rfl HD.out HN.out HCL.out HSM.out D2.out).mono ?_
 rintro e w3 ⟨A4, c4, m4, rfl, hm4, hs4, ha, hb⟩
 have B3 := Lib.hid (B2.out.trans (hb.mono B2.out.size))
 have C3 := Lib.hid (C2.out.keep hb)
 have D3 := Lib.hid (D2.out.keep hb)
 have P3 := Lib.hid (P2.out.keep hb)
 clear hb B2 C2 D2 P2
 have R3 := Lib.hid ha
 clear ha
 have S4 := Lib.hid hs4
 have N4 := Lib.hid hm4
 clear hs4 hm4
 rcases Decidable.em (x ≠ 0) with hz | hz
 ·have hu := decO_none (c := c) (by rw [HD.out]; exact hz)
  rw [HD.out] at hu
  have hM0 : N = 0 := by rw [← HN.out]; simp only at hu; rw [hu]; rfl
  subst hM0
  have hz1 : (x != 0) = true := by simpa using hz
  have hz2 : (x == 0) = false := by simpa using hz
  clear hu
  go_wp2_with fail
  refine (live19_c _).mono ?_
  rintro e w9 ⟨rfl, hb⟩
  go_wp2_with fail
  go_ret
  exact ⟨rfl, B3.out.trans (hb.mono B3.out.size)⟩
 obtain rfl : x = 0 := by simpa using hz
 obtain ⟨hbk1, hbk2⟩ := decO_back HD.out
 have hmc : encC m4 = c := by rw [sim_encC S4.out]; unfold encC; rw [hbk2]; exact hbk1
 have hme : encE m4 = 0 := by rw [sim_encE S4.out]; unfold encE; rw [hbk2]; rfl
 have HMC := Lib.hid hmc
 have HME := Lib.hid hme
 have HM4 := Lib.hid (sim_mokO HD.out S4.out)
 have HL9 := Lib.hid (show m4.length ≤ 4000 by rw [N4.out]; omega)
 clear hbk1 hbk2 hmc hme hz
 go_wp2_with fail
 refine (oenc_v N4.out HMC.out HME.out HL9.out HM4.out R3.out).mono ?_
 rintro e w4 ⟨A5, c5, rfl, ha, -, hb⟩
 have B4 := Lib.hid (B3.out.trans (hb.mono B3.out.size))
 have C4 := Lib.hid (C3.out.keep hb)
 have D4 := Lib.hid (D3.out.keep hb)
 have P4 := Lib.hid (P3.out.keep hb)
 have R4 := Lib.hid (R3.out.keep hb)
 clear hb B3 C3 D3 P3 R3
 have S4 := Lib.hid ha
 clear ha
 go_wp2_with fail
 refine (same11_v (decide_eq_true (rfl : c = c)) rfl rfl HCM.out HCM.out S4.out D4.out).mono ?_
 rintro e wq ⟨rfl, q, hwq⟩
 have hb : Below w4.heap.size w4 wq := by rw [hwq]; exact below_drewN (Below.refl _ _) q
 clear hwq
 obtain ⟨w5, hw5⟩ : ∃ w5, w5 = wq := ⟨_, rfl⟩
 rw [← hw5] at hb ⊢
 clear hw5
 have B5 := Lib.hid (B4.out.trans (hb.mono B4.out.size))
 have C5 := Lib.hid (C4.out.keep hb)
 have D5 := Lib.hid (D4.out.keep hb)
 have P5 := Lib.hid (P4.out.keep hb)
 have R5 := Lib.hid (R4.out.keep hb)
 have S5 := Lib.hid (S4.out.keep hb)
 clear hb B4 C4 D4 P4 R4 S4
 go_wp2_with fail
 refine (live19_c _).mono ?_
 rintro e w6 ⟨rfl, hb⟩
 have B6 := Lib.hid (B5.out.trans (hb.mono B5.out.size))
 have C6 := Lib.hid (C5.out.keep hb)
 have D6 := Lib.hid (D5.out.keep hb)
 have P6 := Lib.hid (P5.out.keep hb)
 have R6 := Lib.hid (R5.out.keep hb)
 have S6 := Lib.hid (S5.out.keep hb)
 clear hb B5 C5 D5 P5 R5 S5
 go_wp2_with fail
 go_ret
 exact ⟨rfl, B6.out⟩
theorem walk (A : Option Addr) (cap : Nat) (l : List Mv) (A1 : Option Addr) (cap1 : Nat) (c : List Ck.Chk) (hcm : c.length ≤ maxLen) (hl : l.length ≤ maxLen) (hmv : Moves_ l) (w : World) (hc : At w w.heap.size A (mvs l)) (hc1 : At w w.heap.size A1 (Ck.cvs c)) :
  Calls Tryz.prog 5 #[.slice A l.length cap, .slice A1 c.length cap1] w fun e w' => e = .returned (.bool true) ∧ Below w.heap.size w w' := by
 obtain ⟨q, hq⟩ : ∃ q, fewM l 60 = q := ⟨_, rfl⟩
 have HFEW := Lib.hid (few_z (cap := cap) (z := 60) hq rfl (by decide) hl hc)
 obtain ⟨p, hp⟩ : ∃ p, Ck.few c = p := ⟨_, rfl⟩
 have HFC := Lib.hid (few11_v (cap := cap1) hp hcm hc1)
 cases q with
 | false =>
  go_enter Tryz.func5, Tryz.ntmps5
  go_wp2_with fail
  refine HFEW.out.mono ?_
  rintro e wq ⟨rfl, hw⟩
  subst hw
  go_wp2_with fail
  refine (live19_c _).mono ?_
  rintro e w1 ⟨rfl, hb⟩
  go_wp2_with fail
  go_ret
  exact ⟨rfl, hb⟩
 | true =>
 cases p with
 | false =>
  go_enter Tryz.func5, Tryz.ntmps5
  go_wp2_with fail
  refine HFEW.out.mono ?_
  rintro e wq ⟨rfl, hw⟩
  subst hw
  go_wp2_with fail
  refine HFC.out.mono ?_
  rintro e wq ⟨rfl, hw⟩
  subst hw
  go_wp2_with fail
  refine (live19_c _).mono ?_
  rintro e w1 ⟨rfl, hb⟩
  go_wp2_with fail
  go_ret
  exact ⟨rfl, hb⟩
 | true =>
 cases hm : mayM l with
 | true => exact walk_y A cap l A1 cap1 c hq hp hcm hl hmv hm w hc hc1
 | false => exact walk_n A cap l A1 cap1 c hq hp hcm hl hmv hm w hc hc1
end oplogBack
end Go.Proofs.YtojhenpaeedimaaGreat
