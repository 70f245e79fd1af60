/-
 Moves have a file of the first version just if they have columns, and out of either they come the same: a walk.
-/
import Derived.Test.YtojhenpaeedimaaGreatRx
import Derived.Test.YtojhenpaeedimaaGreatOb
namespace Go.Proofs.YtojhenpaeedimaaGreat
open Go.RowKit Go.IntWalk
open Pk Rf Fl Wd Ol Dl Ru Fg Dt Rl
set_option maxRecDepth 100000
attribute [local go_sem] Oper.semAt_some
theorem sim_reflL : ∀ {l : List Mv}, (∀ m ∈ l, rk (mw m) < 18446744073709551616) → SimL l l
 | [], _ => trivial
 | m :: _, h => ⟨⟨rfl, rfl, rfl, rfl, rfl, h m (List.mem_cons_self ..), rfl⟩, sim_reflL fun x hx => h x (List.mem_cons_of_mem _ hx)⟩
namespace rowsColumns
set_option maxHeartbeats 16000000 in
theorem walk_y (A : Option Addr) (cap : Nat) (l : List Mv) (hq : fewM l 40 = true) (hl : l.length ≤ maxLen) (hmv : Moves_ l) (hmay : mayM l = true) (w : World) (hc : At w w.heap.size A (mvs l)) :
  Calls Tryz.prog 8 #[.slice A l.length cap] w fun e w' => e = .returned (.bool true) ∧ Below w.heap.size w w' := by
 obtain ⟨hln, hnm⟩ := fewM_in hq
 have HFEW := Lib.hid (few_z (cap := cap) (z := 40) hq rfl (by decide) hl hc)
 have hcc : encC l = encO l := by unfold encC; rw [hmay]; rfl
 have hx : encE l = 0 := by unfold encE; rw [hmay]; rfl
 obtain ⟨S, hS⟩ : ∃ S, ba (encT l) = S := ⟨_, rfl⟩
 have hr64 : ∀ m ∈ l, rk (mw m) < 18446744073709551616 := fun m hm => (hmv m hm).1
 have hte : encT l = encB l := by unfold encT; rw [hmay]; rfl
 have hde := decO_enc hmay hr64
 have hdr := decR_enc l hmay hr64
 have hes := encO_small hmay (by omega) hnm
 have hbl : (l.map bkM).length = l.length := List.length_map ..
 have hbig : (encB l).length ≤ 100000000 := by have := encB_few hnm (by omega); omega
 have hrb : ∀ m ∈ l.map bkM, rk (mw m) < 18446744073709551616 := fun m hm => (dec_mok hdr m hm).1
 rw [hte] at hS
 have HSB := Lib.hid hS
 have HDE := Lib.hid hde
 have HDR := Lib.hid hdr
 have HES := Lib.hid hes
 have HBL := Lib.hid hbl
 have HBG := Lib.hid hbig
 have HRB := Lib.hid (sim_reflL hrb)
 have HTS := Lib.hid (show ba (encT l) = S by rw [hte]; exact hS)
 clear hde hdr hes hbl hr64 hbig hrb hte
 have HK := Lib.hid (few_mok hq hmv)
 have HOK := Lib.hid (oplogWrites.few_mok4 hq hmv)
 have HCC := Lib.hid hcc
 have HX := Lib.hid hx
 have HMV := Lib.hid hmv
 have HL4 := Lib.hid (show l.length ≤ 4000 by omega)
 have HL1 := Lib.hid (show l.length ≤ 10000 by omega)
 have HLM := Lib.hid hl
 have HC := Lib.hid hc
 clear hcc hx hmv hc hq hnm hS
 go_enter Tryz.func8, Tryz.ntmps8
 go_wp2_with fail
 refine HFEW.out.mono ?_
 rintro e wq ⟨rfl, hw⟩
 subst hw
 have B0 : Hid (Below w.heap.size w w) := Lib.hid (Below.refl _ _)
 have C0 := Lib.hid HC.out
 go_wp2_with fail
 refine (pencode_v rfl HTS.out HX.out HL1.out HK.out C0.out).mono ?_
 rintro e w1 ⟨rfl, hb⟩
 have B1 := Lib.hid (B0.out.trans (hb.mono B0.out.size))
 have C1 := Lib.hid (C0.out.keep hb)
 clear hb B0 C0
 go_wp2_with fail
 refine (oenc_v rfl HCC.out HX.out HL4.out HOK.out C1.out).mono ?_
 rintro e w2 ⟨A2, c2, rfl, ha, -, hb⟩
 have B2 := Lib.hid (B1.out.trans (hb.mono B1.out.size))
 have C2 := Lib.hid (C1.out.keep hb)
 clear hb B1 C1
 have P2 := Lib.hid ha
 clear ha
 have h5 : (encO l).length = 5 := rfl
 rw [h5]
 go_wp2_with fail
 refine (pdec_v HSB.out HBG.out HDR.out _).mono ?_
 rintro e w3 ⟨A3, c3, rfl, ha, hb⟩
 have B3 := Lib.hid (B2.out.trans (hb.mono B2.out.size))
 have C3 := Lib.hid (C2.out.keep hb)
 have P3 := Lib.hid (P2.out.keep hb)
 clear hb B2 C2 P2
 have Q3 := Lib.hid ha
 clear ha
 go_wp2_with fail
 refine (odec_v (n := 5) rfl HDE.out HBL.out (by rw [h5]; decide) HES.out P3.out).mono ?_
 rintro e w4 ⟨A4, c4, m4, rfl, hm4, hs4, ha, hb⟩
 have B4 := Lib.hid (B3.out.trans (hb.mono B3.out.size))
 have C4 := Lib.hid (C3.out.keep hb)
 have P4 := Lib.hid (P3.out.keep hb)
 have Q4 := Lib.hid (Q3.out.keep hb)
 clear hb B3 C3 P3 Q3
 have R4 := Lib.hid ha
 clear ha
 have hlm : (l.map bkM).length ≤ maxLen := by rw [HBL.out]; exact HLM.out
 have X1 := Lib.hid (rmsame_v (c1 := c3) (c2 := c4) (sim_sameM HRB.out hs4) HBL.out hm4 hlm (by rw [hm4]; exact HLM.out) (dec_moves HDR.out) (sim_movesO HDE.out hs4) Q4.out R4.out)
 clear hm4 hs4 hlm
 go_wp2_with fail
 refine (X1.out).mono ?_
 rintro e w5 ⟨rfl, hb⟩
 have B5 := Lib.hid (B4.out.trans (hb.mono B4.out.size))
 have C5 := Lib.hid (C4.out.keep hb)
 have P5 := Lib.hid (P4.out.keep hb)
 have Q5 := Lib.hid (Q4.out.keep hb)
 have R5 := Lib.hid (R4.out.keep hb)
 clear hb B4 C4 P4 Q4 R4
 go_wp2_with fail
 refine (live21_c _).mono ?_
 rintro e w6 ⟨rfl, hb⟩
 have B6 := Lib.hid (B5.out.trans (hb.mono B5.out.size))
 have C6 := Lib.hid (C5.out.keep hb)
 have P6 := Lib.hid (P5.out.keep hb)
 have Q6 := Lib.hid (Q5.out.keep hb)
 have R6 := Lib.hid (R5.out.keep hb)
 clear hb B5 C5 P5 Q5 R5
 go_wp2_with fail
 go_ret
 exact ⟨rfl, B6.out⟩
set_option maxHeartbeats 16000000 in
theorem walk_n (A : Option Addr) (cap : Nat) (l : List Mv) (hq : fewM l 40 = true) (hl : l.length ≤ maxLen) (hmv : Moves_ l) (hmay : mayM l = false) (w : World) (hc : At w w.heap.size A (mvs l)) :
  Calls Tryz.prog 8 #[.slice A l.length cap] w fun e w' => e = .returned (.bool true) ∧ Below w.heap.size w w' := by
 obtain ⟨hln, hnm⟩ := fewM_in hq
 have HFEW := Lib.hid (few_z (cap := cap) (z := 40) hq rfl (by decide) hl hc)
 have hcc : encC l = [] := by unfold encC; rw [hmay]; rfl
 have hx : encE l = 1 := by unfold encE; rw [hmay]; rfl
 obtain ⟨S, hS⟩ : ∃ S, ba (encT l) = S := ⟨_, rfl⟩
 have hte : encT l = [] := by unfold encT; rw [hmay]; rfl
 rw [hte] at hS
 obtain rfl : S = ⟨#[]⟩ := hS.symm.trans rfl
 have HTS := Lib.hid (show ba (encT l) = ⟨#[]⟩ by rw [hte]; rfl)
 clear hte
 have HK := Lib.hid (few_mok hq hmv)
 have HOK := Lib.hid (oplogWrites.few_mok4 hq hmv)
 have HCC := Lib.hid hcc
 have HX := Lib.hid hx
 have HMV := Lib.hid hmv
 have HL4 := Lib.hid (show l.length ≤ 4000 by omega)
 have HL1 := Lib.hid (show l.length ≤ 10000 by omega)
 have HLM := Lib.hid hl
 have HC := Lib.hid hc
 clear hcc hx hmv hc hq hnm hS
 go_enter Tryz.func8, Tryz.ntmps8
 go_wp2_with fail
 refine HFEW.out.mono ?_
 rintro e wq ⟨rfl, hw⟩
 subst hw
 have B0 : Hid (Below w.heap.size w w) := Lib.hid (Below.refl _ _)
 have C0 := Lib.hid HC.out
 go_wp2_with fail
 refine (pencode_v rfl HTS.out HX.out HL1.out HK.out C0.out).mono ?_
 rintro e w1 ⟨rfl, hb⟩
 have B1 := Lib.hid (B0.out.trans (hb.mono B0.out.size))
 have C1 := Lib.hid (C0.out.keep hb)
 clear hb B0 C0
 go_wp2_with fail
 refine (oenc_v rfl HCC.out HX.out HL4.out HOK.out C1.out).mono ?_
 rintro e w2 ⟨A2, c2, rfl, ha, -, hb⟩
 have B2 := Lib.hid (B1.out.trans (hb.mono B1.out.size))
 have C2 := Lib.hid (C1.out.keep hb)
 clear hb B1 C1
 have P2 := Lib.hid ha
 clear ha
 rw [show ([] : List Ck.Chk).length = 0 from rfl]
 go_wp2_with fail
 refine (live21_c _).mono ?_
 rintro e w3 ⟨rfl, hb⟩
 have B3 := Lib.hid (B2.out.trans (hb.mono B2.out.size))
 have C3 := Lib.hid (C2.out.keep hb)
 have P3 := Lib.hid (P2.out.keep hb)
 clear hb B2 C2 P2
 go_wp2_with fail
 go_ret
 exact ⟨rfl, B3.out⟩
theorem walk (A : Option Addr) (cap : Nat) (l : List Mv) (hl : l.length ≤ maxLen) (hmv : Moves_ l) (w : World) (hc : At w w.heap.size A (mvs l)) :
  Calls Tryz.prog 8 #[.slice A l.length cap] w fun e w' => e = .returned (.bool true) ∧ Below w.heap.size w w' := by
 obtain ⟨q, hq⟩ : ∃ q, fewM l 40 = q := ⟨_, rfl⟩
 have HFEW := Lib.hid (few_z (cap := cap) (z := 40) hq rfl (by decide) hl hc)
 cases q with
 | false =>
  go_enter Tryz.func8, Tryz.ntmps8
  go_wp2_with fail
  refine HFEW.out.mono ?_
  rintro e wq ⟨rfl, hw⟩
  subst hw
  go_wp2_with fail
  refine (live21_c _).mono ?_
  rintro e w1 ⟨rfl, hb⟩
  go_wp2_with fail
  go_ret
  exact ⟨rfl, hb⟩
 | true =>
 cases hm : mayM l with
 | true => exact walk_y A cap l hq hl hmv hm w hc
 | false => exact walk_n A cap l hq hl hmv hm w hc
end rowsColumns
end Go.Proofs.YtojhenpaeedimaaGreat
