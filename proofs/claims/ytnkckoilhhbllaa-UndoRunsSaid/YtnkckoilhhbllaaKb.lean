/-
  The walk of UndoRuns.
-/
import Derived.Test.YtnkckoilhhbllaaKz
namespace Go.Proofs.Ytnkckoilhhbllaa
open Go.RowKit Go.IntWalk
open Gr
set_option maxRecDepth 100000
attribute [local go_sem] Oper.semAt_some

namespace undoRuns
set_option maxHeartbeats 16000000 in
theorem walk (A1 A2 A3 : Option Addr) (c1 c2 c3 : Nat) (l : List Rw) (ms : List Mv) (ss : List Sp) (hA1 : A1 = none → c1 = 0) (hc1 : l.length ≤ c1) (hl : l.length ≤ maxLen) (hM : Rows_ l) (hml : ms.length ≤ maxLen) (hMM : Moves_ ms) (hsl : ss.length ≤ maxLen) (hSS : Steps_ ss)
    (w : World) (ha1 : At w w.heap.size A1 (tvs l)) (ha2 : At w w.heap.size A2 (mvs ms)) (ha3 : At w w.heap.size A3 (pvs ss)) :
    Calls Try.prog 8 #[.slice A1 l.length c1, .slice A2 ms.length c2, .slice A3 ss.length c3] w fun e w' => e = .returned (.bool true) ∧ Below w.heap.size w w' := by
  have H1 := Lib.hid ha1
  have H2 := Lib.hid ha2
  have H3 := Lib.hid ha3
  have HA := Lib.hid hA1
  have HM := Lib.hid hM
  have HMM := Lib.hid hMM
  have HSS := Lib.hid hSS
  have HL := Lib.hid hl
  have HML := Lib.hid hml
  have HSL := Lib.hid hsl
  clear ha1 ha2 ha3 hA1 hM hMM hSS hl hml hsl
  cases hf : few l with
  | false =>
    have HF := Lib.hid hf
    clear hf
    go_enter Try.func8, Try.ntmps8
    go_wp2_with fail
    refine (few_c A1 c1 l HL.out _ H1.out).mono ?_
    rintro e w1 ⟨rfl, rfl⟩
    rw [HF.out]
    go_wp2_with fail
    refine (live15_c _).mono ?_
    rintro e w2 ⟨rfl, hb⟩
    go_wp2_with fail
    go_ret
    exact ⟨rfl, hb⟩
  | true =>
    obtain ⟨hl60, -⟩ := few_in hf
    have HF := Lib.hid hf
    clear hf
    cases hg : fewM ms 60 with
    | false =>
      have HG := Lib.hid hg
      clear hg
      go_enter Try.func8, Try.ntmps8
      go_wp2_with fail
      refine (few_c A1 c1 l HL.out _ H1.out).mono ?_
      rintro e w1 ⟨rfl, rfl⟩
      rw [HF.out]
      go_wp2_with fail
      refine (rmfew_c A2 c2 ms 60 HML.out (by decide) _ H2.out).mono ?_
      rintro e w1 ⟨rfl, rfl⟩
      rw [HG.out]
      go_wp2_with fail
      refine (live15_c _).mono ?_
      rintro e w2 ⟨rfl, hb⟩
      go_wp2_with fail
      go_ret
      exact ⟨rfl, hb⟩
    | true =>
      obtain ⟨hm60, -⟩ := fewM_in hg
      have HG := Lib.hid hg
      clear hg
      cases hk : fewS ss 60 with
      | false =>
        have HK := Lib.hid hk
        clear hk
        go_enter Try.func8, Try.ntmps8
        go_wp2_with fail
        refine (few_c A1 c1 l HL.out _ H1.out).mono ?_
        rintro e w1 ⟨rfl, rfl⟩
        rw [HF.out]
        go_wp2_with fail
        refine (rmfew_c A2 c2 ms 60 HML.out (by decide) _ H2.out).mono ?_
        rintro e w1 ⟨rfl, rfl⟩
        rw [HG.out]
        go_wp2_with fail
        refine (rpfew_c A3 c3 ss 60 HSL.out (by decide) _ H3.out).mono ?_
        rintro e w1 ⟨rfl, rfl⟩
        rw [HK.out]
        go_wp2_with fail
        refine (live15_c _).mono ?_
        rintro e w2 ⟨rfl, hb⟩
        go_wp2_with fail
        go_ret
        exact ⟨rfl, hb⟩
      | true =>
        obtain ⟨hs60, -⟩ := fewS_in hk
        have HK := Lib.hid hk
        clear hk
        have hlm : l.length + ms.length ≤ 100000 := by omega
        have hls : l.length + ss.length ≤ 100000 := by omega
        have HSZ := Lib.hid (And.intro hl60 (And.intro hm60 hs60))
        have HR1 := Lib.hid (allP_rows HM.out HMM.out)
        have HS1 := Lib.hid (stepsP_ok HM.out HMM.out)
        have HB1 := Lib.hid (backP_rows HM.out HSS.out)
        go_enter Try.func8, Try.ntmps8
        go_wp2_with fail
        refine (few_c A1 c1 l HL.out _ H1.out).mono ?_
        rintro e w1 ⟨rfl, rfl⟩
        rw [HF.out]
        go_wp2_with fail
        refine (rmfew_c A2 c2 ms 60 HML.out (by decide) _ H2.out).mono ?_
        rintro e w1 ⟨rfl, rfl⟩
        rw [HG.out]
        go_wp2_with fail
        refine (rpfew_c A3 c3 ss 60 HSL.out (by decide) _ H3.out).mono ?_
        rintro e w1 ⟨rfl, rfl⟩
        rw [HK.out]
        go_wp2_with fail
        refine (murun_c A1 A2 c1 c2 l ms hlm HA.out hc1 (allP_above hlm) _ H1.out H2.out).mono ?_
        rintro e w2 ⟨B1, d1, B2, d2, rfl, p1, -, -, p2, -, -, hb2⟩
        have P1 := Lib.hid p1
        have P2 := Lib.hid p2
        have HB2 := Lib.hid hb2
        clear p1 p2 hb2
        go_wp2_with fail
        refine (rurun_c A1 A2 c1 c2 l ms hlm HA.out hc1 (allP_rabove hlm) _ (H1.out.keep HB2.out) (H2.out.keep HB2.out)).mono ?_
        rintro e w3 ⟨B3, d3, B4, d4, rfl, p3, -, -, p4, -, -, hb3⟩
        have HB3 := Lib.hid (HB2.out.trans (hb3.mono HB2.out.size))
        have P1b := Lib.hid (P1.out.keep hb3)
        have P2b := Lib.hid (P2.out.keep hb3)
        have P3 := Lib.hid p3
        have P4 := Lib.hid p4
        clear p3 p4 hb3
        have hlr : (allP l ms).length ≤ maxLen := by have := allP_len l ms; unfold maxLen; omega
        have hlst : (stepsP l ms).length ≤ maxLen := by rw [stepsP_len]; exact HML.out
        have HLR := Lib.hid hlr
        have HLS := Lib.hid hlst
        have hls1 : (stepsP l ms).length ≤ 100000 := by rw [stepsP_len]; omega
        clear hlr hlst
        obtain ⟨T, hT⟩ : ∃ T, allP l ms = T := ⟨_, rfl⟩
        obtain ⟨S, hS⟩ : ∃ S, stepsP l ms = S := ⟨_, rfl⟩
        rw [hT] at P1b P3 HR1 HLR ⊢
        rw [hS] at P2b P4 HS1 HLS hls1 ⊢
        clear hT hS
        go_wp2_with fail
        refine (rsame_t HLR.out HR1.out P1b.out P3.out).mono ?_
        rintro e w4 ⟨rfl, hb4⟩
        have HB4 := Lib.hid (HB3.out.trans (hb4.mono HB3.out.size))
        have P2c := Lib.hid (P2b.out.keep hb4)
        have P4c := Lib.hid (P4.out.keep hb4)
        clear hb4
        go_wp2_with fail
        refine (rpsame_t HLS.out HS1.out P2c.out P4c.out).mono ?_
        rintro e w5 ⟨rfl, hb5⟩
        have HB5 := Lib.hid (HB4.out.trans (hb5.mono HB4.out.size))
        have P2d := Lib.hid (P2c.out.keep hb5)
        have P4d := Lib.hid (P4c.out.keep hb5)
        clear hb5
        go_wp2_with fail
        refine (muback_c A1 A3 c1 c3 l ss hls HA.out hc1 _ (H1.out.keep HB5.out) (H3.out.keep HB5.out)).mono ?_
        rintro e w6 ⟨B6, d6, rfl, p6, -, -, hb6⟩
        have HB6 := Lib.hid (HB5.out.trans (hb6.mono HB5.out.size))
        have P6 := Lib.hid p6
        have P2e := Lib.hid (P2d.out.keep hb6)
        have P4e := Lib.hid (P4d.out.keep hb6)
        clear hb6 p6
        go_wp2_with fail
        refine (ruback_c A1 A3 c1 c3 l ss hls HA.out hc1 _ (H1.out.keep HB6.out) (H3.out.keep HB6.out)).mono ?_
        rintro e w7 ⟨B7, d7, rfl, p7, -, -, hb7⟩
        have HB7 := Lib.hid (HB6.out.trans (hb7.mono HB6.out.size))
        have P7 := Lib.hid p7
        have P6b := Lib.hid (P6.out.keep hb7)
        have P2f := Lib.hid (P2e.out.keep hb7)
        have P4f := Lib.hid (P4e.out.keep hb7)
        clear hb7 p7
        have hlb : (backP l ss).length ≤ maxLen := by have := backP_len l ss; unfold maxLen; omega
        have HLB := Lib.hid hlb
        clear hlb
        obtain ⟨Q, hQ⟩ : ∃ Q, backP l ss = Q := ⟨_, rfl⟩
        rw [hQ] at P6b P7 HB1 HLB ⊢
        clear hQ
        go_wp2_with fail
        refine (rsame_t HLB.out HB1.out P6b.out P7.out).mono ?_
        rintro e w8 ⟨rfl, hb8⟩
        have HB8 := Lib.hid (HB7.out.trans (hb8.mono HB7.out.size))
        have P2g := Lib.hid (P2f.out.keep hb8)
        have P4g := Lib.hid (P4f.out.keep hb8)
        clear hb8
        go_wp2_with fail
        refine (umoves_c A3 c3 ss (by omega) _ (H3.out.keep HB8.out)).mono ?_
        intro e w9 hf9
        obtain ⟨B9, d9, rfl, p9, -, -, hb9⟩ := hf9.at
        have HB9 := Lib.hid (HB8.out.trans (hb9.mono HB8.out.size))
        have P9 := Lib.hid p9
        have P2h := Lib.hid (P2g.out.keep hb9)
        have P4h := Lib.hid (P4g.out.keep hb9)
        clear hf9 p9 hb9
        go_wp2_with fail
        refine (rumoves_c A3 c3 ss (by omega) _ (H3.out.keep HB9.out)).mono ?_
        intro e w10 hf10
        obtain ⟨B10, d10, rfl, p10, -, -, hb10⟩ := hf10.at
        have HB10 := Lib.hid (HB9.out.trans (hb10.mono HB9.out.size))
        have P10 := Lib.hid p10
        have P9b := Lib.hid (P9.out.keep hb10)
        have P2i := Lib.hid (P2h.out.keep hb10)
        have P4i := Lib.hid (P4h.out.keep hb10)
        clear hf10 p10 hb10
        have hms := rmsame_t (A1 := B9) (A2 := B10) (c1 := d9) (c2 := d10) (xs := ss.map sm) (by rw [List.length_map]; exact HSL.out) (steps_moves HSS.out) P9b.out P10.out
        have HMS := Lib.hid hms
        rw [List.length_map] at HMS
        clear hms
        go_wp2_with fail
        refine HMS.out.mono ?_
        rintro e w11 ⟨rfl, hb11⟩
        have HB11 := Lib.hid (HB10.out.trans (hb11.mono HB10.out.size))
        have P2j := Lib.hid (P2i.out.keep hb11)
        have P4j := Lib.hid (P4i.out.keep hb11)
        clear hb11
        have HU := Lib.hid (musame_c B2 A3 d2 c3 S ss hls1 (by omega) HS1.out HSS.out _ P2j.out (H3.out.keep HB11.out))
        have HV := Lib.hid (fun W => rpsame_c B4 A3 d4 c3 S ss HLS.out HSL.out HS1.out HSS.out W)
        obtain ⟨q, hq⟩ : ∃ q, sameS S ss = q := ⟨_, rfl⟩
        have hqq : (q == q) = true := by cases q <;> rfl
        rw [hq] at HU HV
        clear hq
        go_wp2_with fail
        refine HU.out.mono ?_
        rintro e w12 ⟨rfl, hb12⟩
        have HB12 := Lib.hid (HB11.out.trans (hb12.mono HB11.out.size))
        have P4k := Lib.hid (P4j.out.keep hb12)
        clear hb12
        go_wp2_with fail
        refine (HV.out _ P4k.out (H3.out.keep HB12.out)).mono ?_
        rintro e w13 ⟨rfl, hb13⟩
        have HB13 := Lib.hid (HB12.out.trans (hb13.mono HB12.out.size))
        clear hb13
        go_wp2_with fail
        refine (live15_c _).mono ?_
        rintro e w14 ⟨rfl, hb14⟩
        go_wp2_with fail
        go_ret
        exact ⟨rfl, HB13.out.trans (hb14.mono HB13.out.size)⟩
end undoRuns
end Go.Proofs.Ytnkckoilhhbllaa
