/-
  The walk of UndoMiddle.
-/
import Derived.Test.YtnkckoilhhbllaaKc
namespace Go.Proofs.Ytnkckoilhhbllaa
open Go.RowKit Go.IntWalk
open Gr
set_option maxRecDepth 100000
attribute [local go_sem] Oper.semAt_some

theorem at_cutM {w : World} {N n k : Nat} {B : Option Addr} {S : List Mv} (h : At w N B (mvs S)) (hn : S.length ≤ n) : At w N (if n = k then B else Option.map (fun x => x.add (k * 6)) B) (mvs (S.drop k)) := by
  by_cases hk : n = k
  · rw [List.drop_of_length_le (by omega)]; exact At.nil _ _ _
  · rw [if_neg hk, mvs_drop]
    intro i v hv
    rw [List.getElem?_drop] at hv
    obtain ⟨b, off, rfl, hlt, hc⟩ := h _ v hv
    exact ⟨b, off + k * 6, by show some ((⟨b, off, none⟩ : Addr).add (k * 6)) = _; rw [Go.WideShapes.add_plain], hlt, by rw [Nat.add_assoc]; exact hc⟩

theorem at_s0 {w : World} {N k : Nat} {B : Option Addr} {S : List Sp} (h : S.length ≤ k) : At w N B (pvs (S.drop k)) := by rw [List.drop_of_length_le h]; exact At.nil _ _ _
theorem at_s1 {w : World} {N k : Nat} {B : Option Addr} {S : List Sp} (h : At w N B (pvs S)) : At w N (Option.map (fun x => x.add (k * 12)) B) (pvs (S.drop k)) := by
  have := at_cutS (n := k + 1 + S.length) (k := k) h (by omega)
  rwa [if_neg (by omega)] at this
theorem at_m0 {w : World} {N k : Nat} {B : Option Addr} {S : List Mv} (h : S.length ≤ k) : At w N B (mvs (S.drop k)) := by rw [List.drop_of_length_le h]; exact At.nil _ _ _
theorem at_m1 {w : World} {N k : Nat} {B : Option Addr} {S : List Mv} (h : At w N B (mvs S)) : At w N (Option.map (fun x => x.add (k * 6)) B) (mvs (S.drop k)) := by
  have := at_cutM (n := k + 1 + S.length) (k := k) h (by omega)
  rwa [if_neg (by omega)] at this
theorem back_v {A A2 : Option Addr} {cap cap2 n : Nat} {l X : List Rw} {ss : List Sp} (hn : n = ss.length) (hX : backP l ss = X) (hl : l.length + ss.length ≤ 100000) (hA : A = none → cap = 0) (hcap : l.length ≤ cap) {w : World} (hc : At w w.heap.size A (tvs l)) (hc2 : At w w.heap.size A2 (pvs ss)) :
    Calls Try.prog 46 #[.slice A l.length cap, .slice A2 n cap2] w (Told_ X w) := by
  subst hn hX
  exact muback_c A A2 cap cap2 l ss hl hA hcap w hc hc2
theorem run_v {A A2 : Option Addr} {cap cap2 n : Nat} {l X : List Rw} {ms : List Mv} {Y : List Sp} (hn : n = ms.length) (hX : allP l ms = X) (hY : stepsP l ms = Y) (hl : l.length + ms.length ≤ 100000) (hA : A = none → cap = 0) (hcap : l.length ≤ cap) {w : World} (hc : At w w.heap.size A (tvs l)) (hc2 : At w w.heap.size A2 (mvs ms)) :
    Calls Try.prog 43 #[.slice A l.length cap, .slice A2 n cap2] w (UREnd X Y w) := by
  subst hn hX hY
  exact murun_c A A2 cap cap2 l ms hl hA hcap (allP_above hl) w hc hc2
theorem rpsame_v {A1 A2 : Option Addr} {c1 c2 n m : Nat} {xs : List Sp} (hn : n = xs.length) (hm : m = xs.length) (hx : xs.length ≤ maxLen) (hwx : Steps_ xs) {w : World} (h1 : At w w.heap.size A1 (pvs xs)) (h2 : At w w.heap.size A2 (pvs xs)) :
    Calls Try.prog 45 #[.slice A1 n c1, .slice A2 m c2] w fun e w' => e = .returned (.bool true) ∧ Below w.heap.size w w' := by
  subst hn
  subst hm
  exact rpsame_t hx hwx h1 h2

namespace undoMiddle
set_option maxHeartbeats 16000000 in
theorem walk (A1 A2 A3 : Option Addr) (c1 c2 c3 : Nat) (l : List Rw) (ms os : List Mv) (hA1 : A1 = none → c1 = 0) (hc1 : l.length ≤ c1) (hl : l.length ≤ maxLen) (hM : Rows_ l) (hA2 : A2 = none → c2 = 0) (hc2 : ms.length ≤ c2) (hml : ms.length ≤ maxLen) (hMM : Moves_ ms) (hol : os.length ≤ maxLen) (hOM : Moves_ os)
    (w : World) (ha1 : At w w.heap.size A1 (tvs l)) (ha2 : At w w.heap.size A2 (mvs ms)) (ha3 : At w w.heap.size A3 (mvs os)) :
    Calls Try.prog 11 #[.slice A1 l.length c1, .slice A2 ms.length c2, .slice A3 os.length c3] w fun e w' => e = .returned (.bool true) ∧ Below w.heap.size w w' := by
  have H1 := Lib.hid ha1
  have H2 := Lib.hid ha2
  have H3 := Lib.hid ha3
  have HA := Lib.hid hA1
  have HA2 := Lib.hid hA2
  have HM := Lib.hid hM
  have HMM := Lib.hid hMM
  have HOM := Lib.hid hOM
  have HL := Lib.hid hl
  have HML := Lib.hid hml
  have HOL := Lib.hid hol
  unfold maxLen at hl
  clear ha1 ha2 ha3 hA1 hA2 hM hMM hOM hml hol
  by_cases hl30 : 30 < l.length
  · have hlz : (30 : Int) < (l.length : Int) := by omega
    have hd : decide ((30 : Int) < (l.length : Int)) = true := decide_eq_true hlz
    have hd2 : decide (30 < l.length) = true := decide_eq_true hl30
    go_enter Try.func11, Try.ntmps11
    go_wp2_with fail
    refine (live15_c _).mono ?_
    rintro e w2 ⟨rfl, hb⟩
    go_wp2_with fail
    go_ret
    exact ⟨rfl, hb⟩
  have hlz : ¬ (30 : Int) < (l.length : Int) := by omega
  have hd : decide ((30 : Int) < (l.length : Int)) = false := decide_eq_false hlz
  have hd2 : decide (30 < l.length) = false := decide_eq_false hl30
  cases hf : few l with
  | false =>
    have HF := Lib.hid hf
    clear hf
    go_enter Try.func11, Try.ntmps11
    go_wp2_with fail
    refine (few_c A1 c1 l HL.out _ H1.out).mono ?_
    rintro e w1 ⟨rfl, rfl⟩
    rw [HF.out]
    go_wp2_with fail
    refine (live15_c _).mono ?_
    rintro e w2 ⟨rfl, hb⟩
    go_wp2_with fail
    go_ret
    exact ⟨rfl, hb⟩
  | true =>
    have HF := Lib.hid hf
    clear hf
    cases hg : fewM ms 30 with
    | false =>
      have HG := Lib.hid hg
      clear hg
      go_enter Try.func11, Try.ntmps11
      go_wp2_with fail
      refine (few_c A1 c1 l HL.out _ H1.out).mono ?_
      rintro e w1 ⟨rfl, rfl⟩
      rw [HF.out]
      go_wp2_with fail
      refine (rmfew_c A2 c2 ms 30 HML.out (by decide) _ H2.out).mono ?_
      rintro e w1 ⟨rfl, rfl⟩
      rw [HG.out]
      go_wp2_with fail
      refine (live15_c _).mono ?_
      rintro e w2 ⟨rfl, hb⟩
      go_wp2_with fail
      go_ret
      exact ⟨rfl, hb⟩
    | true =>
      obtain ⟨hm30, -⟩ := fewM_in hg
      have HG := Lib.hid hg
      clear hg
      cases hk : fewM os 30 with
      | false =>
        have HK := Lib.hid hk
        clear hk
        go_enter Try.func11, Try.ntmps11
        go_wp2_with fail
        refine (few_c A1 c1 l HL.out _ H1.out).mono ?_
        rintro e w1 ⟨rfl, rfl⟩
        rw [HF.out]
        go_wp2_with fail
        refine (rmfew_c A2 c2 ms 30 HML.out (by decide) _ H2.out).mono ?_
        rintro e w1 ⟨rfl, rfl⟩
        rw [HG.out]
        go_wp2_with fail
        refine (rmfew_c A3 c3 os 30 HOL.out (by decide) _ H3.out).mono ?_
        rintro e w1 ⟨rfl, rfl⟩
        rw [HK.out]
        go_wp2_with fail
        refine (live15_c _).mono ?_
        rintro e w2 ⟨rfl, hb⟩
        go_wp2_with fail
        go_ret
        exact ⟨rfl, hb⟩
      | true =>
        obtain ⟨ho30, -⟩ := fewM_in hk
        have HK := Lib.hid hk
        clear hk
        cases hmay : mayB l with
        | false =>
          have HMY := Lib.hid hmay
          clear hmay
          go_enter Try.func11, Try.ntmps11
          go_wp2_with fail
          refine (few_c A1 c1 l HL.out _ H1.out).mono ?_
          rintro e w1 ⟨rfl, rfl⟩
          rw [HF.out]
          go_wp2_with fail
          refine (rmfew_c A2 c2 ms 30 HML.out (by decide) _ H2.out).mono ?_
          rintro e w1 ⟨rfl, rfl⟩
          rw [HG.out]
          go_wp2_with fail
          refine (rmfew_c A3 c3 os 30 HOL.out (by decide) _ H3.out).mono ?_
          rintro e w1 ⟨rfl, rfl⟩
          rw [HK.out]
          go_wp2_with fail
          refine (rmay_c A1 c1 l HL.out (fun r hr => (HM.out r hr).2) _ H1.out).mono ?_
          rintro e w1 ⟨rfl, hb1⟩
          rw [HMY.out]
          go_wp2_with fail
          refine (live15_c _).mono ?_
          rintro e w2 ⟨rfl, hb⟩
          go_wp2_with fail
          go_ret
          exact ⟨rfl, hb1.trans (hb.mono hb1.size)⟩
        | true =>
          have HMY := Lib.hid hmay
          clear hmay
          obtain ⟨half, hhalf⟩ : ∃ h : Nat, h = ms.length / 2 := ⟨_, rfl⟩
          have hq : (ms.length : Int).tdiv 2 = (half : Int) := by rw [hhalf]; exact (Int.ofNat_tdiv ms.length 2).symm
          have hq2 : (ms.length : Int) / 2 = (half : Int) := by omega
          have hhm : half ≤ ms.length := by omega
          have hlm : l.length + ms.length ≤ 100000 := by omega
          have HR1 := Lib.hid (allP_rows HM.out HMM.out)
          have HRm := Lib.hid (allP_rows HM.out (ms := ms.take half) fun m hm => HMM.out m (List.mem_of_mem_take hm))
          have HSS := Lib.hid (stepsP_ok (allP_rows HM.out (ms := ms.take half) fun m hm => HMM.out m (List.mem_of_mem_take hm)) (ms := ms.drop half) fun m hm => HMM.out m (List.mem_of_mem_drop hm))
          have hmid : (allP l (ms.take half)).length ≤ 60 := by have := allP_len l (ms.take half); rw [List.length_take] at this; omega
          clear hhalf
          go_enter Try.func11, Try.ntmps11
          go_wp2_with fail
          refine (few_c A1 c1 l HL.out _ H1.out).mono ?_
          rintro e w1 ⟨rfl, rfl⟩
          rw [HF.out]
          go_wp2_with fail
          refine (rmfew_c A2 c2 ms 30 HML.out (by decide) _ H2.out).mono ?_
          rintro e w1 ⟨rfl, rfl⟩
          rw [HG.out]
          go_wp2_with fail
          refine (rmfew_c A3 c3 os 30 HOL.out (by decide) _ H3.out).mono ?_
          rintro e w1 ⟨rfl, rfl⟩
          rw [HK.out]
          go_wp2_with fail
          refine (rmay_c A1 c1 l HL.out (fun r hr => (HM.out r hr).2) _ H1.out).mono ?_
          rintro e w1 ⟨rfl, hb1⟩
          rw [HMY.out]
          have HB1 := Lib.hid hb1
          clear hb1
          go_wp2_with fail
          refine (murun_c A1 A2 c1 c2 l ms hlm HA.out hc1 (allP_above hlm) _ (H1.out.keep HB1.out) (H2.out.keep HB1.out)).mono ?_
          rintro e w2 ⟨B1, d1, B2, d2, rfl, p1, n1, k1, p2, n2, k2, hb2⟩
          have HB2 := Lib.hid (HB1.out.trans (hb2.mono HB1.out.size))
          have P1 := Lib.hid p1
          have P2 := Lib.hid p2
          have HN1 := Lib.hid n1
          have HN2 := Lib.hid n2
          clear p1 p2 hb2 n1 n2
          have hlr : (allP l ms).length ≤ 60 := by have := allP_len l ms; omega
          have HSL := Lib.hid (stepsP_len l ms)
          have HBD := Lib.hid (back_drop l ms half)
          have HSD := Lib.hid (stepsP_drop l ms half)
          have HAG := Lib.hid (show allP (allP l (ms.take half)) (ms.drop half) = allP l ms by rw [← allP_app, List.take_append_drop])
          obtain ⟨T, hT⟩ : ∃ T, allP l ms = T := ⟨_, rfl⟩
          obtain ⟨S, hS⟩ : ∃ S, stepsP l ms = S := ⟨_, rfl⟩
          obtain ⟨M, hMd⟩ : ∃ M, allP l (ms.take half) = M := ⟨_, rfl⟩
          rw [hT] at P1 HR1 hlr k1 HBD HAG ⊢
          rw [hS] at P2 k2 HSL HBD HSD ⊢
          rw [hMd] at HBD HSD HAG HRm HSS hmid
          clear hT hS hMd
          have hlS : S.length ≤ 30 := by rw [HSL.out]; exact hm30
          have hhS : half ≤ S.length := by rw [HSL.out]; exact hhm
          have hne : ((S.length : Int) != (ms.length : Int)) = false := by rw [HSL.out]; simp
          have hk2 : (0 : Int) ≤ (half : Int) := by omega
          have hk3 : (half : Int) ≤ (S.length : Int) := by omega
          have hk4 : (half : Int) ≤ (ms.length : Int) := by omega
          have hk5 : (half : Int) ≤ (c2 : Int) := by omega
          have hk6 : (half : Int) ≤ (d2 : Int) := by omega
          go_wp2_with fail
          all_goals
            refine (back_v (X := M) (ss := S.drop half) (by rw [List.length_drop]; try omega) HBD.out (by rw [List.length_drop]; omega) HN1.out k1 P1.out (by first | exact at_s0 (by omega) | exact at_s1 P2.out)).mono ?_
            rintro e w3 ⟨B3, d3, rfl, p3, n3, k3, hb3⟩
            have HB3 := Lib.hid (HB2.out.trans (hb3.mono HB2.out.size))
            have P1b := Lib.hid (P1.out.keep hb3)
            have P2b := Lib.hid (P2.out.keep hb3)
            have P3 := Lib.hid p3
            have HN3 := Lib.hid n3
            clear p3 hb3 n3
            go_wp2_with fail
            refine (murun_c B3 A3 d3 c3 M os (by omega) HN3.out k3 (allP_above (by omega)) _ P3.out (H3.out.keep HB3.out)).mono ?_
            rintro e w4 ⟨B4, d4, B5, d5, rfl, p4, n4, k4, p5, n5, k5, hb4⟩
            have HB4 := Lib.hid (HB3.out.trans (hb4.mono HB3.out.size))
            have P1c := Lib.hid (P1b.out.keep hb4)
            have P2c := Lib.hid (P2b.out.keep hb4)
            have P3c := Lib.hid (P3.out.keep hb4)
            have P4 := Lib.hid p4
            have P5 := Lib.hid p5
            have HN4 := Lib.hid n4
            clear p4 p5 hb4 n4 n5
            have hlo : (allP M os).length ≤ 100 := by have := allP_len M os; omega
            have hls : (stepsP M os).length ≤ 30 := by rw [stepsP_len]; exact ho30
            have HBR := Lib.hid (back_run M os)
            obtain ⟨T2, hT2⟩ : ∃ T, allP M os = T := ⟨_, rfl⟩
            obtain ⟨S2, hS2⟩ : ∃ S, stepsP M os = S := ⟨_, rfl⟩
            rw [hT2] at P4 k4 hlo HBR ⊢
            rw [hS2] at P5 k5 hls HBR ⊢
            clear hT2 hS2
            go_wp2_with fail
            refine (muback_c B4 B5 d4 d5 T2 S2 (by omega) HN4.out k4 _ P4.out P5.out).mono ?_
            rintro e w5 ⟨B6, d6, rfl, p6, n6, k6, hb5⟩
            rw [HBR.out] at p6 k6 ⊢
            have HB5 := Lib.hid (HB4.out.trans (hb5.mono HB4.out.size))
            have P1d := Lib.hid (P1c.out.keep hb5)
            have P2d := Lib.hid (P2c.out.keep hb5)
            have P3d := Lib.hid (P3c.out.keep hb5)
            have P6 := Lib.hid p6
            have HN6 := Lib.hid n6
            clear p6 hb5 n6
            go_wp2_with fail
            all_goals
              refine (run_v (X := T) (Y := S.drop half) (ms := ms.drop half) (by rw [List.length_drop]; try omega) HAG.out HSD.out.symm (by rw [List.length_drop]; omega) HN6.out k6 P6.out (by first | exact at_m0 (by omega) | exact at_m1 (H2.out.keep HB5.out))).mono ?_
              rintro e w6 ⟨B7, d7, B8, d8, rfl, p7, n7, k7, p8, n8, k8, hb6⟩
              have HB6 := Lib.hid (HB5.out.trans (hb6.mono HB5.out.size))
              have P1e := Lib.hid (P1d.out.keep hb6)
              have P2e := Lib.hid (P2d.out.keep hb6)
              have P3e := Lib.hid (P3d.out.keep hb6)
              have P6e := Lib.hid (P6.out.keep hb6)
              have P7 := Lib.hid p7
              have P8 := Lib.hid p8
              clear p7 p8 hb6 n7 n8
              go_wp2_with fail
              refine (rsame_t (by unfold maxLen; omega) HRm.out P6e.out P3e.out).mono ?_
              rintro e w7 ⟨rfl, hb7⟩
              have HB7 := Lib.hid (HB6.out.trans (hb7.mono HB6.out.size))
              have P1f := Lib.hid (P1e.out.keep hb7)
              have P2f := Lib.hid (P2e.out.keep hb7)
              have P7f := Lib.hid (P7.out.keep hb7)
              have P8f := Lib.hid (P8.out.keep hb7)
              clear hb7
              go_wp2_with fail
              refine (rsame_t (by unfold maxLen; omega) HR1.out P7f.out P1f.out).mono ?_
              rintro e w8 ⟨rfl, hb8⟩
              have HB8 := Lib.hid (HB7.out.trans (hb8.mono HB7.out.size))
              have P2g := Lib.hid (P2f.out.keep hb8)
              have P8g := Lib.hid (P8f.out.keep hb8)
              clear hb8
              go_wp2_with fail
              have hss := HSS.out
              rw [← HSD.out] at hss
              have HSS2 := Lib.hid hss
              clear hss
              all_goals
                refine (rpsame_v (xs := S.drop half) (by rw [List.length_drop]; try omega) (by rw [List.length_drop]; try omega) (by rw [List.length_drop]; unfold maxLen; omega) HSS2.out P8g.out (by first | exact at_s0 (by omega) | exact at_s1 P2g.out)).mono ?_
                rintro e w9 ⟨rfl, hb9⟩
                have HB9 := Lib.hid (HB8.out.trans (hb9.mono HB8.out.size))
                clear hb9
                go_wp2_with fail
                refine (live15_c _).mono ?_
                rintro e w10 ⟨rfl, hb10⟩
                go_wp2_with fail
                go_ret
                exact ⟨rfl, HB9.out.trans (hb10.mono HB9.out.size)⟩
end undoMiddle
end Go.Proofs.Ytnkckoilhhbllaa
