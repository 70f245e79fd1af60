/-
  The walk of UndoBack.
-/
import Derived.Test.YtnkckoilhhbllaaKz
import Derived.Deep.RegionHeld3
namespace Go.Proofs.Ytnkckoilhhbllaa
open Go.RowKit Go.IntWalk
open Gr
set_option maxRecDepth 100000
attribute [local go_sem] Oper.semAt_some

theorem hold1 {X W W' : World} (h : Below X.heap.size X W) (hb : Below W.heap.size W W') : Below X.heap.size X W' := h.trans (hb.mono h.size)
theorem hold1d {X W : World} (h : Below X.heap.size X W) : Below X.heap.size X W.drew := h.drew

theorem at_cutS {w : World} {N n k : Nat} {B : Option Addr} {S : List Sp} (h : At w N B (pvs S)) (hn : S.length ≤ n) : At w N (if n = k then B else Option.map (fun x => x.add (k * 12)) B) (pvs (S.drop k)) := by
  by_cases hk : n = k
  · rw [List.drop_of_length_le (by omega)]; exact At.nil _ _ _
  · rw [if_neg hk, pvs_drop]
    intro i v hv
    rw [List.getElem?_drop] at hv
    obtain ⟨b, off, rfl, hlt, hc⟩ := h _ v hv
    exact ⟨b, off + k * 12, by show some ((⟨b, off, none⟩ : Addr).add (k * 12)) = _; rw [Go.WideShapes.add_plain], hlt, by rw [Nat.add_assoc]; exact hc⟩

namespace undoBack
set_option maxHeartbeats 16000000 in
theorem walk (A1 A2 : Option Addr) (c1 c2 : Nat) (l : List Rw) (ms : List Mv) (at_ : Int) (hA1 : A1 = none → c1 = 0) (hc1 : l.length ≤ c1) (hl : l.length ≤ maxLen) (hM : Rows_ l) (hA2 : A2 = none → c2 = 0) (hc2 : ms.length ≤ c2) (hml : ms.length ≤ maxLen) (hMM : Moves_ ms)
    (w : World) (ha1 : At w w.heap.size A1 (tvs l)) (ha2 : At w w.heap.size A2 (mvs ms)) :
    Calls Try.prog 9 #[.slice A1 l.length c1, .slice A2 ms.length c2, .int .i64 at_] w fun e w' => e = .returned (.bool true) ∧ Below w.heap.size w w' := by
  have H1 := Lib.hid ha1
  have H2 := Lib.hid ha2
  have HA := Lib.hid hA1
  have HA2 := Lib.hid hA2
  have HM := Lib.hid hM
  have HMM := Lib.hid hMM
  have HL := Lib.hid hl
  have HML := Lib.hid hml
  clear ha1 ha2 hA1 hA2 hM hMM hl hml
  cases hf : few l with
  | false =>
    have HF := Lib.hid hf
    clear hf
    go_enter Try.func9, Try.ntmps9
    go_wp2_with fail
    refine (few_c A1 c1 l HL.out _ H1.out).mono ?_
    rintro e w1 ⟨rfl, rfl⟩
    rw [HF.out]
    go_wp2_with fail
    refine (live15_c _).mono ?_
    rintro e w2 ⟨rfl, hb⟩
    go_wp2_with fail
    go_ret
    exact ⟨rfl, hb⟩
  | true =>
    obtain ⟨hl60, -⟩ := few_in hf
    have HF := Lib.hid hf
    clear hf
    cases hg : fewM ms 60 with
    | false =>
      have HG := Lib.hid hg
      clear hg
      go_enter Try.func9, Try.ntmps9
      go_wp2_with fail
      refine (few_c A1 c1 l HL.out _ H1.out).mono ?_
      rintro e w1 ⟨rfl, rfl⟩
      rw [HF.out]
      go_wp2_with fail
      refine (rmfew_c A2 c2 ms 60 HML.out (by decide) _ H2.out).mono ?_
      rintro e w1 ⟨rfl, rfl⟩
      rw [HG.out]
      go_wp2_with fail
      refine (live15_c _).mono ?_
      rintro e w2 ⟨rfl, hb⟩
      go_wp2_with fail
      go_ret
      exact ⟨rfl, hb⟩
    | true =>
      obtain ⟨hm60, -⟩ := fewM_in hg
      have HG := Lib.hid hg
      clear hg
      cases hmay : mayB l with
      | false =>
        have HMY := Lib.hid hmay
        clear hmay
        go_enter Try.func9, Try.ntmps9
        go_wp2_with fail
        refine (few_c A1 c1 l HL.out _ H1.out).mono ?_
        rintro e w1 ⟨rfl, rfl⟩
        rw [HF.out]
        go_wp2_with fail
        refine (rmfew_c A2 c2 ms 60 HML.out (by decide) _ H2.out).mono ?_
        rintro e w1 ⟨rfl, rfl⟩
        rw [HG.out]
        go_wp2_with fail
        refine (rmay_c A1 c1 l HL.out (fun r hr => (HM.out r hr).2) _ H1.out).mono ?_
        rintro e w1 ⟨rfl, hb1⟩
        rw [HMY.out]
        go_wp2_with fail
        refine (live15_c _).mono ?_
        rintro e w2 ⟨rfl, hb⟩
        go_wp2_with fail
        go_ret
        exact ⟨rfl, hb1.trans (hb.mono hb1.size)⟩
      | true =>
        have HMY := Lib.hid hmay
        clear hmay
        have hlm : l.length + ms.length ≤ 100000 := by omega
        have HSZ := Lib.hid (And.intro hl60 hm60)
        have HR1 := Lib.hid (allP_rows HM.out HMM.out)
        go_enter Try.func9, Try.ntmps9
        go_wp2_with fail
        refine (few_c A1 c1 l HL.out _ H1.out).mono ?_
        rintro e w1 ⟨rfl, rfl⟩
        rw [HF.out]
        go_wp2_with fail
        refine (rmfew_c A2 c2 ms 60 HML.out (by decide) _ H2.out).mono ?_
        rintro e w1 ⟨rfl, rfl⟩
        rw [HG.out]
        go_wp2_with fail
        refine (rmay_c A1 c1 l HL.out (fun r hr => (HM.out r hr).2) _ H1.out).mono ?_
        rintro e w1 ⟨rfl, hb1⟩
        rw [HMY.out]
        have HB1 := Lib.hid hb1
        clear hb1
        go_wp2_with fail
        refine (murun_c A1 A2 c1 c2 l ms hlm HA.out hc1 (allP_above hlm) _ (H1.out.keep HB1.out) (H2.out.keep HB1.out)).mono ?_
        rintro e w2 ⟨B1, d1, B2, d2, rfl, p1, n1, k1, p2, n2, k2, hb2⟩
        have HB2 := Lib.hid (HB1.out.trans (hb2.mono HB1.out.size))
        have P1 := Lib.hid p1
        have P2 := Lib.hid p2
        have HN1 := Lib.hid n1
        have HN2 := Lib.hid n2
        clear p1 p2 hb2 n1 n2
        have hlr : (allP l ms).length ≤ 120 := by have := allP_len l ms; omega
        have HSL := Lib.hid (stepsP_len l ms)
        have HBK := Lib.hid (back_run l ms)
        have HBD := Lib.hid (fun k => back_drop l ms k)
        have HMV := Lib.hid (stepsP_moves l ms)
        obtain ⟨T, hT⟩ : ∃ T, allP l ms = T := ⟨_, rfl⟩
        obtain ⟨S, hS⟩ : ∃ S, stepsP l ms = S := ⟨_, rfl⟩
        have HT := Lib.hid hT
        rw [hT] at P1 HR1 hlr k1 HBK HBD ⊢
        rw [hS] at P2 k2 HSL HBK HBD HMV ⊢
        have hlS : S.length ≤ 60 := by rw [HSL.out]; exact hm60
        have hne : ((S.length : Int) != (ms.length : Int)) = false := by rw [HSL.out]; simp
        clear hT hS
        go_wp2_with fail
        refine (mall_c A1 A2 c1 c2 l ms hlm HA.out hc1 (allP_above hlm) _ (H1.out.keep HB2.out) (H2.out.keep HB2.out)).mono ?_
        rintro e w3 ⟨B3, d3, rfl, p3, -, -, hb3⟩
        rw [HT.out] at p3 ⊢
        have HB3 := Lib.hid (HB2.out.trans (hb3.mono HB2.out.size))
        have P1b := Lib.hid (P1.out.keep hb3)
        have P2b := Lib.hid (P2.out.keep hb3)
        have P3 := Lib.hid p3
        clear p3 hb3
        go_wp2_with fail
        refine (rsame_t (by unfold maxLen; omega) HR1.out P1b.out P3.out).mono ?_
        rintro e w4 ⟨rfl, hb4⟩
        have HB4 := Lib.hid (HB3.out.trans (hb4.mono HB3.out.size))
        have P1c := Lib.hid (P1b.out.keep hb4)
        have P2c := Lib.hid (P2b.out.keep hb4)
        clear hb4
        go_wp2_with fail
        refine (muback_c B1 B2 d1 d2 T S (by omega) HN1.out k1 _ P1c.out P2c.out).mono ?_
        rintro e w5 ⟨B5, d5, rfl, p5, -, -, hb5⟩
        rw [HBK.out] at p5 ⊢
        have HB5 := Lib.hid (HB4.out.trans (hb5.mono HB4.out.size))
        have P1d := Lib.hid (P1c.out.keep hb5)
        have P2d := Lib.hid (P2c.out.keep hb5)
        have P5 := Lib.hid p5
        clear p5 hb5
        go_wp2_with fail
        refine (rsame_t HL.out HM.out P5.out (H1.out.keep HB5.out)).mono ?_
        rintro e w6 ⟨rfl, hb6⟩
        have HB6 := Lib.hid (HB5.out.trans (hb6.mono HB5.out.size))
        have P1e := Lib.hid (P1d.out.keep hb6)
        have P2e := Lib.hid (P2d.out.keep hb6)
        clear hb6
        go_wp2_with fail
        refine (umoves_c B2 d2 S (by omega) _ P2e.out).mono ?_
        intro e w7 hf7
        obtain ⟨B7, d7, rfl, p7, -, -, hb7⟩ := hf7.at
        rw [HMV.out] at p7 ⊢
        have HB7 := Lib.hid (HB6.out.trans (hb7.mono HB6.out.size))
        have P1f := Lib.hid (P1e.out.keep hb7)
        have P2f := Lib.hid (P2e.out.keep hb7)
        have P7 := Lib.hid p7
        clear hf7 p7 hb7
        go_wp2_with fail
        refine (rmsame_t HML.out HMM.out P7.out (H2.out.keep HB7.out)).mono ?_
        rintro e w8 ⟨rfl, hb8⟩
        have HB8 := Lib.hid (HB7.out.trans (hb8.mono HB7.out.size))
        have P1g := Lib.hid (P1f.out.keep hb8)
        have P2g := Lib.hid (P2f.out.keep hb8)
        clear hb8
        by_cases h0 : at_ < 0
        · have hd : decide (at_ < 0) = true := decide_eq_true h0
          go_wp2_with fail
          refine (live15_c _).mono ?_
          rintro e w9 ⟨rfl, hb9⟩
          go_wp2_with fail
          go_ret
          exact ⟨rfl, HB8.out.trans (hb9.mono HB8.out.size)⟩
        · have hd : decide (at_ < 0) = false := decide_eq_false h0
          by_cases h9 : (ms.length : Int) < at_
          · have hd9 : decide ((ms.length : Int) < at_) = true := decide_eq_true h9
            go_wp2_with fail
            refine (live15_c _).mono ?_
            rintro e w9 ⟨rfl, hb9⟩
            go_wp2_with fail
            go_ret
            exact ⟨rfl, HB8.out.trans (hb9.mono HB8.out.size)⟩
          · have hd9 : decide ((ms.length : Int) < at_) = false := decide_eq_false h9
            obtain ⟨k, hk⟩ : ∃ k : Nat, at_ = (k : Int) := ⟨at_.toNat, by omega⟩
            subst hk
            have hk1 : k ≤ ms.length := by omega
            have hk2 : (0 : Int) ≤ (k : Int) := by omega
            have hk3 : (k : Int) ≤ (S.length : Int) := by rw [HSL.out]; omega
            have hk4 : (k : Int) ≤ (ms.length : Int) := by omega
            have hk5 : (k : Int) ≤ (c2 : Int) := by omega
            have hk6 : (k : Int) ≤ (d2 : Int) := by omega
            have HX := Lib.hid (HBD.out k)
            have hXl : (allP l (ms.take k)).length ≤ maxLen := by have := allP_len l (ms.take k); rw [List.length_take] at this; unfold maxLen; omega
            have HXR := Lib.hid (allP_rows HM.out (ms := ms.take k) fun m hm => HMM.out m (List.mem_of_mem_take hm))
            have hbk : ∀ W, At W W.heap.size B1 (tvs T) → At W W.heap.size B2 (pvs S) → Calls Try.prog 46 #[.slice B1 T.length d1, .slice (if d2 = k then B2 else Option.map (fun x => x.add (k * 12)) B2) (S.length - k) (d2 - k)] W (Told_ (allP l (ms.take k)) W) := fun W h1 h2 => by
              have := muback_c B1 (if d2 = k then B2 else Option.map (fun x => x.add (k * 12)) B2) d1 (d2 - k) T (S.drop k) (by rw [List.length_drop]; omega) HN1.out k1 W h1 (at_cutS h2 k2)
              rw [List.length_drop, HX.out] at this
              exact this
            have hal : ∀ W, At W W.heap.size A1 (tvs l) → At W W.heap.size A2 (mvs ms) → Calls Try.prog 25 #[.slice A1 l.length c1, .slice A2 k c2] W (Told_ (allP l (ms.take k)) W) := fun W h1 h2 => by
              have hk9 : (ms.take k).length = k := by rw [List.length_take]; omega
              have := mall_c A1 A2 c1 c2 l (ms.take k) (by omega) HA.out hc1 (allP_above (by omega)) W h1 (by rw [mvs_take]; exact h2.take _)
              rw [hk9] at this
              exact this
            obtain ⟨X, hX⟩ : ∃ X, allP l (ms.take k) = X := ⟨_, rfl⟩
            rw [hX] at hbk hal hXl HXR
            have HBK2 := Lib.hid hbk
            have HAL2 := Lib.hid hal
            have HXL := Lib.hid hXl
            clear hbk hal hX hXl HX
            by_cases hdk : d2 = k
            · subst hdk
              rw [if_pos rfl, Nat.sub_self, show S.length - d2 = 0 by omega] at HBK2
              go_wp2_with fail
              go_region_held3 (fun w' => Below w8.heap.size w8 w')
                (first
                  | (exact hold1 (by assumption) hbn)
                  | (exact hold1d (by assumption))
                  | (exact (Below.refl _ _).drew)
                  | go_keep)
                (first
                  | (go_at_call 46; refine (HBK2.out _ (P1g.out.keep (by assumption)) (P2g.out.keep (by assumption))).mono ?_; rintro e wb ⟨E1, f1, rfl, r1, -, -, hbn⟩)
                  | (go_at_call 25; refine (HAL2.out _ ((H1.out.keep HB8.out).keep (by assumption)) ((H2.out.keep HB8.out).keep (by assumption))).mono ?_; rintro e wa ⟨E2, f2, rfl, r2, -, -, hbn⟩; have r1 := r1.keep hbn)
                  | (go_at_call 21; refine (rsame_t HXL.out HXR.out r1 r2).mono ?_; rintro e wc ⟨rfl, hbn⟩)
                  | (go_at_call 37; refine (live15_c _).mono ?_; rintro e wd ⟨rfl, hbn⟩))
              have hbz : Below w8.heap.size w8 wd := by assumption
              have HBZ := Lib.hid (HB8.out.trans (hbz.mono HB8.out.size))
              go_wp2_with fail
              go_ret
              exact ⟨rfl, HBZ.out⟩
            · rw [if_neg hdk] at HBK2
              obtain ⟨⟨b9, o9, s9⟩, rfl⟩ : ∃ a, B2 = some a := by
                cases B2 with
                | none => exact absurd (HN2.out rfl) (by omega)
                | some a => exact ⟨a, rfl⟩
              simp only [Option.map_some] at HBK2
              go_wp2_with fail
              go_region_held3 (fun w' => Below w8.heap.size w8 w')
                (first
                  | (exact hold1 (by assumption) hbn)
                  | (exact hold1d (by assumption))
                  | (exact (Below.refl _ _).drew)
                  | go_keep)
                (first
                  | (go_at_call 46; refine (HBK2.out _ (P1g.out.keep (by assumption)) (P2g.out.keep (by assumption))).mono ?_; rintro e wb ⟨E1, f1, rfl, r1, -, -, hbn⟩)
                  | (go_at_call 25; refine (HAL2.out _ ((H1.out.keep HB8.out).keep (by assumption)) ((H2.out.keep HB8.out).keep (by assumption))).mono ?_; rintro e wa ⟨E2, f2, rfl, r2, -, -, hbn⟩; have r1 := r1.keep hbn)
                  | (go_at_call 21; refine (rsame_t HXL.out HXR.out r1 r2).mono ?_; rintro e wc ⟨rfl, hbn⟩)
                  | (go_at_call 37; refine (live15_c _).mono ?_; rintro e wd ⟨rfl, hbn⟩))
              have hbz : Below w8.heap.size w8 wd := by assumption
              have HBZ := Lib.hid (HB8.out.trans (hbz.mono HB8.out.size))
              go_wp2_with fail
              go_ret
              exact ⟨rfl, HBZ.out⟩
end undoBack
end Go.Proofs.Ytnkckoilhhbllaa
