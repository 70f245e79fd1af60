/-
 Kids in two stretches that are merged where they lie: sort's symMerge_func.
-/
import Derived.Test.YtkobmnbjeppnaaaGreatXq
import Derived.WalkKit
namespace Go.Proofs.YtkobmnbjeppnaaaGreat
open Go.RowKit Go.IntWalk
namespace Kk
open Fl
set_option maxRecDepth 100000
attribute [local go_sem] Oper.semAt_some
set_option maxHeartbeats 16000000 in
theorem symMerge_c (B g n cap kb : Nat) (hn : n ≤ 100000) : ∀ (z a m b : Nat) (L : List Rw) (w : World), b ≤ a + z → a < m → m < b → b ≤ n → AscT L a m → AscT L m b → KIn w B g n cap kb L w →
  Calls Tryz.prog 105 #[.agg #[.func (.func 53) #[] #[.pointer (some ⟨kb, 0, none⟩)], .func (.func 103) #[] #[.slice (some ⟨g, 0, none⟩) n cap, typeHandle Tryz.prog 28]], .int .i64 (a : Int), .int .i64 (m : Int), .int .i64 (b : Int)] w (SymEnd w B g n cap kb a b L) := by
 intro z
 induction z with
 | zero =>
  intro a m b L w h0 h1 h2
  omega
 | succ z ih =>
  intro a m b L w hz ham hmb hb hsX hsY h
  have IH := Lib.hid ih
  clear ih
  by_cases hma : m = a + 1
  ·exact sym1_c B g n cap kb a m b L hma hmb hb hn hsY w h
  by_cases hbm : b = m + 1
  ·exact sym2_c B g n cap kb a m b L (by omega) hbm hb hn hsX w h
  obtain ⟨dm, hdm⟩ : ∃ dm, m = a + dm := ⟨m - a, by omega⟩
  obtain ⟨db, hdb⟩ : ∃ db, b = m + db := ⟨b - m, by omega⟩
  have hw0 : IntKind.i64.wrap ((m : Int) - (a : Int)) = (dm : Int) := by rw [show (m : Int) - (a : Int) = (dm : Int) by omega]; exact IntWalk.i64_in _ (by omega)
  have hdn : ((dm : Int) == 1) = false := by rw [beq_eq_false_iff_ne]; omega
  have hw2 : IntKind.i64.wrap ((b : Int) - (m : Int)) = (db : Int) := by rw [show (b : Int) - (m : Int) = (db : Int) by omega]; exact IntWalk.i64_in _ (by omega)
  have hdn2 : ((db : Int) == 1) = false := by rw [beq_eq_false_iff_ne]; omega
  obtain ⟨mid, hmid⟩ : ∃ mid : Nat, mid = (a + b) / 2 := ⟨_, rfl⟩
  have hw3 : IntKind.i64.wrap ((a : Int) + (b : Int)) = (a : Int) + (b : Int) := IntWalk.i64_in _ (by omega)
  have hhf : ((a : Int) + (b : Int)) / 2 = (mid : Int) := by omega
  obtain ⟨nn, hnn⟩ : ∃ nn, nn = mid + m := ⟨_, rfl⟩
  have hw4 : IntKind.i64.wrap ((mid : Int) + (m : Int)) = (nn : Int) := by rw [show (mid : Int) + (m : Int) = (nn : Int) by omega]; exact IntWalk.i64_in _ (by omega)
  obtain ⟨p, hp⟩ : ∃ p, nn = p + 1 := ⟨nn - 1, by omega⟩
  have hw5 : IntKind.i64.wrap ((nn : Int) - 1) = (p : Int) := by rw [show (nn : Int) - 1 = (p : Int) by omega]; exact IntWalk.i64_in _ (by omega)
  have hlen := h.lies.len
  obtain ⟨W0, hW0⟩ : ∃ W0, W0 = w.alloc (.cells #[.func (.func 53) #[] #[.pointer (some ⟨kb, 0, none⟩)], .func (.func 103) #[] #[.slice (some ⟨g, 0, none⟩) n cap, typeHandle Tryz.prog 28]] 93) := ⟨_, rfl⟩
  have K0 := h.alloc (.cells #[.func (.func 53) #[] #[.pointer (some ⟨kb, 0, none⟩)], .func (.func 103) #[] #[.slice (some ⟨g, 0, none⟩) n cap, typeHandle Tryz.prog 28]] 93)
  rw [← hW0] at K0
  have hG0 : w.grownBy W0 (some g) := by rw [hW0]; exact grown_alloc _ _ _
  have hbox : ∀ M W, KIn W0 B g n cap kb M W → W.cell? ⟨w.heap.size, 0, none⟩ = some (.func (.func 53) #[] #[.pointer (some ⟨kb, 0, none⟩)]) ∧ W.cell? ⟨w.heap.size, 1, none⟩ = some (.func (.func 103) #[] #[.slice (some ⟨g, 0, none⟩) n cap, typeHandle Tryz.prog 28]) := fun M W hK => by
   have hz : w.heap.size < W0.heap.size := by rw [hW0]; simp
   have hne : w.heap.size ≠ g := by have := h.glt; omega
   rw [hK.cell hz hne, hK.cell hz hne, hW0]
   exact ⟨by simp, by simp⟩
  have H0 := Lib.hid K0
  have HG0 := Lib.hid hG0
  have HBOX := Lib.hid hbox
  have HW0 := Lib.hid hW0
  clear K0 hG0 hbox hW0
  have HZ := Lib.hid (show (mid ≤ a + z ∧ b ≤ mid + z) ∧ a < mid ∧ mid < b by omega)
  have HMID := Lib.hid hmid
  have HNP := Lib.hid (show p + 1 = mid + m by omega)
  have HNN := Lib.hid hnn
  have HSX := Lib.hid hsX
  have HSY := Lib.hid hsY
  have HLEN := Lib.hid hlen
  have hmn : mid ≤ 100000 := by omega
  have hnb : nn ≤ 200000 := by omega
  by_cases hmm : mid < m
  ·obtain ⟨s0, hs0⟩ : ∃ s0, s0 + b = nn := ⟨nn - b, by omega⟩
   have hw6 : IntKind.i64.wrap ((nn : Int) - (b : Int)) = (s0 : Int) := by rw [show (nn : Int) - (b : Int) = (s0 : Int) by omega]; exact IntWalk.i64_in _ (by omega)
   have hmz : (mid : Int) < (m : Int) := by omega
   have HC := Lib.hid (show (mid < m ∧ s0 + b = mid + m ∧ mid = mid) ∨ (m ≤ mid ∧ s0 = a ∧ mid = m) from .inl ⟨hmm, by omega, rfl⟩)
   have hsr : s0 ≤ mid := by omega
   clear h hsX hsY hlen hma hbm hdm hdb hmid hnn hp hs0 hz
   go_enter Tryz.func105, Tryz.ntmps105
   go_wp2_with fail
   rw [← HW0.out]
   have HB := Lib.hid (show (a < m ∧ m < b ∧ b ≤ n ∧ n ≤ 100000) ∧ mid ≤ 100000 ∧ nn ≤ 200000 ∧ s0 ≤ mid from ⟨⟨ham, hmb, hb, hn⟩, hmn, hnb, hsr⟩)
   clear hw0 hw2 hw3 hw4 hw5 hw6 ham hmb hb hmn hnb hsr hdn hdn2 hhf hmz hmm
   go_loopw [18, 19] (fun u v wr => ∃ s r : Nat, u = .int .i64 (s : Int) ∧ v = .int .i64 (r : Int) ∧ s0 ≤ s ∧ s ≤ r ∧ r ≤ mid ∧ (∀ c x y, s0 ≤ c → c < s → L[c]? = some x → L[p - c]? = some y → kk x ≤ kk y) ∧ (∀ c x y, r ≤ c → c < mid → L[c]? = some x → L[p - c]? = some y → kk y < kk x) ∧ KIn W0 B g n cap kb L wr) (fun u v _ => (Go.RowKit.intOf v).toNat - (Go.RowKit.intOf u).toNat)
   case atStart => exact ⟨s0, mid, rfl, rfl, Nat.le_refl _, HB.out.2.2.2, Nat.le_refl _, fun c x y h1 h2 => by omega, fun c x y h1 h2 => by omega, H0.out⟩
   case round =>
    clear H0
    rename ∀ (a : Act) (w : World), Code.wp _ _ _ a w → _ => hKK
    have HKK := Lib.hid hKK
    clear hKK
    obtain ⟨s, r, rfl, rfl, hs0, hsr2, hr0, hlo, hhi, hlg⟩ := hrel
    have HLO := Lib.hid hlo
    have HHI := Lib.hid hhi
    have HLG := Lib.hid hlg
    obtain ⟨hc0, hc1⟩ := HBOX.out _ _ hlg
    have HS0 := Lib.hid (And.intro hs0 hr0)
    clear hlo hhi hlg hs0 hr0
    have hB := HB.out
    have hn1 := hB.1.2.2.2
    by_cases hlt : s < r
    ·obtain ⟨c, hh⟩ : ∃ h : Nat, h = (s + r) / 2 := ⟨_, rfl⟩
     have hrn : r ≤ 100000 := by have := HS0.out; omega
     have hw7 : IntKind.i64.wrap ((s : Int) + (r : Int)) = (s : Int) + (r : Int) := IntWalk.i64_in _ (by omega)
     have hcf : ((s : Int) + (r : Int)) / 2 = (c : Int) := by omega
     have hsc : s ≤ c := by omega
     have hcr : c < r := by omega
     have hcX : a ≤ c ∧ c < m ∧ m ≤ p - c ∧ p - c < b ∧ c ≤ p := by have := HS0.out; have := HC.out; have := HNP.out; have := HMID.out; omega
     obtain ⟨pc, hpc⟩ : ∃ pc, pc = p - c := ⟨_, rfl⟩
     have hw8 : IntKind.i64.wrap ((p : Int) - (c : Int)) = (pc : Int) := by rw [show (p : Int) - (c : Int) = (pc : Int) by omega]; exact IntWalk.i64_in _ (by omega)
     have hc0 : (0 : Int) ≤ (c : Int) := by omega
     have hcn : (c : Int) < (n : Int) := by omega
     have hp0 : (0 : Int) ≤ (pc : Int) := by omega
     have hpn : (pc : Int) < (n : Int) := by omega
     obtain ⟨x, hx⟩ := some_at (show c < L.length by rw [HLEN.out]; omega)
     obtain ⟨y, hy⟩ := some_at (show pc < L.length by rw [HLEN.out]; omega)
     have HX := Lib.hid hx
     have HY := Lib.hid hy
     have HCX := Lib.hid hcX
     have HPC := Lib.hid hpc
     have hpc0 : IntKind.i64.wrap ((p : Int) - (c : Int)) = (pc : Int) := hw8
     have HSC := Lib.hid (show s ≤ c ∧ c < r ∧ s < r ∧ s ≤ r from ⟨hsc, hcr, hlt, hsr2⟩)
     clear hx hy hcX hpc hh hsc hcr hsr2 hrn hB hn1
     by_cases hcmp : kk y < kk x
     ·skip
      have HCM := Lib.hid hcmp
      clear hcmp
      have HLE := Lib.hid (kless true HLG.out HY.out HX.out (decide_eq_true HCM.out))
      go_wp2_with fail
      refine HLE.out.mono ?_
      rintro e w5 ⟨rfl, hbn⟩
      have HQ := Lib.hid (HLG.out.keep hbn)
      clear hbn HLE
      go_wp2_with fail
      go_roundw
      case rel =>
       have hB := HB.out
       have hSC := HSC.out
       refine ⟨s, c, rfl, rfl, HS0.out.1, by omega, by have := HS0.out; omega, HLO.out, fun k u v h1 h2 hu hv => ?_, HQ.out⟩
       have hcX := HCX.out
       have hpc := HPC.out
       have hkm : k < m ∧ m ≤ p - k ∧ p - k < b := by have := HS0.out; have := HC.out; have := HNP.out; have := HMID.out; omega
       have q1 := HSX.out.le hcX.1 h1 hkm.1 HX.out hu
       have q2 := HSY.out.le hkm.2.1 (show p - k ≤ pc by omega) (by omega) hv HY.out
       have := HCM.out
       omega
      case measure => simp only [Go.RowKit.intOf]; have := HSC.out; omega
     ·skip
      have HCM := Lib.hid hcmp
      clear hcmp
      have HLE := Lib.hid (kless false HLG.out HY.out HX.out (decide_eq_false HCM.out))
      go_wp2_with fail
      refine HLE.out.mono ?_
      rintro e w5 ⟨rfl, hbn⟩
      have HQ := Lib.hid (HLG.out.keep hbn)
      clear hbn HLE
      go_wp2_with fail
      go_roundw
      case rel =>
       have hB := HB.out
       have hSC := HSC.out
       refine ⟨c + 1, r, by go_num, rfl, by have := HS0.out; omega, by omega, HS0.out.2, fun k u v h1 h2 hu hv => ?_, HHI.out, HQ.out⟩
       have hcX := HCX.out
       have hpc := HPC.out
       have hkm : a ≤ k ∧ m ≤ p - k ∧ p - k < b := by have := HS0.out; have := HC.out; have := HNP.out; have := HMID.out; omega
       have q1 := HSX.out.le hkm.1 (show k ≤ c by omega) hcX.2.1 hu HX.out
       have q2 := HSY.out.le (show m ≤ pc by omega) (show pc ≤ p - k by omega) hkm.2.2 HY.out hv
       have := HCM.out
       omega
      case measure => simp only [Go.RowKit.intOf]; have := HSC.out; omega
    ·have ham := hB.1.1
     have hmb := hB.1.2.1
     have hb := hB.1.2.2.1
     have hrs : r = s := by omega
     have hpart : Part L a m b mid s (mid + m - s) := part_of (s0 := s0) (r0 := mid) ham hmb HMID.out HS0.out.1 (by have := HS0.out; omega) HNP.out (by simpa using HC.out) HLO.out (by rw [← hrs]; exact HHI.out)
     obtain ⟨e, he⟩ : ∃ e, e = mid + m - s := ⟨_, rfl⟩
     rw [← he] at hpart
     have q1 := hpart.fa
     have q2 := hpart.fm
     have q3 := hpart.fe
     have q4 := hpart.fb
     have q5a : mid + m ≤ s + e := by have := hpart.mid; omega
     have q5b : s + e ≤ mid + m := by have := hpart.mid; omega
     have hnlt : ¬ (s : Int) < (r : Int) := by omega
     have hwe : IntKind.i64.wrap ((nn : Int) - (s : Int)) = (e : Int) := by rw [show (nn : Int) - (s : Int) = (e : Int) by have := HNN.out; omega]; exact IntWalk.i64_in _ (by omega)
     have HP := Lib.hid hpart
     have HLL := Lib.hid (HLG.out.lies.len)
     clear hpart he hrs
     have hKK := HKK.out
     clear HKK
     by_cases hsm : s < m
     ·have d1 : decide (s < m) = true := decide_eq_true hsm
      have z1 : (s : Int) < (m : Int) := by omega
      by_cases hme : m < e
      ·have d2 : decide (m < e) = true := decide_eq_true hme
       have z2 : (m : Int) < (e : Int) := by omega
       obtain ⟨P, X, Y, S, hL, hP, hX, hY⟩ := cut4 L q2 q3 (show e ≤ L.length by rw [HLL.out]; omega)
       have hro := rotate_c B g n cap kb s m e P X Y S hP hX hY (by omega) (by omega) hn wr (by rw [← hL]; exact HLG.out.start)
       have hha := halves_rot HP.out HSX.out HSY.out (by rw [HLL.out]; exact hb) hsm hme hL hP hX hY
       have HRO := Lib.hid hro
       have HHA := Lib.hid hha
       have hsmid : s < mid := by omega
       have hmide : mid < e := by omega
       clear hro hha hL hP hX hY
       go_wp2_with fail
       refine HRO.out.mono ?_
       rintro e1 w1 ⟨rfl, hl1⟩
       obtain ⟨L2, hL2⟩ : ∃ L2, P ++ Y ++ X ++ S = L2 := ⟨_, rfl⟩
       rw [hL2] at hl1
       have HH := Lib.hid (show Chg L L2 a b ∧ Halves L2 a mid b s e by rw [← hL2]; exact HHA.out)
       have HL1 := Lib.hid (show KIn W0 B g n cap kb L2 w1 from hl1.since HLG.out.grown)
       obtain ⟨hb0, hb1⟩ := HBOX.out _ _ HL1.out
       clear hl1 hL2 HRO HHA
       by_cases has : a < s
       ·have d3 : decide (a < s) = true := decide_eq_true has
        have d4 : decide (s < mid) = true := decide_eq_true hsmid
        have z3 : (a : Int) < (s : Int) := by omega
        have z4 : (s : Int) < (mid : Int) := by omega
        have hih := IH.out a s mid L2 w1 (by have := HZ.out; omega) has hsmid (by omega) HH.out.2.h1 HH.out.2.h2 HL1.out.start
        have HIH := Lib.hid hih
        clear hih
        go_wp2_with fail
        refine HIH.out.mono ?_
        rintro e2 w2 ⟨rfl, L3, hc3, ha3, hl3⟩
        have HM := Lib.hid (show Chg L L3 a b ∧ AscT L3 a mid ∧ _ from ⟨HH.out.1.trans (hc3.wide (Nat.le_refl _) (by have := HZ.out; omega)), ha3, HH.out.2.left hc3⟩)
        have HL2 := Lib.hid (show KIn W0 B g n cap kb L3 w2 from hl3.since HL1.out.grown)
        obtain ⟨hd0, hd1⟩ := HBOX.out _ _ HL2.out
        clear hc3 ha3 hl3 HIH HH HL1
        by_cases heb : e < b
        ·skip
         have d5 : decide (mid < e) = true := decide_eq_true hmide
         have d6 : decide (e < b) = true := decide_eq_true heb
         have z5 : (mid : Int) < (e : Int) := by omega
         have z6 : (e : Int) < (b : Int) := by omega
         have hih := IH.out mid e b L3 w2 (by have := HZ.out; omega) hmide heb hb HM.out.2.2.1 HM.out.2.2.2.1 HL2.out.start
         have HIH := Lib.hid hih
         clear hih
         go_wp2_with fail
         refine HIH.out.mono ?_
         rintro e3 w3 ⟨rfl, L4, hc4, ha4, hl4⟩
         have HF := Lib.hid (show SymEnd w B g n cap kb a b L (.returned (.tuple #[])) w3 from ⟨rfl, L4, HM.out.1.trans (hc4.wide (by have := HZ.out; omega) (Nat.le_refl _)), halves_done HM.out.2.1 ha4 hc4 HM.out.2.2.2.2.2, (hl4.since HL2.out.grown).since HG0.out⟩)
         clear hc4 ha4 hl4 HIH
         go_wp2_with fail
         go_end0
         exact HF.out
        ·skip
         have d5 : decide (mid < e) = true := decide_eq_true hmide
         have d6 : decide (e < b) = false := decide_eq_false heb
         have z5 : (mid : Int) < (e : Int) := by omega
         have z6 : ¬ (e : Int) < (b : Int) := by omega
         have HF := Lib.hid (show SymEnd w B g n cap kb a b L (.returned (.tuple #[])) w2 from ⟨rfl, L3, HM.out.1, halves_done HM.out.2.1 (HM.out.2.2.2.2.1 (by omega)) (Chg.refl _ _ _) HM.out.2.2.2.2.2, HL2.out.since HG0.out⟩)
         go_wp2_with fail
         go_end0
         exact HF.out
       ·have d3 : decide (a < s) = false := decide_eq_false has
        have z3 : ¬ (a : Int) < (s : Int) := by omega
        have HM := Lib.hid (show Chg L L2 a b ∧ AscT L2 a mid ∧ _ from ⟨HH.out.1, HH.out.2.first (by omega), HH.out.2.left (Chg.refl _ _ _)⟩)
        have HL2 := HL1
        obtain ⟨w2, hw2'⟩ : ∃ w2, w2 = w1 := ⟨_, rfl⟩
        obtain ⟨L3, hL3⟩ : ∃ L3, L3 = L2 := ⟨_, rfl⟩
        rw [← hw2'] at HL2 ⊢
        rw [← hL3] at HL2 HM
        clear HL1 HH hw2' hL3
        obtain ⟨hd0, hd1⟩ := HBOX.out _ _ HL2.out
        by_cases heb : e < b
        ·skip
         have d5 : decide (mid < e) = true := decide_eq_true hmide
         have d6 : decide (e < b) = true := decide_eq_true heb
         have z5 : (mid : Int) < (e : Int) := by omega
         have z6 : (e : Int) < (b : Int) := by omega
         have hih := IH.out mid e b L3 w2 (by have := HZ.out; omega) hmide heb hb HM.out.2.2.1 HM.out.2.2.2.1 HL2.out.start
         have HIH := Lib.hid hih
         clear hih
         go_wp2_with fail
         refine HIH.out.mono ?_
         rintro e3 w3 ⟨rfl, L4, hc4, ha4, hl4⟩
         have HF := Lib.hid (show SymEnd w B g n cap kb a b L (.returned (.tuple #[])) w3 from ⟨rfl, L4, HM.out.1.trans (hc4.wide (by have := HZ.out; omega) (Nat.le_refl _)), halves_done HM.out.2.1 ha4 hc4 HM.out.2.2.2.2.2, (hl4.since HL2.out.grown).since HG0.out⟩)
         clear hc4 ha4 hl4 HIH
         go_wp2_with fail
         go_end0
         exact HF.out
        ·skip
         have d5 : decide (mid < e) = true := decide_eq_true hmide
         have d6 : decide (e < b) = false := decide_eq_false heb
         have z5 : (mid : Int) < (e : Int) := by omega
         have z6 : ¬ (e : Int) < (b : Int) := by omega
         have HF := Lib.hid (show SymEnd w B g n cap kb a b L (.returned (.tuple #[])) w2 from ⟨rfl, L3, HM.out.1, halves_done HM.out.2.1 (HM.out.2.2.2.2.1 (by omega)) (Chg.refl _ _ _) HM.out.2.2.2.2.2, HL2.out.since HG0.out⟩)
         go_wp2_with fail
         go_end0
         exact HF.out
      ·have d2 : decide (m < e) = false := decide_eq_false hme
       have z2 : ¬ (m : Int) < (e : Int) := by omega
       have hme2 : mid = s := by omega
       have hem : e = m := by omega
       have HH := Lib.hid (show Chg L L a b ∧ Halves L a mid b s e from ⟨Chg.refl _ _ _, halves_same HP.out HSX.out HSY.out (by rw [HLL.out]; exact hb) (.inr hme)⟩)
       have HL1 := HLG
       obtain ⟨w1, hw1⟩ : ∃ w1, w1 = wr := ⟨_, rfl⟩
       obtain ⟨L2, hL2⟩ : ∃ L2, L2 = L := ⟨_, rfl⟩
       rw [← hw1] at HL1 ⊢
       rw [← hL2] at HL1
       have HH2 := Lib.hid (show Chg L L2 a b ∧ Halves L2 a mid b s e by rw [hL2]; exact HH.out)
       clear HH
       have HH := HH2
       clear HH2 hw1 hL2
       obtain ⟨hb0, hb1⟩ := HBOX.out _ _ HL1.out
       have has : a < s := by have := HZ.out; omega
       have d3 : decide (a < s) = true := decide_eq_true has
       have d4 : decide (s < mid) = false := decide_eq_false (by omega)
       have z3 : (a : Int) < (s : Int) := by omega
       have z4 : ¬ (s : Int) < (mid : Int) := by omega
       have hmide : mid < e := by omega
       clear hme2 hem
       have HM := Lib.hid (show Chg L L2 a b ∧ AscT L2 a mid ∧ _ from ⟨HH.out.1, HH.out.2.first (by omega), HH.out.2.left (Chg.refl _ _ _)⟩)
       have HL2 := HL1
       obtain ⟨w2, hw2'⟩ : ∃ w2, w2 = w1 := ⟨_, rfl⟩
       obtain ⟨L3, hL3⟩ : ∃ L3, L3 = L2 := ⟨_, rfl⟩
       rw [← hw2'] at HL2 ⊢
       rw [← hL3] at HL2 HM
       clear HL1 HH hw2' hL3
       obtain ⟨hd0, hd1⟩ := HBOX.out _ _ HL2.out
       have heb : e < b := by omega
       have d5 : decide (mid < e) = true := decide_eq_true hmide
       have d6 : decide (e < b) = true := decide_eq_true heb
       have z5 : (mid : Int) < (e : Int) := by omega
       have z6 : (e : Int) < (b : Int) := by omega
       have hih := IH.out mid e b L3 w2 (by have := HZ.out; omega) hmide heb hb HM.out.2.2.1 HM.out.2.2.2.1 HL2.out.start
       have HIH := Lib.hid hih
       clear hih
       go_wp2_with fail
       refine HIH.out.mono ?_
       rintro e3 w3 ⟨rfl, L4, hc4, ha4, hl4⟩
       have HF := Lib.hid (show SymEnd w B g n cap kb a b L (.returned (.tuple #[])) w3 from ⟨rfl, L4, HM.out.1.trans (hc4.wide (by have := HZ.out; omega) (Nat.le_refl _)), halves_done HM.out.2.1 ha4 hc4 HM.out.2.2.2.2.2, (hl4.since HL2.out.grown).since HG0.out⟩)
       clear hc4 ha4 hl4 HIH
       go_wp2_with fail
       go_end0
       exact HF.out
     ·have d1 : decide (s < m) = false := decide_eq_false hsm
      have z1 : ¬ (s : Int) < (m : Int) := by omega
      have hse : s = m := by omega
      have hmide2 : mid = e := by omega
      have HH := Lib.hid (show Chg L L a b ∧ Halves L a mid b s e from ⟨Chg.refl _ _ _, halves_same HP.out HSX.out HSY.out (by rw [HLL.out]; exact hb) (.inl hsm)⟩)
      have HL1 := HLG
      obtain ⟨w1, hw1⟩ : ∃ w1, w1 = wr := ⟨_, rfl⟩
      obtain ⟨L2, hL2⟩ : ∃ L2, L2 = L := ⟨_, rfl⟩
      rw [← hw1] at HL1 ⊢
      rw [← hL2] at HL1
      have HH2 := Lib.hid (show Chg L L2 a b ∧ Halves L2 a mid b s e by rw [hL2]; exact HH.out)
      clear HH
      have HH := HH2
      clear HH2 hw1 hL2
      obtain ⟨hb0, hb1⟩ := HBOX.out _ _ HL1.out
      have has : a < s := by omega
      have d3 : decide (a < s) = true := decide_eq_true has
      have z3 : (a : Int) < (s : Int) := by omega
      by_cases hsmid : s < mid
      ·have d4 : decide (s < mid) = true := decide_eq_true hsmid
       have z4 : (s : Int) < (mid : Int) := by omega
       have hme3 : ¬ mid < e := by omega
       clear hse hmide2
       have hih := IH.out a s mid L2 w1 (by have := HZ.out; omega) has hsmid (by omega) HH.out.2.h1 HH.out.2.h2 HL1.out.start
       have HIH := Lib.hid hih
       clear hih
       go_wp2_with fail
       refine HIH.out.mono ?_
       rintro e2 w2 ⟨rfl, L3, hc3, ha3, hl3⟩
       have HM := Lib.hid (show Chg L L3 a b ∧ AscT L3 a mid ∧ _ from ⟨HH.out.1.trans (hc3.wide (Nat.le_refl _) (by have := HZ.out; omega)), ha3, HH.out.2.left hc3⟩)
       have HL2 := Lib.hid (show KIn W0 B g n cap kb L3 w2 from hl3.since HL1.out.grown)
       obtain ⟨hd0, hd1⟩ := HBOX.out _ _ HL2.out
       clear hc3 ha3 hl3 HIH HH HL1
       have d5 : decide (mid < e) = false := decide_eq_false hme3
       have z5 : ¬ (mid : Int) < (e : Int) := by omega
       have HF := Lib.hid (show SymEnd w B g n cap kb a b L (.returned (.tuple #[])) w2 from ⟨rfl, L3, HM.out.1, halves_done HM.out.2.1 (HM.out.2.2.2.2.1 (by omega)) (Chg.refl _ _ _) HM.out.2.2.2.2.2, HL2.out.since HG0.out⟩)
       go_wp2_with fail
       go_end0
       exact HF.out
      ·have d4 : decide (s < mid) = false := decide_eq_false hsmid
       have z4 : ¬ (s : Int) < (mid : Int) := by omega
       have hme3 : ¬ mid < e := by omega
       clear hse hmide2
       have HM := Lib.hid (show Chg L L2 a b ∧ AscT L2 a mid ∧ _ from ⟨HH.out.1, HH.out.2.first (by omega), HH.out.2.left (Chg.refl _ _ _)⟩)
       have HL2 := HL1
       obtain ⟨w2, hw2'⟩ : ∃ w2, w2 = w1 := ⟨_, rfl⟩
       obtain ⟨L3, hL3⟩ : ∃ L3, L3 = L2 := ⟨_, rfl⟩
       rw [← hw2'] at HL2 ⊢
       rw [← hL3] at HL2 HM
       clear HL1 HH hw2' hL3
       obtain ⟨hd0, hd1⟩ := HBOX.out _ _ HL2.out
       have d5 : decide (mid < e) = false := decide_eq_false hme3
       have z5 : ¬ (mid : Int) < (e : Int) := by omega
       have HF := Lib.hid (show SymEnd w B g n cap kb a b L (.returned (.tuple #[])) w2 from ⟨rfl, L3, HM.out.1, halves_done HM.out.2.1 (HM.out.2.2.2.2.1 (by omega)) (Chg.refl _ _ _) HM.out.2.2.2.2.2, HL2.out.since HG0.out⟩)
       go_wp2_with fail
       go_end0
       exact HF.out
  ·have hmz : ¬ (mid : Int) < (m : Int) := by omega
   have HC := Lib.hid (show (mid < m ∧ a + b = mid + m ∧ m = mid) ∨ (m ≤ mid ∧ a = a ∧ m = m) from .inr ⟨by omega, rfl, rfl⟩)
   have hsr : a ≤ m := by omega
   clear h hsX hsY hlen hma hbm hdm hdb hmid hnn hp hz
   go_enter Tryz.func105, Tryz.ntmps105
   go_wp2_with fail
   rw [← HW0.out]
   have HB := Lib.hid (show (a < m ∧ m < b ∧ b ≤ n ∧ n ≤ 100000) ∧ mid ≤ 100000 ∧ nn ≤ 200000 ∧ a ≤ m from ⟨⟨ham, hmb, hb, hn⟩, hmn, hnb, hsr⟩)
   clear hw0 hw2 hw3 hw4 hw5  ham hmb hb hmn hnb hsr hdn hdn2 hhf hmz hmm
   go_loopw [18, 19] (fun u v wr => ∃ s r : Nat, u = .int .i64 (s : Int) ∧ v = .int .i64 (r : Int) ∧ a ≤ s ∧ s ≤ r ∧ r ≤ m ∧ (∀ c x y, a ≤ c → c < s → L[c]? = some x → L[p - c]? = some y → kk x ≤ kk y) ∧ (∀ c x y, r ≤ c → c < m → L[c]? = some x → L[p - c]? = some y → kk y < kk x) ∧ KIn W0 B g n cap kb L wr) (fun u v _ => (Go.RowKit.intOf v).toNat - (Go.RowKit.intOf u).toNat)
   case atStart => exact ⟨a, m, rfl, rfl, Nat.le_refl _, HB.out.2.2.2, Nat.le_refl _, fun c x y h1 h2 => by omega, fun c x y h1 h2 => by omega, H0.out⟩
   case round =>
    clear H0
    rename ∀ (a : Act) (w : World), Code.wp _ _ _ a w → _ => hKK
    have HKK := Lib.hid hKK
    clear hKK
    obtain ⟨s, r, rfl, rfl, hs0, hsr2, hr0, hlo, hhi, hlg⟩ := hrel
    have HLO := Lib.hid hlo
    have HHI := Lib.hid hhi
    have HLG := Lib.hid hlg
    obtain ⟨hc0, hc1⟩ := HBOX.out _ _ hlg
    have HS0 := Lib.hid (And.intro hs0 hr0)
    clear hlo hhi hlg hs0 hr0
    have hB := HB.out
    have hn1 := hB.1.2.2.2
    by_cases hlt : s < r
    ·obtain ⟨c, hh⟩ : ∃ h : Nat, h = (s + r) / 2 := ⟨_, rfl⟩
     have hrn : r ≤ 100000 := by have := HS0.out; omega
     have hw7 : IntKind.i64.wrap ((s : Int) + (r : Int)) = (s : Int) + (r : Int) := IntWalk.i64_in _ (by omega)
     have hcf : ((s : Int) + (r : Int)) / 2 = (c : Int) := by omega
     have hsc : s ≤ c := by omega
     have hcr : c < r := by omega
     have hcX : a ≤ c ∧ c < m ∧ m ≤ p - c ∧ p - c < b ∧ c ≤ p := by have := HS0.out; have := HC.out; have := HNP.out; have := HMID.out; omega
     obtain ⟨pc, hpc⟩ : ∃ pc, pc = p - c := ⟨_, rfl⟩
     have hw8 : IntKind.i64.wrap ((p : Int) - (c : Int)) = (pc : Int) := by rw [show (p : Int) - (c : Int) = (pc : Int) by omega]; exact IntWalk.i64_in _ (by omega)
     have hc0 : (0 : Int) ≤ (c : Int) := by omega
     have hcn : (c : Int) < (n : Int) := by omega
     have hp0 : (0 : Int) ≤ (pc : Int) := by omega
     have hpn : (pc : Int) < (n : Int) := by omega
     obtain ⟨x, hx⟩ := some_at (show c < L.length by rw [HLEN.out]; omega)
     obtain ⟨y, hy⟩ := some_at (show pc < L.length by rw [HLEN.out]; omega)
     have HX := Lib.hid hx
     have HY := Lib.hid hy
     have HCX := Lib.hid hcX
     have HPC := Lib.hid hpc
     have hpc0 : IntKind.i64.wrap ((p : Int) - (c : Int)) = (pc : Int) := hw8
     have HSC := Lib.hid (show s ≤ c ∧ c < r ∧ s < r ∧ s ≤ r from ⟨hsc, hcr, hlt, hsr2⟩)
     clear hx hy hcX hpc hh hsc hcr hsr2 hrn hB hn1
     by_cases hcmp : kk y < kk x
     ·skip
      have HCM := Lib.hid hcmp
      clear hcmp
      have HLE := Lib.hid (kless true HLG.out HY.out HX.out (decide_eq_true HCM.out))
      go_wp2_with fail
      refine HLE.out.mono ?_
      rintro e w5 ⟨rfl, hbn⟩
      have HQ := Lib.hid (HLG.out.keep hbn)
      clear hbn HLE
      go_wp2_with fail
      go_roundw
      case rel =>
       have hB := HB.out
       have hSC := HSC.out
       refine ⟨s, c, rfl, rfl, HS0.out.1, by omega, by have := HS0.out; omega, HLO.out, fun k u v h1 h2 hu hv => ?_, HQ.out⟩
       have hcX := HCX.out
       have hpc := HPC.out
       have hkm : k < m ∧ m ≤ p - k ∧ p - k < b := by have := HS0.out; have := HC.out; have := HNP.out; have := HMID.out; omega
       have q1 := HSX.out.le hcX.1 h1 hkm.1 HX.out hu
       have q2 := HSY.out.le hkm.2.1 (show p - k ≤ pc by omega) (by omega) hv HY.out
       have := HCM.out
       omega
      case measure => simp only [Go.RowKit.intOf]; have := HSC.out; omega
     ·skip
      have HCM := Lib.hid hcmp
      clear hcmp
      have HLE := Lib.hid (kless false HLG.out HY.out HX.out (decide_eq_false HCM.out))
      go_wp2_with fail
      refine HLE.out.mono ?_
      rintro e w5 ⟨rfl, hbn⟩
      have HQ := Lib.hid (HLG.out.keep hbn)
      clear hbn HLE
      go_wp2_with fail
      go_roundw
      case rel =>
       have hB := HB.out
       have hSC := HSC.out
       refine ⟨c + 1, r, by go_num, rfl, by have := HS0.out; omega, by omega, HS0.out.2, fun k u v h1 h2 hu hv => ?_, HHI.out, HQ.out⟩
       have hcX := HCX.out
       have hpc := HPC.out
       have hkm : a ≤ k ∧ m ≤ p - k ∧ p - k < b := by have := HS0.out; have := HC.out; have := HNP.out; have := HMID.out; omega
       have q1 := HSX.out.le hkm.1 (show k ≤ c by omega) hcX.2.1 hu HX.out
       have q2 := HSY.out.le (show m ≤ pc by omega) (show pc ≤ p - k by omega) hkm.2.2 HY.out hv
       have := HCM.out
       omega
      case measure => simp only [Go.RowKit.intOf]; have := HSC.out; omega
    ·have ham := hB.1.1
     have hmb := hB.1.2.1
     have hb := hB.1.2.2.1
     have hrs : r = s := by omega
     have hpart : Part L a m b mid s (mid + m - s) := part_of (s0 := a) (r0 := m) ham hmb HMID.out HS0.out.1 (by have := HS0.out; omega) HNP.out (by simpa using HC.out) HLO.out (by rw [← hrs]; exact HHI.out)
     obtain ⟨e, he⟩ : ∃ e, e = mid + m - s := ⟨_, rfl⟩
     rw [← he] at hpart
     have q1 := hpart.fa
     have q2 := hpart.fm
     have q3 := hpart.fe
     have q4 := hpart.fb
     have q5a : mid + m ≤ s + e := by have := hpart.mid; omega
     have q5b : s + e ≤ mid + m := by have := hpart.mid; omega
     have hnlt : ¬ (s : Int) < (r : Int) := by omega
     have hwe : IntKind.i64.wrap ((nn : Int) - (s : Int)) = (e : Int) := by rw [show (nn : Int) - (s : Int) = (e : Int) by have := HNN.out; omega]; exact IntWalk.i64_in _ (by omega)
     have HP := Lib.hid hpart
     have HLL := Lib.hid (HLG.out.lies.len)
     clear hpart he hrs
     have hKK := HKK.out
     clear HKK
     by_cases hsm : s < m
     ·have d1 : decide (s < m) = true := decide_eq_true hsm
      have z1 : (s : Int) < (m : Int) := by omega
      by_cases hme : m < e
      ·have d2 : decide (m < e) = true := decide_eq_true hme
       have z2 : (m : Int) < (e : Int) := by omega
       obtain ⟨P, X, Y, S, hL, hP, hX, hY⟩ := cut4 L q2 q3 (show e ≤ L.length by rw [HLL.out]; omega)
       have hro := rotate_c B g n cap kb s m e P X Y S hP hX hY (by omega) (by omega) hn wr (by rw [← hL]; exact HLG.out.start)
       have hha := halves_rot HP.out HSX.out HSY.out (by rw [HLL.out]; exact hb) hsm hme hL hP hX hY
       have HRO := Lib.hid hro
       have HHA := Lib.hid hha
       have hsmid : s < mid := by omega
       have hmide : mid < e := by omega
       clear hro hha hL hP hX hY
       go_wp2_with fail
       refine HRO.out.mono ?_
       rintro e1 w1 ⟨rfl, hl1⟩
       obtain ⟨L2, hL2⟩ : ∃ L2, P ++ Y ++ X ++ S = L2 := ⟨_, rfl⟩
       rw [hL2] at hl1
       have HH := Lib.hid (show Chg L L2 a b ∧ Halves L2 a mid b s e by rw [← hL2]; exact HHA.out)
       have HL1 := Lib.hid (show KIn W0 B g n cap kb L2 w1 from hl1.since HLG.out.grown)
       obtain ⟨hb0, hb1⟩ := HBOX.out _ _ HL1.out
       clear hl1 hL2 HRO HHA
       by_cases has : a < s
       ·have d3 : decide (a < s) = true := decide_eq_true has
        have d4 : decide (s < mid) = true := decide_eq_true hsmid
        have z3 : (a : Int) < (s : Int) := by omega
        have z4 : (s : Int) < (mid : Int) := by omega
        have hih := IH.out a s mid L2 w1 (by have := HZ.out; omega) has hsmid (by omega) HH.out.2.h1 HH.out.2.h2 HL1.out.start
        have HIH := Lib.hid hih
        clear hih
        go_wp2_with fail
        refine HIH.out.mono ?_
        rintro e2 w2 ⟨rfl, L3, hc3, ha3, hl3⟩
        have HM := Lib.hid (show Chg L L3 a b ∧ AscT L3 a mid ∧ _ from ⟨HH.out.1.trans (hc3.wide (Nat.le_refl _) (by have := HZ.out; omega)), ha3, HH.out.2.left hc3⟩)
        have HL2 := Lib.hid (show KIn W0 B g n cap kb L3 w2 from hl3.since HL1.out.grown)
        obtain ⟨hd0, hd1⟩ := HBOX.out _ _ HL2.out
        clear hc3 ha3 hl3 HIH HH HL1
        by_cases heb : e < b
        ·skip
         have d5 : decide (mid < e) = true := decide_eq_true hmide
         have d6 : decide (e < b) = true := decide_eq_true heb
         have z5 : (mid : Int) < (e : Int) := by omega
         have z6 : (e : Int) < (b : Int) := by omega
         have hih := IH.out mid e b L3 w2 (by have := HZ.out; omega) hmide heb hb HM.out.2.2.1 HM.out.2.2.2.1 HL2.out.start
         have HIH := Lib.hid hih
         clear hih
         go_wp2_with fail
         refine HIH.out.mono ?_
         rintro e3 w3 ⟨rfl, L4, hc4, ha4, hl4⟩
         have HF := Lib.hid (show SymEnd w B g n cap kb a b L (.returned (.tuple #[])) w3 from ⟨rfl, L4, HM.out.1.trans (hc4.wide (by have := HZ.out; omega) (Nat.le_refl _)), halves_done HM.out.2.1 ha4 hc4 HM.out.2.2.2.2.2, (hl4.since HL2.out.grown).since HG0.out⟩)
         clear hc4 ha4 hl4 HIH
         go_wp2_with fail
         go_end0
         exact HF.out
        ·skip
         have d5 : decide (mid < e) = true := decide_eq_true hmide
         have d6 : decide (e < b) = false := decide_eq_false heb
         have z5 : (mid : Int) < (e : Int) := by omega
         have z6 : ¬ (e : Int) < (b : Int) := by omega
         have HF := Lib.hid (show SymEnd w B g n cap kb a b L (.returned (.tuple #[])) w2 from ⟨rfl, L3, HM.out.1, halves_done HM.out.2.1 (HM.out.2.2.2.2.1 (by omega)) (Chg.refl _ _ _) HM.out.2.2.2.2.2, HL2.out.since HG0.out⟩)
         go_wp2_with fail
         go_end0
         exact HF.out
       ·have d3 : decide (a < s) = false := decide_eq_false has
        have z3 : ¬ (a : Int) < (s : Int) := by omega
        have HM := Lib.hid (show Chg L L2 a b ∧ AscT L2 a mid ∧ _ from ⟨HH.out.1, HH.out.2.first (by omega), HH.out.2.left (Chg.refl _ _ _)⟩)
        have HL2 := HL1
        obtain ⟨w2, hw2'⟩ : ∃ w2, w2 = w1 := ⟨_, rfl⟩
        obtain ⟨L3, hL3⟩ : ∃ L3, L3 = L2 := ⟨_, rfl⟩
        rw [← hw2'] at HL2 ⊢
        rw [← hL3] at HL2 HM
        clear HL1 HH hw2' hL3
        obtain ⟨hd0, hd1⟩ := HBOX.out _ _ HL2.out
        by_cases heb : e < b
        ·skip
         have d5 : decide (mid < e) = true := decide_eq_true hmide
         have d6 : decide (e < b) = true := decide_eq_true heb
         have z5 : (mid : Int) < (e : Int) := by omega
         have z6 : (e : Int) < (b : Int) := by omega
         have hih := IH.out mid e b L3 w2 (by have := HZ.out; omega) hmide heb hb HM.out.2.2.1 HM.out.2.2.2.1 HL2.out.start
         have HIH := Lib.hid hih
         clear hih
         go_wp2_with fail
         refine HIH.out.mono ?_
         rintro e3 w3 ⟨rfl, L4, hc4, ha4, hl4⟩
         have HF := Lib.hid (show SymEnd w B g n cap kb a b L (.returned (.tuple #[])) w3 from ⟨rfl, L4, HM.out.1.trans (hc4.wide (by have := HZ.out; omega) (Nat.le_refl _)), halves_done HM.out.2.1 ha4 hc4 HM.out.2.2.2.2.2, (hl4.since HL2.out.grown).since HG0.out⟩)
         clear hc4 ha4 hl4 HIH
         go_wp2_with fail
         go_end0
         exact HF.out
        ·skip
         have d5 : decide (mid < e) = true := decide_eq_true hmide
         have d6 : decide (e < b) = false := decide_eq_false heb
         have z5 : (mid : Int) < (e : Int) := by omega
         have z6 : ¬ (e : Int) < (b : Int) := by omega
         have HF := Lib.hid (show SymEnd w B g n cap kb a b L (.returned (.tuple #[])) w2 from ⟨rfl, L3, HM.out.1, halves_done HM.out.2.1 (HM.out.2.2.2.2.1 (by omega)) (Chg.refl _ _ _) HM.out.2.2.2.2.2, HL2.out.since HG0.out⟩)
         go_wp2_with fail
         go_end0
         exact HF.out
      ·have d2 : decide (m < e) = false := decide_eq_false hme
       have z2 : ¬ (m : Int) < (e : Int) := by omega
       have hme2 : mid = s := by omega
       have hem : e = m := by omega
       have HH := Lib.hid (show Chg L L a b ∧ Halves L a mid b s e from ⟨Chg.refl _ _ _, halves_same HP.out HSX.out HSY.out (by rw [HLL.out]; exact hb) (.inr hme)⟩)
       have HL1 := HLG
       obtain ⟨w1, hw1⟩ : ∃ w1, w1 = wr := ⟨_, rfl⟩
       obtain ⟨L2, hL2⟩ : ∃ L2, L2 = L := ⟨_, rfl⟩
       rw [← hw1] at HL1 ⊢
       rw [← hL2] at HL1
       have HH2 := Lib.hid (show Chg L L2 a b ∧ Halves L2 a mid b s e by rw [hL2]; exact HH.out)
       clear HH
       have HH := HH2
       clear HH2 hw1 hL2
       obtain ⟨hb0, hb1⟩ := HBOX.out _ _ HL1.out
       have has : a < s := by have := HZ.out; omega
       have d3 : decide (a < s) = true := decide_eq_true has
       have d4 : decide (s < mid) = false := decide_eq_false (by omega)
       have z3 : (a : Int) < (s : Int) := by omega
       have z4 : ¬ (s : Int) < (mid : Int) := by omega
       have hmide : mid < e := by omega
       clear hme2 hem
       have HM := Lib.hid (show Chg L L2 a b ∧ AscT L2 a mid ∧ _ from ⟨HH.out.1, HH.out.2.first (by omega), HH.out.2.left (Chg.refl _ _ _)⟩)
       have HL2 := HL1
       obtain ⟨w2, hw2'⟩ : ∃ w2, w2 = w1 := ⟨_, rfl⟩
       obtain ⟨L3, hL3⟩ : ∃ L3, L3 = L2 := ⟨_, rfl⟩
       rw [← hw2'] at HL2 ⊢
       rw [← hL3] at HL2 HM
       clear HL1 HH hw2' hL3
       obtain ⟨hd0, hd1⟩ := HBOX.out _ _ HL2.out
       have heb : e < b := by omega
       have d5 : decide (mid < e) = true := decide_eq_true hmide
       have d6 : decide (e < b) = true := decide_eq_true heb
       have z5 : (mid : Int) < (e : Int) := by omega
       have z6 : (e : Int) < (b : Int) := by omega
       have hih := IH.out mid e b L3 w2 (by have := HZ.out; omega) hmide heb hb HM.out.2.2.1 HM.out.2.2.2.1 HL2.out.start
       have HIH := Lib.hid hih
       clear hih
       go_wp2_with fail
       refine HIH.out.mono ?_
       rintro e3 w3 ⟨rfl, L4, hc4, ha4, hl4⟩
       have HF := Lib.hid (show SymEnd w B g n cap kb a b L (.returned (.tuple #[])) w3 from ⟨rfl, L4, HM.out.1.trans (hc4.wide (by have := HZ.out; omega) (Nat.le_refl _)), halves_done HM.out.2.1 ha4 hc4 HM.out.2.2.2.2.2, (hl4.since HL2.out.grown).since HG0.out⟩)
       clear hc4 ha4 hl4 HIH
       go_wp2_with fail
       go_end0
       exact HF.out
     ·have d1 : decide (s < m) = false := decide_eq_false hsm
      have z1 : ¬ (s : Int) < (m : Int) := by omega
      have hse : s = m := by omega
      have hmide2 : mid = e := by omega
      have HH := Lib.hid (show Chg L L a b ∧ Halves L a mid b s e from ⟨Chg.refl _ _ _, halves_same HP.out HSX.out HSY.out (by rw [HLL.out]; exact hb) (.inl hsm)⟩)
      have HL1 := HLG
      obtain ⟨w1, hw1⟩ : ∃ w1, w1 = wr := ⟨_, rfl⟩
      obtain ⟨L2, hL2⟩ : ∃ L2, L2 = L := ⟨_, rfl⟩
      rw [← hw1] at HL1 ⊢
      rw [← hL2] at HL1
      have HH2 := Lib.hid (show Chg L L2 a b ∧ Halves L2 a mid b s e by rw [hL2]; exact HH.out)
      clear HH
      have HH := HH2
      clear HH2 hw1 hL2
      obtain ⟨hb0, hb1⟩ := HBOX.out _ _ HL1.out
      have has : a < s := by omega
      have d3 : decide (a < s) = true := decide_eq_true has
      have z3 : (a : Int) < (s : Int) := by omega
      by_cases hsmid : s < mid
      ·have d4 : decide (s < mid) = true := decide_eq_true hsmid
       have z4 : (s : Int) < (mid : Int) := by omega
       have hme3 : ¬ mid < e := by omega
       clear hse hmide2
       have hih := IH.out a s mid L2 w1 (by have := HZ.out; omega) has hsmid (by omega) HH.out.2.h1 HH.out.2.h2 HL1.out.start
       have HIH := Lib.hid hih
       clear hih
       go_wp2_with fail
       refine HIH.out.mono ?_
       rintro e2 w2 ⟨rfl, L3, hc3, ha3, hl3⟩
       have HM := Lib.hid (show Chg L L3 a b ∧ AscT L3 a mid ∧ _ from ⟨HH.out.1.trans (hc3.wide (Nat.le_refl _) (by have := HZ.out; omega)), ha3, HH.out.2.left hc3⟩)
       have HL2 := Lib.hid (show KIn W0 B g n cap kb L3 w2 from hl3.since HL1.out.grown)
       obtain ⟨hd0, hd1⟩ := HBOX.out _ _ HL2.out
       clear hc3 ha3 hl3 HIH HH HL1
       have d5 : decide (mid < e) = false := decide_eq_false hme3
       have z5 : ¬ (mid : Int) < (e : Int) := by omega
       have HF := Lib.hid (show SymEnd w B g n cap kb a b L (.returned (.tuple #[])) w2 from ⟨rfl, L3, HM.out.1, halves_done HM.out.2.1 (HM.out.2.2.2.2.1 (by omega)) (Chg.refl _ _ _) HM.out.2.2.2.2.2, HL2.out.since HG0.out⟩)
       go_wp2_with fail
       go_end0
       exact HF.out
      ·have d4 : decide (s < mid) = false := decide_eq_false hsmid
       have z4 : ¬ (s : Int) < (mid : Int) := by omega
       have hme3 : ¬ mid < e := by omega
       clear hse hmide2
       have HM := Lib.hid (show Chg L L2 a b ∧ AscT L2 a mid ∧ _ from ⟨HH.out.1, HH.out.2.first (by omega), HH.out.2.left (Chg.refl _ _ _)⟩)
       have HL2 := HL1
       obtain ⟨w2, hw2'⟩ : ∃ w2, w2 = w1 := ⟨_, rfl⟩
       obtain ⟨L3, hL3⟩ : ∃ L3, L3 = L2 := ⟨_, rfl⟩
       rw [← hw2'] at HL2 ⊢
       rw [← hL3] at HL2 HM
       clear HL1 HH hw2' hL3
       obtain ⟨hd0, hd1⟩ := HBOX.out _ _ HL2.out
       have d5 : decide (mid < e) = false := decide_eq_false hme3
       have z5 : ¬ (mid : Int) < (e : Int) := by omega
       have HF := Lib.hid (show SymEnd w B g n cap kb a b L (.returned (.tuple #[])) w2 from ⟨rfl, L3, HM.out.1, halves_done HM.out.2.1 (HM.out.2.2.2.2.1 (by omega)) (Chg.refl _ _ _) HM.out.2.2.2.2.2, HL2.out.since HG0.out⟩)
       go_wp2_with fail
       go_end0
       exact HF.out
end Kk
end Go.Proofs.YtkobmnbjeppnaaaGreat
