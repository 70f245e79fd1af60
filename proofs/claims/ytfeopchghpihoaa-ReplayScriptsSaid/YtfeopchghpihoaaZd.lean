/-
  The walk of ReplayScripts.
-/
import Derived.Test.YtfeopchghpihoaaZs
import Derived.Deep.RegionHeld3
namespace Go.Proofs.Ytfeopchghpihoaa
open Go.RowKit Go.IntWalk
open Gr
set_option maxRecDepth 100000
attribute [local go_sem] Oper.semAt_some
/-- the program's Tree, and the document's, beside one another -/
def Two (w1 : World) (g d : Nat) (B R : List Rw) (S : List Sp) (N : List Mv) (W : World) : Prop := TreeAt W g B R S ∧ DocAt W d B N ∧ Below w1.heap.size w1 W
theorem Two.keep {w1 W W' : World} {g d : Nat} {B R : List Rw} {S : List Sp} {N : List Mv} (h : Two w1 g d B R S N W) (hb : Below W.heap.size W W') : Two w1 g d B R S N W' := ⟨h.1.keep hb, h.2.1.keep hb, h.2.2.trans (hb.mono h.2.2.size)⟩
theorem Two.drew {w1 W : World} {g d : Nat} {B R : List Rw} {S : List Sp} {N : List Mv} (h : Two w1 g d B R S N W) : Two w1 g d B R S N W.drew := h.keep (Below.refl _ _).drew
theorem hold9 {d : Nat} {v : Value} {w1 W W' : World} {g : Nat} {B R : List Rw} {S : List Sp} {N : List Mv} (h : W.cell? ⟨d, 1, none⟩ = some v ∧ Two w1 g d B R S N W) (hb : Below W.heap.size W W') : W'.cell? ⟨d, 1, none⟩ = some v ∧ Two w1 g d B R S N W' := ⟨keep_cell hb h.1, h.2.keep hb⟩
theorem hold9d {d : Nat} {v : Value} {w1 W : World} {g : Nat} {B R : List Rw} {S : List Sp} {N : List Mv} (h : W.cell? ⟨d, 1, none⟩ = some v ∧ Two w1 g d B R S N W) : W.drew.cell? ⟨d, 1, none⟩ = some v ∧ Two w1 g d B R S N W.drew := ⟨h.1, h.2.drew⟩
theorem hold9t {d : Nat} {v : Value} {w1 W : World} {g : Nat} {B R : List Rw} {S : List Sp} {N : List Mv} (h : W.cell? ⟨d, 1, none⟩ = some v ∧ Two w1 g d B R S N W) : TreeAt W g B R S := h.2.1
theorem hold9k {d : Nat} {v : Value} {w1 W : World} {g : Nat} {B R : List Rw} {S : List Sp} {N : List Mv} (h : W.cell? ⟨d, 1, none⟩ = some v ∧ Two w1 g d B R S N W) : DocAt W d B N := h.2.2.1
theorem hold9b {d : Nat} {v : Value} {w1 W : World} {g : Nat} {B R : List Rw} {S : List Sp} {N : List Mv} (h : W.cell? ⟨d, 1, none⟩ = some v ∧ Two w1 g d B R S N W) : Below w1.heap.size w1 W := h.2.2.2


namespace replayScripts
set_option maxHeartbeats 16000000 in
theorem walk (A1 A2 : Option Addr) (c1 c2 : Nat) (l : List Rw) (ms : List Mv) (hA1 : A1 = none → c1 = 0) (hc1 : l.length ≤ c1) (hl : l.length ≤ maxLen) (hM : Rows_ l) (hA2 : A2 = none → c2 = 0) (hc2 : ms.length ≤ c2) (hml : ms.length ≤ maxLen) (hMM : Moves_ ms)
    (w : World) (ha1 : At w w.heap.size A1 (tvs l)) (ha2 : At w w.heap.size A2 (mvs ms)) :
    Calls Try.prog 3 #[.slice A1 l.length c1, .slice A2 ms.length c2] w fun e w' => e = .returned (.bool true) ∧ Below w.heap.size w w' := by
  have HS := Lib.hid (((Bed.start w).addR ha1).addM ha2)
  have HA := Lib.hid hA1
  have HC := Lib.hid hc1
  have HA2 := Lib.hid hA2
  have HC2 := Lib.hid hc2
  have HM := Lib.hid hM
  have HMM := Lib.hid hMM
  have HL := Lib.hid hl
  have HML := Lib.hid hml
  unfold maxLen at hl hml
  clear ha1 ha2 hA1 hM hMM hc1 hA2 hc2
  by_cases hl40 : 40 < l.length
  · have hlz : (40 : Int) < (l.length : Int) := by omega
    have hd : decide ((40 : Int) < (l.length : Int)) = true := decide_eq_true hlz
    have hd2 : decide (40 < l.length) = true := decide_eq_true hl40
    go_enter Try.func3, Try.ntmps3
    go_wp2_with fail
    refine (live16_c _).mono ?_
    rintro e w2 ⟨rfl, hb⟩
    go_wp2_with fail
    go_ret
    exact ⟨rfl, hb⟩
  have hlz : ¬ (40 : Int) < (l.length : Int) := by omega
  have hd : decide ((40 : Int) < (l.length : Int)) = false := decide_eq_false hlz
  have hd2 : decide (40 < l.length) = false := decide_eq_false hl40
  go_enter Try.func3, Try.ntmps3
  go_wp2_with fail
  refine (few_c A1 c1 l HL.out _ (HS.out.rows (by simp))).mono ?_
  rintro e w1 ⟨rfl, rfl⟩
  cases hf : few l with
  | false =>
    clear hf
    go_wp2_with fail
    refine (live16_c _).mono ?_
    rintro e wz ⟨rfl, hbz⟩
    go_wp2_with fail
    go_ret
    exact ⟨rfl, hbz⟩
  | true =>
  clear hf
  go_wp2_with fail
  refine (rmfew_c A2 c2 ms 40 HML.out (by decide) _ (HS.out.moves (by simp))).mono ?_
  rintro e w1 ⟨rfl, rfl⟩
  cases hf : fewM ms 40 with
  | false =>
    clear hf
    go_wp2_with fail
    refine (live16_c _).mono ?_
    rintro e wz ⟨rfl, hbz⟩
    go_wp2_with fail
    go_ret
    exact ⟨rfl, hbz⟩
  | true =>
  obtain ⟨hm40, -⟩ := fewM_in hf
  clear hf
  go_wp2_with fail
  refine (rmay_c A1 c1 l HL.out (fun r hr => (HM.out r hr).2) _ (HS.out.rows (by simp))).mono ?_
  rintro e w1 ⟨rfl, hb1⟩
  have HS1 := Lib.hid (HS.out.step hb1)
  clear hb1
  cases hmay : mayB l with
  | false =>
    clear hmay
    go_wp2_with fail
    refine (live16_c _).mono ?_
    rintro e wz ⟨rfl, hbz⟩
    go_wp2_with fail
    go_ret
    exact ⟨rfl, (HS1.out.step hbz).bel⟩
  | true =>
  clear hmay
  go_wp2_with fail
  refine (tnew_c A1 c1 l (by omega) HA.out _ (HS1.out.rows (by simp))).mono ?_
  rintro e w2 ⟨g, rfl, hg, ht, hb2⟩
  have HS2 := Lib.hid (HS1.out.step hb2)
  have HG := Lib.hid (Nat.le_trans HS1.out.bel.size hg)
  obtain ⟨d, hdd⟩ : ∃ d, d = w2.heap.size := ⟨_, rfl⟩
  obtain ⟨w3, hw3⟩ : ∃ w3, w3 = w2.alloc (.cells #[.slice A1 l.length c1, .slice none 0 0] 31) := ⟨_, rfl⟩
  have hb3 : Below w2.heap.size w2 w3 := by rw [hw3]; exact (Below.refl _ _).alloc (Nat.le_refl _) _
  have hdoc : DocAt w3 d l [] := by rw [hw3, hdd]; exact doc_new (HS2.out.rows (by simp)) HA.out HC.out
  have HGD := Lib.hid (show g < d by
    obtain ⟨x1, y1, x2, y2, x3, y3, hi, -⟩ := ht
    rw [hdd]; exact is_lt hi)
  have HD3 := Lib.hid hdoc
  have HT3 := Lib.hid (ht.keep hb3)
  have HB3 := Lib.hid (HS2.out.step hb3).bel
  have HW3 := Lib.hid hw3
  have HDD := Lib.hid hdd
  clear hb2 hg ht hb3 hdoc hw3 hdd HS1 HS2
  go_wp2_with fail
  rw [← HW3.out, ← HDD.out]
  clear HW3 HDD
  go_loopw [7] (fun i wr => ∃ k : Nat, i = .int .i64 (k : Int) ∧ k ≤ ms.length ∧ TreeAt wr g l (allP l (uniM [] (ms.take k))) (stepsP l (uniM [] (ms.take k))) ∧ DocAt wr d l (uniM [] (ms.take k)) ∧ Below w.heap.size w wr) (fun i _ => ms.length - (Go.RowKit.intOf i).toNat)
  case atStart => exact ⟨0, rfl, Nat.zero_le _, HT3.out, HD3.out, HB3.out⟩
  case round =>
    obtain ⟨k, rfl, hk, ht, hd, hbw⟩ := hrel
    have HTR := Lib.hid ht
    have HDR := Lib.hid hd
    have HBW := Lib.hid hbw
    clear ht hd hbw HT3 HD3 HB3
    by_cases hlt : k < ms.length
    · obtain ⟨m, hm⟩ := some_at hlt
      have hul := uniM_len (ms.take k) []
      rw [List.length_nil, List.length_take] at hul
      have HMU : Hid (Moves_ (uniM [] (ms.take (k + 1)))) := Lib.hid fun x hx => by
        rcases uniM_mem hx with h | h
        · cases h
        · exact HMM.out x (List.mem_of_mem_take h)
      obtain ⟨b0, o0, rfl, -, x0, x1, x2, x3, x4, x5⟩ := move_cells ((HS.out.step HBW.out).moves (A := A2) (l := ms) (by simp)) hm
      have hk0 : (0 : Int) ≤ (k : Int) := by omega
      have hkl : (k : Int) < (ms.length : Int) := by omega
      have HST := Lib.hid (uniM_step (a := []) hm)
      have HMA := Lib.hid hm
      obtain ⟨L, hL⟩ : ∃ L, uniM [] (ms.take k) = L := ⟨_, rfl⟩
      obtain ⟨z, hz, -⟩ := addV_is (insM L m)
      obtain ⟨q, hq⟩ : ∃ q, (insM L m).2.2 = q := ⟨_, rfl⟩
      rw [hq] at hz
      have hst := HST.out
      have htr := HTR.out
      have hdr := HDR.out
      rw [hL] at hst htr hdr hul
      have HZ := Lib.hid hz
      have HADD := Lib.hid (tadd_c l L m (by omega) (by omega) wr htr)
      have HDD := Lib.hid fun (W : World) (h : DocAt W d l L) => dadd_c l L m (by omega) W h
      have HSN := Lib.hid hst
      have HDR2 := Lib.hid hdr
      have HTR2 := Lib.hid htr
      clear hm hL hz hst htr hdr hq HST HTR HDR
      go_wp2_with fail
      refine HADD.out.mono ?_
      rintro e w3 ⟨rfl, ht3, hb3⟩
      rw [HZ.out]
      have HD3 := Lib.hid (HDR2.out.but hb3 HTR2.out (Nat.ne_of_gt HGD.out))
      have HT3 := Lib.hid ht3
      have HB3 := Lib.hid (HBW.out.trans (hb3.below HBW.out.size HG.out))
      clear x0 x1 x2 x3 x4 x5 ht3 hb3 HADD HTR2
      obtain ⟨b9, o9, e9, -, x0, x1, x2, x3, x4, x5⟩ := move_cells ((HS.out.step HB3.out).moves (A := some ⟨b0, o0, none⟩) (l := ms) (by simp)) HMA.out
      cases e9
      go_wp2_with fail
      refine (HDD.out _ HD3.out).mono ?_
      rintro e w4 ⟨rfl, hd4, hb4⟩
      rw [HZ.out]
      have hgd := HGD.out
      have hgw := HG.out
      have ht4 := HT3.out.but hb4 HD3.out (Nat.ne_of_lt hgd)
      have HB4 := Lib.hid (HB3.out.trans (hb4.below HB3.out.size (by omega)))
      clear x0 x1 x2 x3 x4 x5 hb4 HDD HD3 HT3 HB3 HDR2 HBW hgd hgw HZ
      have hnl := insM_len L m
      obtain ⟨N, hN⟩ : ∃ N, (insM L m).1 = N := ⟨_, rfl⟩
      have hsn := HSN.out
      have hmu := HMU.out
      rw [hsn] at hmu
      rw [hN] at ht4 hd4 hsn hmu hnl
      have hrl := allP_len l N
      have hsl := stepsP_len l N
      have hrr := allP_rows HM.out hmu
      have hss := stepsP_ok HM.out hmu
      have hsm := stepsP_moves l N
      obtain ⟨R, hR⟩ : ∃ R, allP l N = R := ⟨_, rfl⟩
      obtain ⟨S, hS⟩ : ∃ S, stepsP l N = S := ⟨_, rfl⟩
      rw [hR] at hrl hrr ht4
      rw [hS] at hsl hss hsm ht4
      have hd5 := hd4
      obtain ⟨y1, d1, E2, f2, hi, -, -, -, hk2, -, -⟩ := hd5
      have g1 : w4.cell? ⟨d, 1, none⟩ = some (.slice E2 N.length f2) := is_cell hi 1
      have HK2 := Lib.hid hk2
      have HTWO := Lib.hid (show Two w4 g d l R S N w4 from ⟨ht4, hd4, Below.refl _ _⟩)
      have HSW := Lib.hid (HS.out.step HB4.out)
      have HSN2 := Lib.hid hsn
      have HN := Lib.hid hmu
      have HRR := Lib.hid hrr
      have HSS := Lib.hid hss
      have HSM := Lib.hid hsm
      have HR := Lib.hid hR
      have HSt := Lib.hid hS
      have HRL := Lib.hid (show R.length ≤ 100000 by omega)
      have HRL2 := Lib.hid (show R.length ≤ maxLen by unfold maxLen; omega)
      have HSL := Lib.hid (show S.length ≤ 100000 by omega)
      have HSL2 := Lib.hid (show S.length ≤ maxLen by unfold maxLen; omega)
      have HNL2 := Lib.hid (show N.length ≤ maxLen by unfold maxLen; omega)
      have HLN := Lib.hid (show l.length + N.length ≤ 10000 by omega)
      have HLL := Lib.hid (show l.length ≤ 100000 by omega)
      clear hi hk2 hN hsn hmu hnl hrl hsl hrr hss hsm hR hS ht4 hd4 HSN HMU
      go_wp2_with fail
      go_region_held3 (fun w' => w'.cell? ⟨d, 1, none⟩ = some (.slice E2 N.length f2) ∧ Two w4 g d l R S N w')
        (first
          | (exact hold9 (by assumption) hbn)
          | (exact hold9d (by assumption))
          | (exact ⟨g1, HTWO.out.drew⟩)
          | go_keep)
        (first
          | (go_at_call 15; refine (trows_v HRL.out (hold9t (by assumption))).mono ?_; rintro e wa ⟨Ea, fa, rfl, hr1, -, -, hbn⟩)
          | (go_at_call 16; refine (drows_v HR.out HLN.out (hold9k (by assumption))).mono ?_; rintro e wa ⟨Eb, fb, rfl, hr2, hbn⟩; have hr1b := At.keep hr1 hbn)
          | (go_at_call 14; refine (rsame_t (by first | exact HRL2.out | exact HL.out) (by first | exact HRR.out | exact HM.out) (by first | exact hr1b | exact hb1) (by first | exact hr2 | exact (HSW.out.step (hold9b (by assumption))).rows (by simp))).mono ?_; rintro e wa ⟨rfl, hbn⟩)
          | (go_at_call 18; refine (tlog_v HSM.out HSL.out (hold9t (by assumption))).mono ?_; rintro e wa ⟨Ec, fc, rfl, hm1, -, -, hbn⟩)
          | (go_at_call 17; refine (rmsame_t HNL2.out HN.out hm1 (HK2.out.keep (hold9b (by assumption)))).mono ?_; rintro e wa ⟨rfl, hbn⟩)
          | (go_at_call 20; refine (tsteps_v HSL.out (hold9t (by assumption))).mono ?_; rintro e wa ⟨Ed, fd, rfl, hs1, hbn⟩)
          | (go_at_call 21; refine (dsteps_v HSt.out HLN.out (hold9k (by assumption))).mono ?_; rintro e wa ⟨Ee, fe, rfl, hs2, hbn⟩; have hs1b := At.keep hs1 hbn)
          | (go_at_call 19; refine (rpsame_t HSL2.out HSS.out hs1b hs2).mono ?_; rintro e wa ⟨rfl, hbn⟩)
          | (go_at_call 22; refine (tbase_v HLL.out (hold9t (by assumption))).mono ?_; rintro e wa ⟨Ef, ff, rfl, hb1, -, -, hbn⟩))
      have htz : TreeAt wa g l R S := hold9t (by assumption)
      have hdz : DocAt wa d l N := hold9k (by assumption)
      have hbz : Below w4.heap.size w4 wa := hold9b (by assumption)
      have HTZ := Lib.hid htz
      have HDZ := Lib.hid hdz
      have HBZ := Lib.hid (HB4.out.trans (hbz.mono HB4.out.size))
      clear htz hdz hbz g1
      go_wp2_with fail
      go_roundw
      case rel => exact ⟨k + 1, by go_num, by omega, by rw [HSN2.out, HR.out, HSt.out]; exact HTZ.out, by rw [HSN2.out]; exact HDZ.out, HBZ.out⟩
      case measure => simp only [Go.RowKit.intOf]; omega
    · obtain rfl : k = ms.length := by omega
      go_wp2_with fail
      refine (live16_c _).mono ?_
      rintro e wz ⟨rfl, hbz⟩
      go_wp2_with fail
      go_ret
      exact ⟨rfl, HBW.out.trans (hbz.mono HBW.out.size)⟩
end replayScripts
end Go.Proofs.Ytfeopchghpihoaa
