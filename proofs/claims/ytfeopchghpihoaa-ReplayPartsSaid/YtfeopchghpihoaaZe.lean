/-
  The walk of ReplayParts.
-/
import Derived.Test.YtfeopchghpihoaaZs
namespace Go.Proofs.Ytfeopchghpihoaa
open Go.RowKit Go.IntWalk
open Gr
set_option maxRecDepth 100000
attribute [local go_sem] Oper.semAt_some

namespace replayParts
set_option maxHeartbeats 16000000 in
theorem walk (A1 A2 : Option Addr) (c1 c2 : Nat) (l : List Rw) (ms : List Mv) (hA1 : A1 = none → c1 = 0) (hc1 : l.length ≤ c1) (hl : l.length ≤ maxLen) (hM : Rows_ l) (hA2 : A2 = none → c2 = 0) (hc2 : ms.length ≤ c2) (hml : ms.length ≤ maxLen) (hMM : Moves_ ms) (c r : Int)
    (w : World) (ha1 : At w w.heap.size A1 (tvs l)) (ha2 : At w w.heap.size A2 (mvs ms)) :
    Calls Try.prog 6 #[.slice A1 l.length c1, .slice A2 ms.length c2, .agg #[.int .i64 c, .int .i64 r]] w fun e w' => e = .returned (.bool true) ∧ Below w.heap.size w w' := by
  obtain ⟨w0, hw0⟩ : ∃ w0, w0 = w.alloc (.cells #[.int .i64 c, .int .i64 r] 35) := ⟨_, rfl⟩
  have hb0 : Below w.heap.size w w0 := by rw [hw0]; exact (Below.refl w.heap.size w).alloc (Nat.le_refl _) _
  have hI : Is w0 w.heap.size 35 [.int .i64 c, .int .i64 r] := by rw [hw0]; exact is_new w 35 _
  obtain ⟨G, hG⟩ : ∃ G, G = w.heap.size := ⟨_, rfl⟩
  rw [← hG] at hI
  have HS := Lib.hid (((((Bed.start w).addR ha1).addM ha2).step hb0).addB hI)
  have HW := Lib.hid hw0
  have HG := Lib.hid hG
  clear hw0 hb0 hI hG
  have HA := Lib.hid hA1
  have HC := Lib.hid hc1
  have HA2 := Lib.hid hA2
  have HC2 := Lib.hid hc2
  have HM := Lib.hid hM
  have HMM := Lib.hid hMM
  have HL := Lib.hid hl
  have HML := Lib.hid hml
  unfold maxLen at hl hml
  clear ha1 ha2 hA1 hM hMM hc1 hA2 hc2
  by_cases hl40 : 30 < l.length
  · have hlz : (30 : Int) < (l.length : Int) := by omega
    have hd : decide ((30 : Int) < (l.length : Int)) = true := decide_eq_true hlz
    have hd2 : decide (30 < l.length) = true := decide_eq_true hl40
    go_enter Try.func6, Try.ntmps6
    go_wp2_with fail
    rw [← HW.out]
    refine (live16_c _).mono ?_
    rintro e w2 ⟨rfl, hb⟩
    go_wp2_with fail
    go_ret
    exact ⟨rfl, (HS.out.step hb).bel⟩
  have hlz : ¬ (30 : Int) < (l.length : Int) := by omega
  have hd : decide ((30 : Int) < (l.length : Int)) = false := decide_eq_false hlz
  have hd2 : decide (30 < l.length) = false := decide_eq_false hl40
  go_enter Try.func6, Try.ntmps6
  go_wp2_with fail
  rw [← HW.out, ← HG.out]
  clear HW HG
  refine (few_c A1 c1 l HL.out _ (HS.out.rows (by simp))).mono ?_
  rintro e w1 ⟨rfl, rfl⟩
  cases hf : few l with
  | false =>
    clear hf
    go_wp2_with fail
    refine (live16_c _).mono ?_
    rintro e wz ⟨rfl, hbz⟩
    go_wp2_with fail
    go_ret
    exact ⟨rfl, (HS.out.step hbz).bel⟩
  | true =>
  clear hf
  go_wp2_with fail
  refine (rmfew_c A2 c2 ms 30 HML.out (by decide) _ (HS.out.moves (by simp))).mono ?_
  rintro e w1 ⟨rfl, rfl⟩
  cases hf : fewM ms 30 with
  | false =>
    clear hf
    go_wp2_with fail
    refine (live16_c _).mono ?_
    rintro e wz ⟨rfl, hbz⟩
    go_wp2_with fail
    go_ret
    exact ⟨rfl, (HS.out.step hbz).bel⟩
  | true =>
  obtain ⟨hm40, -⟩ := fewM_in hf
  clear hf
  go_wp2_with fail
  refine (rmay_c A1 c1 l HL.out (fun r hr => (HM.out r hr).2) _ (HS.out.rows (by simp))).mono ?_
  rintro e w1 ⟨rfl, hb1⟩
  have HS1 := Lib.hid (HS.out.step hb1)
  clear hb1
  cases hmay : mayB l with
  | false =>
    clear hmay
    go_wp2_with fail
    refine (live16_c _).mono ?_
    rintro e wz ⟨rfl, hbz⟩
    go_wp2_with fail
    go_ret
    exact ⟨rfl, (HS1.out.step hbz).bel⟩
  | true =>
  clear hmay
  go_wp2_with fail
  refine (rmmay_c A2 c2 ms HML.out (fun m hm => (HMM.out m hm).2) _ (HS1.out.moves (by simp))).mono ?_
  rintro e w2 ⟨rfl, hb2⟩
  have HS2 := Lib.hid (HS1.out.step hb2)
  clear hb2 HS1
  cases hmay : mayM ms with
  | false =>
    clear hmay
    go_wp2_with fail
    refine (live16_c _).mono ?_
    rintro e wz ⟨rfl, hbz⟩
    go_wp2_with fail
    go_ret
    exact ⟨rfl, (HS2.out.step hbz).bel⟩
  | true =>
  obtain ⟨hasc, -⟩ := mayM_asc hmay
  obtain ⟨k, hk, hsin, -, -⟩ := sinM_cut c r hasc
  obtain ⟨T, hT⟩ : ∃ T, ms.drop k = T := ⟨_, rfl⟩
  rw [hT] at hsin
  have htl : T.length + k = ms.length := by rw [← hT, List.length_drop]; omega
  have hascT : Asc T := by rw [← hT]; exact hasc.sublist (List.drop_sublist _ _)
  obtain ⟨X, hX⟩ : ∃ X, allP l (ms.take k) = X := ⟨_, rfl⟩
  have hXT : allP X T = allP l ms := by rw [← hX, ← hT, ← allP_app, List.take_append_drop]
  have hXl : X.length ≤ l.length + k := by have := allP_len l (ms.take k); rw [hX, List.length_take] at this; omega
  have hRX : Rows_ X := by rw [← hX]; exact allP_rows HM.out fun m hm => HMM.out m (List.mem_of_mem_take hm)
  have HTK := Lib.hid (show (ms.take k).length = k by rw [List.length_take]; omega)
  have HUN := Lib.hid (uniM_all hasc)
  have HSIN := Lib.hid hsin
  have HASC := Lib.hid hascT
  have HX := Lib.hid hX
  have HXT := Lib.hid hXT
  have HRX := Lib.hid hRX
  have HMT : Hid (Moves_ T) := Lib.hid fun m hm => HMM.out m (List.mem_of_mem_drop (by rw [hT]; exact hm))
  have hRW := allP_rows HM.out HMM.out
  have hYl := allP_len l ms
  obtain ⟨Y, hY⟩ : ∃ Y, allP l ms = Y := ⟨_, rfl⟩
  rw [hY] at hXT hRW hYl
  have HXY := Lib.hid hXT
  have HY := Lib.hid hY
  have HRW := Lib.hid hRW
  clear hmay hasc hsin hT hascT hX hXT hRX hRW hY
  go_wp2_with fail
  refine (all16_c A1 A2 c1 c2 l ms (by omega) (by omega) HA.out _ (HS2.out.rows (by simp)) (HS2.out.moves (by simp))).mono ?_
  rintro e w3 ⟨g, rfl, hg, ht, hb3⟩
  rw [HUN.out, HY.out] at ht
  have HS3 := Lib.hid ((HS2.out.step hb3).addT ht)
  clear hb3 hg ht HS2
  obtain ⟨q0, q1⟩ := box2 (HS3.out.box (t := 35) (g := G) (vs := [.int .i64 c, .int .i64 r]) (by simp))
  go_wp2_with fail
  refine (rmsince_v HSIN.out (by omega) (HS3.out.moves (by simp))).mono ?_
  rintro e w4 ⟨A4, c4, rfl, h4, hn4, hc4, hb4⟩
  have HS4 := Lib.hid ((HS3.out.step hb4).addM h4)
  clear q0 q1 h4 hn4 hb4 HS3
  have hkc : (k : Int) ≤ (c2 : Int) := by have := HC2.out; omega
  have hk0 : (0 : Int) ≤ (k : Int) := by omega
  have hkn : ¬ ((k : Int) < 0) := by omega
  have hsub : (ms.length : Int) - (T.length : Int) = (k : Int) := by omega
  have hw1 : IntKind.i64.wrap ((ms.length : Int) - (T.length : Int)) = (k : Int) := by rw [hsub]; exact IntWalk.i64_in _ (by omega)
  have HAT := Lib.hid (at_takeA (HS4.out.moves (A := A2) (l := ms) (by simp)) k)
  go_wp2_with fail
  refine (mall_v HTK.out HX.out (by omega) HA.out HC.out (HS4.out.rows (by simp)) HAT.out).mono ?_
  rintro e w5 ⟨A5, c5, rfl, h5, hn5, hc5, hb5⟩
  have HS5 := Lib.hid ((HS4.out.step hb5).addR h5)
  have HN5 := Lib.hid hn5
  clear h5 hn5 hb5 HS4 HAT hw1 hsub hkc hk0 hkn
  go_wp2_with fail
  refine (tnew_c A5 c5 X (by omega) HN5.out _ (HS5.out.rows (by simp))).mono ?_
  rintro e w6 ⟨x, rfl, hx, ht6, hb6⟩
  have HX6 := Lib.hid hx
  have HT6 := Lib.hid ht6
  have HB6 := Lib.hid hb6
  clear hx ht6 hb6
  go_wp2_with fail
  go_loopw [10] (fun i wr => ∃ n : Nat, i = .int .i64 ((n : Int) - 1) ∧ n ≤ T.length ∧ TreeAt wr x X (allP X (T.drop n)) (stepsP X (T.drop n)) ∧ Below w5.heap.size w5 wr) (fun i _ => (Go.RowKit.intOf i + 1).toNat)
  case atStart => exact ⟨T.length, rfl, Nat.le_refl _, by rw [List.drop_length]; exact HT6.out, HB6.out⟩
  case round =>
    obtain ⟨n, rfl, hn, ht, hbw⟩ := hrel
    have HTR := Lib.hid ht
    have HSR := Lib.hid (HS5.out.step hbw)
    clear ht HT6 HB6
    cases n with
    | succ j =>
      have hjj : (((j + 1 : Nat) : Int) - 1) = (j : Int) := by omega
      rw [hjj]
      obtain ⟨m, hm⟩ := some_at (show j < T.length by omega)
      have hmat := HSR.out.moves (A := A4) (l := T) (by simp)
      obtain ⟨b2, o2, e2, -, d0, d1, d2, d3, d4, d5⟩ := move_cells hmat hm
      subst e2
      have hj0 : (0 : Int) ≤ (j : Int) := by omega
      have hjl : (j : Int) < (T.length : Int) := by omega
      have hback := ins_back HASC.out hm
      have HADD := Lib.hid (tadd_c X (T.drop (j + 1)) m (by omega) (by rw [List.length_drop]; omega) wr HTR.out)
      have HZ : Hid (addV (insM (T.drop (j + 1)) m) = .tuple #[.int .i64 ((T.length : Int) - 1 - (j : Int)), .bool true]) := Lib.hid (by
        rw [hback]
        unfold addV
        simp only [List.length_drop, if_true]
        rw [show ((T.length - j : Nat) : Int) - 1 - ((0 : Nat) : Int) = (T.length : Int) - 1 - (j : Int) by omega])
      have HBK := Lib.hid hback
      clear hm hmat hback hjj
      go_wp2_with fail
      refine HADD.out.mono ?_
      rintro e w7 ⟨rfl, ht7, hb7⟩
      rw [HZ.out]
      rw [HBK.out] at ht7
      have HT7 := Lib.hid ht7
      have HB7 := Lib.hid (hbw.trans (hb7.below hbw.size HX6.out))
      clear ht7 hb7 d0 d1 d2 d3 d4 d5
      go_wp2_with fail
      go_roundw
      case rel => exact ⟨j, by go_num, by omega, HT7.out, HB7.out⟩
      case measure => simp only [Go.RowKit.intOf]; omega
    | zero =>
      have hjj : (((0 : Nat) : Int) - 1) = -1 := rfl
      rw [hjj]
      have ht := HTR.out
      rw [List.drop_zero, HXY.out] at ht
      have hsm := stepsP_moves X T
      have hsl := stepsP_len X T
      obtain ⟨S, hS⟩ : ∃ S, stepsP X T = S := ⟨_, rfl⟩
      rw [hS] at hsm hsl ht
      have HSM := Lib.hid hsm
      have HS6 := Lib.hid (HSR.out.addT ht)
      clear ht hS hsm HTR HSR HS5 hbw
      go_wp2_with fail
      refine (trows_v (g := x) (B := X) (R := Y) (S := S) (by omega) (HS6.out.tree (by simp))).mono ?_
      rintro e w7 ⟨A7, c7, rfl, h7, -, -, hb7⟩
      have HS7 := Lib.hid ((HS6.out.step hb7).addR h7)
      clear h7 hb7 HS6
      go_wp2_with fail
      refine (trows_v (g := g) (B := l) (R := Y) (S := stepsP l ms) (by omega) (HS7.out.tree (by simp))).mono ?_
      rintro e w8 ⟨A8, c8, rfl, h8, -, -, hb8⟩
      have HS8 := Lib.hid ((HS7.out.step hb8).addR h8)
      clear h8 hb8 HS7
      go_wp2_with fail
      refine (rsame_t (by unfold maxLen; omega) HRW.out (HS8.out.rows (by simp)) (HS8.out.rows (by simp))).mono ?_
      rintro e w9 ⟨rfl, hb9⟩
      have HS9 := Lib.hid (HS8.out.step hb9)
      clear hb9 HS8
      go_wp2_with fail
      refine (tlog_v (g := x) (B := X) (R := Y) HSM.out (by omega) (HS9.out.tree (by simp))).mono ?_
      rintro e w10 ⟨A10, c10, rfl, h10, -, -, hb10⟩
      have HS10 := Lib.hid ((HS9.out.step hb10).addM h10)
      clear h10 hb10 HS9
      go_wp2_with fail
      refine (rmsame_t (by unfold maxLen; omega) HMT.out (HS10.out.moves (by simp)) (HS10.out.moves (by simp))).mono ?_
      rintro e w11 ⟨rfl, hb11⟩
      have HS11 := Lib.hid (HS10.out.step hb11)
      clear hb11 HS10
      go_wp2_with fail
      refine (live16_c _).mono ?_
      rintro e wz ⟨rfl, hbz⟩
      go_wp2_with fail
      go_ret
      exact ⟨rfl, (HS11.out.step hbz).bel⟩
end replayParts
end Go.Proofs.Ytfeopchghpihoaa
