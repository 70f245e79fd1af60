/-
  The walk of ReplayTells.
-/
import Derived.Test.YtfeopchghpihoaaZs
import Derived.Test.YtfeopchghpihoaaQg
import Derived.Test.YtfeopchghpihoaaGa
namespace Go.Proofs.Ytfeopchghpihoaa
open Go.RowKit Go.IntWalk
open Gr
set_option maxRecDepth 100000
attribute [local go_sem] Oper.semAt_some

theorem rbef_t {c1 r1 c2 r2 : Int} {b : Bool} (h : befT c1 r1 c2 r2 = b) (w : World) :
    Calls Try.prog 25 #[.agg #[.int .i64 c1, .int .i64 r1], .agg #[.int .i64 c2, .int .i64 r2]] w fun e w' => e = .returned (.bool b) ∧ Below w.heap.size w w' := rbef_k h w
theorem any_take {l : List Mv} {x : Mv} {k : Nat} {m : Mv} (h : l[k]? = some m) : ((l.take (k + 1)).any fun y => timeEq y x) = (((l.take k).any fun y => timeEq y x) || timeEq m x) := by
  rw [List.take_add_one, h]; simp
theorem mayB_of {L : List Rw} (h : Tree L) : mayB L = true := (mayB_tree L).2 h

namespace replayTells
set_option maxHeartbeats 16000000 in
theorem walk (A1 A2 : Option Addr) (c1 c2 : Nat) (l : List Rw) (ms : List Mv) (hA1 : A1 = none → c1 = 0) (hc1 : l.length ≤ c1) (hl : l.length ≤ maxLen) (hM : Rows_ l) (hA2 : A2 = none → c2 = 0) (hc2 : ms.length ≤ c2) (hml : ms.length ≤ maxLen) (hMM : Moves_ ms) (x : Mv) (hx1 : rk (mw x) < 18446744073709551616) (hx2 : (nm (mw x)).length ≤ maxLen)
    (w : World) (ha1 : At w w.heap.size A1 (tvs l)) (ha2 : At w w.heap.size A2 (mvs ms)) :
    Calls Try.prog 5 #[.slice A1 l.length c1, .slice A2 ms.length c2, .agg #[.int .i64 (mc x), .int .i64 (mr x), .int .i64 (pa (mw x)), .int .i64 (ch (mw x)), .string (ba (nm (mw x))), .float .f64 (rk (mw x))]] w fun e w' => e = .returned (.bool true) ∧ Below w.heap.size w w' := by
  obtain ⟨w0, hw0⟩ : ∃ w0, w0 = w.alloc (.cells #[.int .i64 (mc x), .int .i64 (mr x), .int .i64 (pa (mw x)), .int .i64 (ch (mw x)), .string (ba (nm (mw x))), .float .f64 (rk (mw x))] 38) := ⟨_, rfl⟩
  have hb0 : Below w.heap.size w w0 := by rw [hw0]; exact (Below.refl w.heap.size w).alloc (Nat.le_refl _) _
  have hI : Is w0 w.heap.size 38 [.int .i64 (mc x), .int .i64 (mr x), .int .i64 (pa (mw x)), .int .i64 (ch (mw x)), .string (ba (nm (mw x))), .float .f64 (rk (mw x))] := by rw [hw0]; exact is_new w 38 _
  obtain ⟨G, hG⟩ : ∃ G, G = w.heap.size := ⟨_, rfl⟩
  rw [← hG] at hI
  have HS := Lib.hid (((((Bed.start w).addR ha1).addM ha2).step hb0).addB hI)
  have HW := Lib.hid hw0
  have HG := Lib.hid hG
  have HX1 := Lib.hid hx1
  have HX2 := Lib.hid hx2
  clear hw0 hb0 hI hG hx1 hx2
  have HA := Lib.hid hA1
  have HC := Lib.hid hc1
  have HA2 := Lib.hid hA2
  have HC2 := Lib.hid hc2
  have HM := Lib.hid hM
  have HMM := Lib.hid hMM
  have HL := Lib.hid hl
  have HML := Lib.hid hml
  unfold maxLen at hl hml
  clear ha1 ha2 hA1 hM hMM hc1 hA2 hc2
  by_cases hl40 : 40 < l.length
  · have hlz : (40 : Int) < (l.length : Int) := by omega
    have hd : decide ((40 : Int) < (l.length : Int)) = true := decide_eq_true hlz
    have hd2 : decide (40 < l.length) = true := decide_eq_true hl40
    go_enter Try.func5, Try.ntmps5
    go_wp2_with fail
    rw [← HW.out]
    refine (live16_c _).mono ?_
    rintro e w2 ⟨rfl, hb⟩
    go_wp2_with fail
    go_ret
    exact ⟨rfl, (HS.out.step hb).bel⟩
  have hlz : ¬ (40 : Int) < (l.length : Int) := by omega
  have hd : decide ((40 : Int) < (l.length : Int)) = false := decide_eq_false hlz
  have hd2 : decide (40 < l.length) = false := decide_eq_false hl40
  go_enter Try.func5, Try.ntmps5
  go_wp2_with fail
  rw [← HW.out, ← HG.out]
  clear HW HG
  refine (few_c A1 c1 l HL.out _ (HS.out.rows (by simp))).mono ?_
  rintro e w1 ⟨rfl, rfl⟩
  cases hf : few l with
  | false =>
    clear hf
    go_wp2_with fail
    refine (live16_c _).mono ?_
    rintro e wz ⟨rfl, hbz⟩
    go_wp2_with fail
    go_ret
    exact ⟨rfl, (HS.out.step hbz).bel⟩
  | true =>
  clear hf
  go_wp2_with fail
  refine (rmfew_c A2 c2 ms 40 HML.out (by decide) _ (HS.out.moves (by simp))).mono ?_
  rintro e w1 ⟨rfl, rfl⟩
  cases hf : fewM ms 40 with
  | false =>
    clear hf
    go_wp2_with fail
    refine (live16_c _).mono ?_
    rintro e wz ⟨rfl, hbz⟩
    go_wp2_with fail
    go_ret
    exact ⟨rfl, (HS.out.step hbz).bel⟩
  | true =>
  obtain ⟨hm40, -⟩ := fewM_in hf
  clear hf
  go_wp2_with fail
  refine (rmay_c A1 c1 l HL.out (fun r hr => (HM.out r hr).2) _ (HS.out.rows (by simp))).mono ?_
  rintro e w1 ⟨rfl, hb1⟩
  have HS1 := Lib.hid (HS.out.step hb1)
  clear hb1
  cases hmay : mayB l with
  | false =>
    clear hmay
    go_wp2_with fail
    refine (live16_c _).mono ?_
    rintro e wz ⟨rfl, hbz⟩
    go_wp2_with fail
    go_ret
    exact ⟨rfl, (HS1.out.step hbz).bel⟩
  | true =>
  have HTREE := Lib.hid ((mayB_tree l).1 hmay)
  clear hmay
  obtain ⟨q0, q1, q2, q3, q4, q5⟩ := box6 (m := x) (HS1.out.box (t := 38) (g := G) (vs := [.int .i64 (mc x), .int .i64 (mr x), .int .i64 (pa (mw x)), .int .i64 (ch (mw x)), .string (ba (nm (mw x))), .float .f64 (rk (mw x))]) (by simp))
  go_wp2_with fail
  refine (rmone_k rfl HX2.out _).mono ?_
  rintro e w2 ⟨rfl, hb2⟩
  have HS2 := Lib.hid (HS1.out.step hb2)
  clear hb2 HS1 q0 q1 q2 q3 q4 q5
  cases hone : oneM x with
  | false =>
    clear hone
    go_wp2_with fail
    refine (live16_c _).mono ?_
    rintro e wz ⟨rfl, hbz⟩
    go_wp2_with fail
    go_ret
    exact ⟨rfl, (HS2.out.step hbz).bel⟩
  | true =>
  have HONE := Lib.hid hone
  clear hone
  go_wp2_with fail
  go_loopw [7] (fun i wr => ∃ k : Nat, i = .int .i64 (k : Int) ∧ k ≤ ms.length ∧ (∀ m ∈ ms.take k, oneM m = true) ∧ Below w2.heap.size w2 wr) (fun i _ => ms.length - (Go.RowKit.intOf i).toNat)
  case atStart => exact ⟨0, rfl, Nat.zero_le _, fun m hm => (by cases hm), Below.refl _ _⟩
  case round =>
    obtain ⟨k, rfl, hk, hones, hbw⟩ := hrel
    have HON := Lib.hid hones
    have HSR := Lib.hid (HS2.out.step hbw)
    have HBW := Lib.hid hbw
    clear hones hbw
    by_cases hlt : k < ms.length
    · obtain ⟨m, hm⟩ := some_at hlt
      obtain ⟨b0, o0, e0, -, x0, x1, x2, x3, x4, x5⟩ := move_cells (HSR.out.moves (A := A2) (l := ms) (by simp)) hm
      subst e0
      have hk0 : (0 : Int) ≤ (k : Int) := by omega
      have hkl : (k : Int) < (ms.length : Int) := by omega
      have HMM2 := Lib.hid (HMM.out m (mem_at hm)).2
      have HTK := Lib.hid (show ms.take (k + 1) = ms.take k ++ [m] by rw [List.take_add_one, hm]; rfl)
      clear hm
      go_wp2_with fail
      refine (rmone_k rfl HMM2.out _).mono ?_
      rintro e w3 ⟨rfl, hb3⟩
      have HB3 := Lib.hid (HBW.out.trans (hb3.mono HBW.out.size))
      clear hb3 x0 x1 x2 x3 x4 x5
      cases hone : oneM m with
      | false =>
        clear hone
        go_wp2_with fail
        refine (live16_c _).mono ?_
        rintro e wz ⟨rfl, hbz⟩
        go_wp2_with fail
        go_ret
        exact ⟨rfl, (HS2.out.step (HB3.out.trans (hbz.mono HB3.out.size))).bel⟩
      | true =>
        have HO := Lib.hid hone
        clear hone
        go_wp2_with fail
        go_roundw
        case rel => exact ⟨k + 1, by go_num, by omega, by
          rw [HTK.out]
          intro y hy
          rcases List.mem_append.1 hy with h | h
          · exact HON.out y h
          · rw [List.mem_singleton.1 h]; exact HO.out, HB3.out⟩
        case measure => simp only [Go.RowKit.intOf]; omega
    · obtain rfl : k = ms.length := by omega
      have hon := HON.out
      rw [List.take_length] at hon
      obtain ⟨L, hL⟩ : ∃ L, uniM [] ms = L := ⟨_, rfl⟩
      have hasc : Asc L := by rw [← hL]; exact uniM_asc List.Pairwise.nil
      have honL : ∀ m ∈ L, oneM m = true := by rw [← hL]; exact uniM_one hon
      have hML : Moves_ L := by
        rw [← hL]; intro y hy
        rcases uniM_mem hy with h | h
        · cases h
        · exact HMM.out y h
      have hLl : L.length ≤ ms.length := by have := uniM_len ms []; rw [hL, List.length_nil] at this; omega
      have HASC := Lib.hid hasc
      have HONL := Lib.hid honL
      have HML' := Lib.hid hML
      have HL' := Lib.hid hL
      clear hon HON hL hasc honL hML HBW hlt hk
      go_wp2_with fail
      refine (all16_c A1 A2 c1 c2 l ms (by omega) (by omega) HA.out _ (HSR.out.rows (by simp)) (HSR.out.moves (by simp))).mono ?_
      rintro e w3 ⟨g, rfl, hg, ht, hb3⟩
      rw [HL'.out] at ht
      have hgw := Nat.le_trans HSR.out.bel.size hg
      have HGW := Lib.hid hgw
      have HS3 := Lib.hid ((HSR.out.step hb3).addT ht)
      clear hb3 ht hgw hg HSR HS2
      have hRl := allP_len l L
      have hSl := stepsP_len l L
      have HRR := Lib.hid (allP_rows HM.out HML'.out)
      have HSMM := Lib.hid (stepsP_moves l L)
      have HADD := Lib.hid fun W (h : TreeAt W g l (allP l L) (stepsP l L)) => tadd_c l L x (by omega) (by omega) W h
      obtain ⟨R, hR⟩ : ∃ R, allP l L = R := ⟨_, rfl⟩
      obtain ⟨S, hS⟩ : ∃ S, stepsP l L = S := ⟨_, rfl⟩
      have hs3 := HS3.out
      have hadd := HADD.out
      rw [hR] at hRl HRR hs3
      rw [hS] at hSl HSMM hs3
      simp only [hR, hS] at hadd
      have HS4 := Lib.hid hs3
      have HADD2 := Lib.hid hadd
      have HRe := Lib.hid hR
      clear hR hS hs3 hadd HS3 HADD
      go_wp2_with fail
      refine (trows_v (g := g) (B := l) (R := R) (S := S) (by omega) (HS4.out.tree (by simp))).mono ?_
      rintro e w4 ⟨A4, c4, rfl, h4, hn4, hc4, hb4⟩
      have HS5 := Lib.hid ((HS4.out.step hb4).addR h4)
      clear h4 hn4 hb4 HS4
      go_wp2_with fail
      refine (tlog_v (g := g) (B := l) (R := R) HSMM.out (by omega) (HS5.out.tree (by simp))).mono ?_
      rintro e w5 ⟨A5, c5, rfl, h5, hn5, hc5, hb5⟩
      have HS6 := Lib.hid ((HS5.out.step hb5).addM h5)
      clear h5 hn5 hb5 HS5
      go_wp2_with fail
      go_loopw [10, 11, 13] (fun b mt i wr => ∃ k : Nat, i = .int .i64 (k : Int) ∧ k ≤ L.length ∧ b = .int .i64 ((sinM (L.take k) (mc x) (mr x)).length : Int) ∧ mt = .bool ((L.take k).any fun y => timeEq y x) ∧ Below w5.heap.size w5 wr) (fun _ _ i _ => L.length - (Go.RowKit.intOf i).toNat)
      case atStart => exact ⟨0, rfl, Nat.zero_le _, rfl, rfl, Below.refl _ _⟩
      case round =>
        obtain ⟨k, rfl, hk, rfl, rfl, hbw⟩ := hrel
        by_cases hlt : k < L.length
        · obtain ⟨y, hy⟩ := some_at hlt
          have HSR := Lib.hid (HS6.out.step hbw)
          have hlat := HSR.out.moves (A := A5) (l := L) (by simp)
          obtain ⟨b0, o0, e0, -, x0, x1, -, -, -, -⟩ := move_cells hlat hy
          subst e0
          have hki : (0 : Int) ≤ (k : Int) := by omega
          have hkl : (k : Int) < (L.length : Int) := by omega
          obtain ⟨q0, q1, q2, q3, q4, q5⟩ := box6 (m := x) (HSR.out.box (t := 38) (g := G) (vs := [.int .i64 (mc x), .int .i64 (mr x), .int .i64 (pa (mw x)), .int .i64 (ch (mw x)), .string (ba (nm (mw x))), .float .f64 (rk (mw x))]) (by simp))
          have hsn : (sinM (L.take k) (mc x) (mr x)).length ≤ 40 := by have := sinM_len (L.take k) (mc x) (mr x); rw [List.length_take] at this; omega
          have HANY := Lib.hid (any_take (x := x) hy)
          have HY := Lib.hid hy
          clear hlat q2 q3 q4 q5
          obtain ⟨q, hqq⟩ : ∃ q, ((L.take k).any fun y => timeEq y x) = q := ⟨_, rfl⟩
          obtain ⟨n, hn⟩ : ∃ n, (sinM (L.take k) (mc x) (mr x)).length = n := ⟨_, rfl⟩
          rw [hqq, hn]
          rw [hn] at hsn
          have HN := Lib.hid hn
          clear hn
          cases hbf : bm x y with
          | true =>
            have HBF := Lib.hid hbf
            have HSY := Lib.hid (show ((sinM (L.take (k + 1)) (mc x) (mr x)).length : Int) = (n : Int) + 1 by rw [sinM_yes HY.out hbf, List.length_append, HN.out]; rfl)
            clear hbf
            go_wp2_with fail
            refine quiet_held (fun w' => Below wr.heap.size wr w') (by kernel_rfl) (by kernel_rfl) (Below.refl _ _).drew ?_
            repeat (first
              | go_big_quiet_skip
              | (go_big_quiet_want; go_big_quiet_op; go_big_quiet_on)
              | (go_big_quiet_want; apply Exists.intro; refine ⟨fun wq hq => ?_, ?_⟩; (focus (have r0 := keep_cell hq q0; have r1 := keep_cell hq q1; have r2 := keep_cell hq x0; have r3 := keep_cell hq x1; unfold Oper.quietAt; go_simp; all_goals (first | rfl | (refine (rbm_k (m := x) (x := y) HBF.out _).mono ?_; rintro e w5 ⟨rfl, hbn⟩; exact ⟨rfl, hq.trans (hbn.mono hq.size)⟩)))); simp only [Act.put, List.setIfInBounds_toArray, List.set_cons_zero, List.set_cons_succ]; go_big_quiet_on))
            refine wpQuiet_nil ?_
            intro wx hbx
            have HBX := Lib.hid (hbw.trans (hbx.mono hbw.size))
            have z0 := keep_cell hbx q0
            have z1 := keep_cell hbx q1
            have y0 := keep_cell hbx x0
            have y1 := keep_cell hbx x1
            clear q0 q1 x0 x1 hbx hbw
            cases q with
            | true =>
              have HQ := Lib.hid hqq
              clear hqq
              go_wp2_with fail
              refine quiet_held (fun w' => Below wx.heap.size wx w') (by kernel_rfl) (by kernel_rfl) (Below.refl _ _).drew ?_
              repeat (first
                | go_big_quiet_skip
                | (go_big_quiet_want; go_big_quiet_op; go_big_quiet_on)
                | (go_big_quiet_want; apply Exists.intro; refine ⟨fun wq hq => ?_, ?_⟩; (focus (have r0 := keep_cell hq z0; have r1 := keep_cell hq z1; have r2 := keep_cell hq y0; have r3 := keep_cell hq y1; unfold Oper.quietAt; go_simp; all_goals (first | rfl | exact ⟨rfl, rfl⟩))); simp only [Act.put, List.setIfInBounds_toArray, List.set_cons_zero, List.set_cons_succ]; go_big_quiet_on))
              refine wpQuiet_nil ?_
              intro wv hbv
              go_wp2_with fail
              go_roundw
              case rel => exact ⟨k + 1, by go_num, by omega, by rw [HSY.out], by rw [HANY.out, HQ.out, Bool.true_or], HBX.out.trans (hbv.mono HBX.out.size)⟩
              case measure => simp only [Go.RowKit.intOf]; omega
            | false =>
              have HQ := Lib.hid hqq
              clear hqq
              by_cases e1 : mc y = mc x
              case neg =>
                have HE := Lib.hid e1
                have HTE := Lib.hid (show timeEq y x = false by unfold timeEq; rw [decide_eq_false e1, Bool.false_and])
                clear e1
                go_wp2_with fail
                refine quiet_held (fun w' => Below wx.heap.size wx w') (by kernel_rfl) (by kernel_rfl) (Below.refl _ _).drew ?_
                repeat (first
                  | go_big_quiet_skip
                  | (go_big_quiet_want; go_big_quiet_op; go_big_quiet_on)
                  | (go_big_quiet_want; apply Exists.intro; refine ⟨fun wq hq => ?_, ?_⟩; (focus (have r0 := keep_cell hq z0; have r1 := keep_cell hq z1; have r2 := keep_cell hq y0; have r3 := keep_cell hq y1; unfold Oper.quietAt; go_simp; all_goals (first | rfl | (rw [if_neg HE.out]; exact ⟨rfl, rfl⟩)))); simp only [Act.put, List.setIfInBounds_toArray, List.set_cons_zero, List.set_cons_succ]; go_big_quiet_on))
                refine wpQuiet_nil ?_
                intro wv hbv
                go_wp2_with fail
                go_roundw
                case rel => exact ⟨k + 1, by go_num, by omega, by rw [HSY.out], by rw [HANY.out, HQ.out, HTE.out]; rfl, HBX.out.trans (hbv.mono HBX.out.size)⟩
                case measure => simp only [Go.RowKit.intOf]; omega
              have HE1 := Lib.hid e1
              clear e1
              by_cases e2 : mr y = mr x
              case neg =>
                have HE := Lib.hid e2
                have HTE := Lib.hid (show timeEq y x = false by unfold timeEq; rw [decide_eq_false e2, Bool.and_false])
                clear e2
                go_wp2_with fail
                refine quiet_held (fun w' => Below wx.heap.size wx w') (by kernel_rfl) (by kernel_rfl) (Below.refl _ _).drew ?_
                repeat (first
                  | go_big_quiet_skip
                  | (go_big_quiet_want; go_big_quiet_op; go_big_quiet_on)
                  | (go_big_quiet_want; apply Exists.intro; refine ⟨fun wq hq => ?_, ?_⟩; (focus (have r0 := keep_cell hq z0; have r1 := keep_cell hq z1; have r2 := keep_cell hq y0; have r3 := keep_cell hq y1; unfold Oper.quietAt; go_simp; all_goals (first | rfl | (rw [if_pos HE1.out, if_neg HE.out]; exact ⟨rfl, rfl⟩)))); simp only [Act.put, List.setIfInBounds_toArray, List.set_cons_zero, List.set_cons_succ]; go_big_quiet_on))
                refine wpQuiet_nil ?_
                intro wv hbv
                go_wp2_with fail
                go_roundw
                case rel => exact ⟨k + 1, by go_num, by omega, by rw [HSY.out], by rw [HANY.out, HQ.out, HTE.out]; rfl, HBX.out.trans (hbv.mono HBX.out.size)⟩
                case measure => simp only [Go.RowKit.intOf]; omega
              have HE := Lib.hid e2
              have HTE := Lib.hid (show timeEq y x = true from timeEq_iff.2 ⟨HE1.out, e2⟩)
              clear e2
              go_wp2_with fail
              refine quiet_held (fun w' => Below wx.heap.size wx w') (by kernel_rfl) (by kernel_rfl) (Below.refl _ _).drew ?_
              repeat (first
                | go_big_quiet_skip
                | (go_big_quiet_want; go_big_quiet_op; go_big_quiet_on)
                | (go_big_quiet_want; apply Exists.intro; refine ⟨fun wq hq => ?_, ?_⟩; (focus (have r0 := keep_cell hq z0; have r1 := keep_cell hq z1; have r2 := keep_cell hq y0; have r3 := keep_cell hq y1; unfold Oper.quietAt; go_simp; all_goals (first | rfl | (rw [if_pos HE1.out, if_pos HE.out]; exact ⟨rfl, rfl⟩)))); simp only [Act.put, List.setIfInBounds_toArray, List.set_cons_zero, List.set_cons_succ]; go_big_quiet_on))
              refine wpQuiet_nil ?_
              intro wv hbv
              go_wp2_with fail
              go_roundw
              case rel => exact ⟨k + 1, by go_num, by omega, by rw [HSY.out], by rw [HANY.out, HQ.out, HTE.out]; rfl, HBX.out.trans (hbv.mono HBX.out.size)⟩
              case measure => simp only [Go.RowKit.intOf]; omega
          | false =>
            have HBF := Lib.hid hbf
            have HSY := Lib.hid (show ((sinM (L.take (k + 1)) (mc x) (mr x)).length : Int) = (n : Int) by rw [sinM_no HY.out hbf, HN.out])
            clear hbf
            go_wp2_with fail
            refine quiet_held (fun w' => Below wr.heap.size wr w') (by kernel_rfl) (by kernel_rfl) (Below.refl _ _).drew ?_
            repeat (first
              | go_big_quiet_skip
              | (go_big_quiet_want; go_big_quiet_op; go_big_quiet_on)
              | (go_big_quiet_want; apply Exists.intro; refine ⟨fun wq hq => ?_, ?_⟩; (focus (have r0 := keep_cell hq q0; have r1 := keep_cell hq q1; have r2 := keep_cell hq x0; have r3 := keep_cell hq x1; unfold Oper.quietAt; go_simp; all_goals (first | rfl | (refine (rbm_k (m := x) (x := y) HBF.out _).mono ?_; rintro e w5 ⟨rfl, hbn⟩; exact ⟨rfl, hq.trans (hbn.mono hq.size)⟩)))); simp only [Act.put, List.setIfInBounds_toArray, List.set_cons_zero, List.set_cons_succ]; go_big_quiet_on))
            refine wpQuiet_nil ?_
            intro wx hbx
            have HBX := Lib.hid (hbw.trans (hbx.mono hbw.size))
            have z0 := keep_cell hbx q0
            have z1 := keep_cell hbx q1
            have y0 := keep_cell hbx x0
            have y1 := keep_cell hbx x1
            clear q0 q1 x0 x1 hbx hbw
            cases q with
            | true =>
              have HQ := Lib.hid hqq
              clear hqq
              go_wp2_with fail
              refine quiet_held (fun w' => Below wx.heap.size wx w') (by kernel_rfl) (by kernel_rfl) (Below.refl _ _).drew ?_
              repeat (first
                | go_big_quiet_skip
                | (go_big_quiet_want; go_big_quiet_op; go_big_quiet_on)
                | (go_big_quiet_want; apply Exists.intro; refine ⟨fun wq hq => ?_, ?_⟩; (focus (have r0 := keep_cell hq z0; have r1 := keep_cell hq z1; have r2 := keep_cell hq y0; have r3 := keep_cell hq y1; unfold Oper.quietAt; go_simp; all_goals (first | rfl | exact ⟨rfl, rfl⟩))); simp only [Act.put, List.setIfInBounds_toArray, List.set_cons_zero, List.set_cons_succ]; go_big_quiet_on))
              refine wpQuiet_nil ?_
              intro wv hbv
              go_wp2_with fail
              go_roundw
              case rel => exact ⟨k + 1, by go_num, by omega, by rw [HSY.out], by rw [HANY.out, HQ.out, Bool.true_or], HBX.out.trans (hbv.mono HBX.out.size)⟩
              case measure => simp only [Go.RowKit.intOf]; omega
            | false =>
              have HQ := Lib.hid hqq
              clear hqq
              by_cases e1 : mc y = mc x
              case neg =>
                have HE := Lib.hid e1
                have HTE := Lib.hid (show timeEq y x = false by unfold timeEq; rw [decide_eq_false e1, Bool.false_and])
                clear e1
                go_wp2_with fail
                refine quiet_held (fun w' => Below wx.heap.size wx w') (by kernel_rfl) (by kernel_rfl) (Below.refl _ _).drew ?_
                repeat (first
                  | go_big_quiet_skip
                  | (go_big_quiet_want; go_big_quiet_op; go_big_quiet_on)
                  | (go_big_quiet_want; apply Exists.intro; refine ⟨fun wq hq => ?_, ?_⟩; (focus (have r0 := keep_cell hq z0; have r1 := keep_cell hq z1; have r2 := keep_cell hq y0; have r3 := keep_cell hq y1; unfold Oper.quietAt; go_simp; all_goals (first | rfl | (rw [if_neg HE.out]; exact ⟨rfl, rfl⟩)))); simp only [Act.put, List.setIfInBounds_toArray, List.set_cons_zero, List.set_cons_succ]; go_big_quiet_on))
                refine wpQuiet_nil ?_
                intro wv hbv
                go_wp2_with fail
                go_roundw
                case rel => exact ⟨k + 1, by go_num, by omega, by rw [HSY.out], by rw [HANY.out, HQ.out, HTE.out]; rfl, HBX.out.trans (hbv.mono HBX.out.size)⟩
                case measure => simp only [Go.RowKit.intOf]; omega
              have HE1 := Lib.hid e1
              clear e1
              by_cases e2 : mr y = mr x
              case neg =>
                have HE := Lib.hid e2
                have HTE := Lib.hid (show timeEq y x = false by unfold timeEq; rw [decide_eq_false e2, Bool.and_false])
                clear e2
                go_wp2_with fail
                refine quiet_held (fun w' => Below wx.heap.size wx w') (by kernel_rfl) (by kernel_rfl) (Below.refl _ _).drew ?_
                repeat (first
                  | go_big_quiet_skip
                  | (go_big_quiet_want; go_big_quiet_op; go_big_quiet_on)
                  | (go_big_quiet_want; apply Exists.intro; refine ⟨fun wq hq => ?_, ?_⟩; (focus (have r0 := keep_cell hq z0; have r1 := keep_cell hq z1; have r2 := keep_cell hq y0; have r3 := keep_cell hq y1; unfold Oper.quietAt; go_simp; all_goals (first | rfl | (rw [if_pos HE1.out, if_neg HE.out]; exact ⟨rfl, rfl⟩)))); simp only [Act.put, List.setIfInBounds_toArray, List.set_cons_zero, List.set_cons_succ]; go_big_quiet_on))
                refine wpQuiet_nil ?_
                intro wv hbv
                go_wp2_with fail
                go_roundw
                case rel => exact ⟨k + 1, by go_num, by omega, by rw [HSY.out], by rw [HANY.out, HQ.out, HTE.out]; rfl, HBX.out.trans (hbv.mono HBX.out.size)⟩
                case measure => simp only [Go.RowKit.intOf]; omega
              have HE := Lib.hid e2
              have HTE := Lib.hid (show timeEq y x = true from timeEq_iff.2 ⟨HE1.out, e2⟩)
              clear e2
              go_wp2_with fail
              refine quiet_held (fun w' => Below wx.heap.size wx w') (by kernel_rfl) (by kernel_rfl) (Below.refl _ _).drew ?_
              repeat (first
                | go_big_quiet_skip
                | (go_big_quiet_want; go_big_quiet_op; go_big_quiet_on)
                | (go_big_quiet_want; apply Exists.intro; refine ⟨fun wq hq => ?_, ?_⟩; (focus (have r0 := keep_cell hq z0; have r1 := keep_cell hq z1; have r2 := keep_cell hq y0; have r3 := keep_cell hq y1; unfold Oper.quietAt; go_simp; all_goals (first | rfl | (rw [if_pos HE1.out, if_pos HE.out]; exact ⟨rfl, rfl⟩)))); simp only [Act.put, List.setIfInBounds_toArray, List.set_cons_zero, List.set_cons_succ]; go_big_quiet_on))
              refine wpQuiet_nil ?_
              intro wv hbv
              go_wp2_with fail
              go_roundw
              case rel => exact ⟨k + 1, by go_num, by omega, by rw [HSY.out], by rw [HANY.out, HQ.out, HTE.out]; rfl, HBX.out.trans (hbv.mono HBX.out.size)⟩
              case measure => simp only [Go.RowKit.intOf]; omega
        · obtain rfl : k = L.length := by omega
          have HSZ := Lib.hid (HS6.out.step hbw)
          clear hbw hlt hk HS6
          rename World => w6
          rw [List.take_length]
          have hsn := sinM_len L (mc x) (mr x)
          have HIB := Lib.hid (ins_behind x HASC.out)
          have HIM := Lib.hid (ins_met L x)
          have HIO := Lib.hid (ins_old (l := L) (x := x))
          have hil := insM_len L x
          obtain ⟨z, hz, hzz⟩ := addV_is (insM L x)
          obtain ⟨N, hN⟩ : ∃ N, (insM L x).1 = N := ⟨_, rfl⟩
          have honN : ∀ m ∈ N, oneM m = true := by rw [← hN]; exact insM_one HONL.out HONE.out
          have hMN : Moves_ N := by
            rw [← hN]; intro y hy
            rcases insM_mem hy with h | h
            · exact HML'.out y h
            · rw [h]; exact ⟨HX1.out, HX2.out⟩
          obtain ⟨n, hn⟩ : ∃ n, (sinM L (mc x) (mr x)).length = n := ⟨_, rfl⟩
          obtain ⟨q, hqq⟩ : ∃ q, (L.any fun y => timeEq y x) = q := ⟨_, rfl⟩
          have him := HIM.out
          have hib := HIB.out
          have hio := HIO.out
          rw [hqq] at him
          rw [hn] at hib hsn
          rw [hN] at hib hio hil hzz
          rw [hqq, hn]
          have HIO2 := Lib.hid hio
          have hTN := all_tree (l := l) (ms := N) HTREE.out honN (by omega)
          have HRN := Lib.hid (allP_rows HM.out hMN)
          have hRNl := allP_len l N
          have hSNl := stepsP_len l N
          have HSMN := Lib.hid (stepsP_moves l N)
          have HMY := Lib.hid (mayB_of hTN)
          have HNN := Lib.hid hN
          have HZ : Hid (addV (insM L x) = .tuple #[.int .i64 (if q then 0 else (n : Int)), .bool (!q)]) := Lib.hid (by
            rw [hz, him]
            cases q with
            | true => rw [hzz, him]; rfl
            | false => rw [hzz, him]; show Value.tuple #[.int .i64 ((N.length : Int) - 1 - _), _] = _; rw [hib (by rw [him]; rfl)]; rfl)
          have HQN : Hid (q = true → N = L) := Lib.hid fun hq => hio (by rw [him, hq]; rfl)
          clear hN honN hMN hn hqq him hib hio hz hzz hTN HIB HIM HIO HIO2
          obtain ⟨q0, q1, q2, q3, q4, q5⟩ := box6 (m := x) (HSZ.out.box (t := 38) (g := G) (vs := [.int .i64 (mc x), .int .i64 (mr x), .int .i64 (pa (mw x)), .int .i64 (ch (mw x)), .string (ba (nm (mw x))), .float .f64 (rk (mw x))]) (by simp))
          go_wp2_with fail
          refine (HADD2.out _ (HSZ.out.tree (g := g) (B := l) (R := R) (S := S) (by simp))).mono ?_
          rintro e w7 ⟨rfl, ht7, hb7⟩
          rw [HNN.out] at ht7
          rw [HZ.out]
          have htz : TreeAt w6 g l R S := HSZ.out.tree (by simp)
          have hwas := rows_but (HSZ.out.rows (A := A4) (l := R) (by simp)) hb7 htz
          have HB7 := Lib.hid (HSZ.out.bel.trans (hb7.below HSZ.out.bel.size HGW.out))
          obtain ⟨X, hX⟩ : ∃ X, allP l N = X := ⟨_, rfl⟩
          obtain ⟨S2, hS2⟩ : ∃ S2, stepsP l N = S2 := ⟨_, rfl⟩
          have hrn := HRN.out
          have hmy := HMY.out
          have hsm := HSMN.out
          have hre := HRe.out
          rw [hX] at ht7 hRNl hrn hmy
          rw [hS2] at ht7 hSNl hsm
          have HS7 := Lib.hid (((Bed.new HB7.out).addR hwas).addT ht7)
          have HRN2 := Lib.hid hrn
          have HMY2 := Lib.hid hmy
          have HSM2 := Lib.hid hsm
          have HXR : Hid (q = true → X = R) := Lib.hid fun hq => by rw [← hX, ← hre, HQN.out hq]
          clear hX hS2 hrn hmy hsm hre ht7 hb7 hwas htz q0 q1 q2 q3 q4 q5 HRN HMY HSMN HSZ HADD2
          cases q with
          | false =>
            dsimp only [Bool.not_false, Bool.false_eq_true, if_false]
            go_wp2_with fail
            refine (trows_v (g := g) (B := l) (R := X) (S := S2) (by omega) (HS7.out.tree (by simp))).mono ?_
            rintro e w8 ⟨A8, c8, rfl, h8, hn8, hc8, hb8⟩
            have HS8 := Lib.hid ((HS7.out.step hb8).addR h8)
            clear h8 hn8 hb8
            go_wp2_with fail
            refine (may_c A8 c8 X (by omega) (fun r hr => (HRN2.out r hr).2) _ (HS8.out.rows (by simp))).mono ?_
            rintro e w9 ⟨rfl, hb9⟩
            rw [HMY2.out]
            have HS9 := Lib.hid (HS8.out.step hb9)
            clear hb9 HS8
            go_wp2_with fail
            refine (tlog_v (g := g) (B := l) (R := X) HSM2.out (by omega) (HS9.out.tree (by simp))).mono ?_
            rintro e w10 ⟨A10, c10, rfl, h10, hn10, hc10, hb10⟩
            have HS10 := Lib.hid (HS9.out.step hb10)
            clear h10 hn10 hc10 hb10 HS9
            go_wp2_with fail
            refine (tsteps_n (g := g) (B := l) (R := X) hSNl (by omega) (HS10.out.tree (by simp))).mono ?_
            rintro e w11 ⟨A11, c11, rfl, h11, hb11⟩
            have HS11 := Lib.hid (HS10.out.step hb11)
            clear h11 hb11 HS10
            go_wp2_with fail
            refine (live16_c _).mono ?_
            rintro e wz ⟨rfl, hbz⟩
            go_wp2_with fail
            go_ret
            exact ⟨rfl, (HS11.out.step hbz).bel⟩
          | true =>
            obtain rfl := HXR.out rfl
            dsimp only [Bool.not_true, if_true]
            go_wp2_with fail
            refine (trows_v (g := g) (B := l) (R := X) (S := S2) (by omega) (HS7.out.tree (by simp))).mono ?_
            rintro e w8 ⟨A9, c9, rfl, h9, hn9, hc9, hb9⟩
            have HS8 := Lib.hid ((HS7.out.step hb9).addR h9)
            clear h9 hn9 hb9
            go_wp2_with fail
            refine (rsame_t (by unfold maxLen; omega) HRN2.out (HS8.out.rows (by simp)) (HS8.out.rows (by simp))).mono ?_
            rintro e w9 ⟨rfl, hb10⟩
            have HS9' := Lib.hid (HS8.out.step hb10)
            clear hb10 HS8 HS7
            go_wp2_with fail
            refine (trows_v (g := g) (B := l) (R := X) (S := S2) (by omega) (HS9'.out.tree (by simp))).mono ?_
            rintro e w8 ⟨A8, c8, rfl, h8, hn8, hc8, hb8⟩
            have HS8 := Lib.hid ((HS9'.out.step hb8).addR h8)
            clear h8 hn8 hb8
            go_wp2_with fail
            refine (may_c A8 c8 X (by omega) (fun r hr => (HRN2.out r hr).2) _ (HS8.out.rows (by simp))).mono ?_
            rintro e w9 ⟨rfl, hb9⟩
            rw [HMY2.out]
            have HS9 := Lib.hid (HS8.out.step hb9)
            clear hb9 HS8
            go_wp2_with fail
            refine (tlog_v (g := g) (B := l) (R := X) HSM2.out (by omega) (HS9.out.tree (by simp))).mono ?_
            rintro e w10 ⟨A10, c10, rfl, h10, hn10, hc10, hb10⟩
            have HS10 := Lib.hid (HS9.out.step hb10)
            clear h10 hn10 hc10 hb10 HS9
            go_wp2_with fail
            refine (tsteps_n (g := g) (B := l) (R := X) hSNl (by omega) (HS10.out.tree (by simp))).mono ?_
            rintro e w11 ⟨A11, c11, rfl, h11, hb11⟩
            have HS11 := Lib.hid (HS10.out.step hb11)
            clear h11 hb11 HS10
            go_wp2_with fail
            refine (live16_c _).mono ?_
            rintro e wz ⟨rfl, hbz⟩
            go_wp2_with fail
            go_ret
            exact ⟨rfl, (HS11.out.step hbz).bel⟩
end replayTells
end Go.Proofs.Ytfeopchghpihoaa
