/-
  The walk of ReplayOrder.
-/
import Derived.Test.YtfeopchghpihoaaZs
namespace Go.Proofs.Ytfeopchghpihoaa
open Go.RowKit Go.IntWalk
open Gr
set_option maxRecDepth 100000
attribute [local go_sem] Oper.semAt_some

namespace replayOrder
set_option maxHeartbeats 16000000 in
theorem walk (A1 A2 : Option Addr) (c1 c2 : Nat) (l : List Rw) (ms : List Mv) (hA1 : A1 = none → c1 = 0) (hc1 : l.length ≤ c1) (hl : l.length ≤ maxLen) (hM : Rows_ l) (hA2 : A2 = none → c2 = 0) (hc2 : ms.length ≤ c2) (hml : ms.length ≤ maxLen) (hMM : Moves_ ms) (A3 : Option Addr) (c3 : Nat) (ps : List Int) (hp : ps.length ≤ maxLen)
    (w : World) (ha1 : At w w.heap.size A1 (tvs l)) (ha2 : At w w.heap.size A2 (mvs ms)) (ha3 : At w w.heap.size A3 (ivs ps)) :
    Calls Try.prog 4 #[.slice A1 l.length c1, .slice A2 ms.length c2, .slice A3 ps.length c3] w fun e w' => e = .returned (.bool true) ∧ Below w.heap.size w w' := by
  have HS := Lib.hid ((((Bed.start w).addR ha1).addM ha2).addI ha3)
  have HA := Lib.hid hA1
  have HC := Lib.hid hc1
  have HA2 := Lib.hid hA2
  have HC2 := Lib.hid hc2
  have HM := Lib.hid hM
  have HMM := Lib.hid hMM
  have HL := Lib.hid hl
  have HML := Lib.hid hml
  unfold maxLen at hl hml hp
  clear ha1 ha2 ha3 hA1 hM hMM hc1 hA2 hc2
  by_cases hl40 : 40 < l.length
  · have hlz : (40 : Int) < (l.length : Int) := by omega
    have hd : decide ((40 : Int) < (l.length : Int)) = true := decide_eq_true hlz
    have hd2 : decide (40 < l.length) = true := decide_eq_true hl40
    go_enter Try.func4, Try.ntmps4
    go_wp2_with fail
    refine (live16_c _).mono ?_
    rintro e w2 ⟨rfl, hb⟩
    go_wp2_with fail
    go_ret
    exact ⟨rfl, hb⟩
  have hlz : ¬ (40 : Int) < (l.length : Int) := by omega
  have hd : decide ((40 : Int) < (l.length : Int)) = false := decide_eq_false hlz
  have hd2 : decide (40 < l.length) = false := decide_eq_false hl40
  go_enter Try.func4, Try.ntmps4
  go_wp2_with fail
  refine (few_c A1 c1 l HL.out _ (HS.out.rows (by simp))).mono ?_
  rintro e w1 ⟨rfl, rfl⟩
  cases hf : few l with
  | false =>
    clear hf
    go_wp2_with fail
    refine (live16_c _).mono ?_
    rintro e wz ⟨rfl, hbz⟩
    go_wp2_with fail
    go_ret
    exact ⟨rfl, hbz⟩
  | true =>
  clear hf
  go_wp2_with fail
  refine (rmfew_c A2 c2 ms 40 HML.out (by decide) _ (HS.out.moves (by simp))).mono ?_
  rintro e w1 ⟨rfl, rfl⟩
  cases hf : fewM ms 40 with
  | false =>
    clear hf
    go_wp2_with fail
    refine (live16_c _).mono ?_
    rintro e wz ⟨rfl, hbz⟩
    go_wp2_with fail
    go_ret
    exact ⟨rfl, hbz⟩
  | true =>
  obtain ⟨hm40, -⟩ := fewM_in hf
  clear hf
  go_wp2_with fail
  refine (rmay_c A1 c1 l HL.out (fun r hr => (HM.out r hr).2) _ (HS.out.rows (by simp))).mono ?_
  rintro e w1 ⟨rfl, hb1⟩
  have HS1 := Lib.hid (HS.out.step hb1)
  clear hb1
  cases hmay : mayB l with
  | false =>
    clear hmay
    go_wp2_with fail
    refine (live16_c _).mono ?_
    rintro e wz ⟨rfl, hbz⟩
    go_wp2_with fail
    go_ret
    exact ⟨rfl, (HS1.out.step hbz).bel⟩
  | true =>
  have HTREE := Lib.hid ((mayB_tree l).1 hmay)
  clear hmay
  by_cases hp60 : 60 < ps.length
  · have hpi : (60 : Int) < (ps.length : Int) := by omega
    have hpd : decide ((60 : Int) < (ps.length : Int)) = true := decide_eq_true hpi
    have hpd2 : decide (60 < ps.length) = true := decide_eq_true hp60
    go_wp2_with fail
    refine (live16_c _).mono ?_
    rintro e wz ⟨rfl, hbz⟩
    go_wp2_with fail
    go_ret
    exact ⟨rfl, (HS1.out.step hbz).bel⟩
  have hpi : ¬ (60 : Int) < (ps.length : Int) := by omega
  have hpd : decide ((60 : Int) < (ps.length : Int)) = false := decide_eq_false hpi
  have hpd2 : decide (60 < ps.length) = false := decide_eq_false hp60
  go_wp2_with fail
  go_loopw [7] (fun i wr => ∃ j : Nat, i = .int .i64 (j : Int) ∧ j ≤ ms.length ∧ (∀ i', i' < j → ∀ k', k' < i' → PairOk ms i' k') ∧ Below w1.heap.size w1 wr) (fun i _ => ms.length - (Go.RowKit.intOf i).toNat)
  case atStart => exact ⟨0, rfl, Nat.zero_le _, fun i hi => absurd hi (Nat.not_lt_zero _), Below.refl _ _⟩
  case round =>
    obtain ⟨j, rfl, hj, hpo, hbw⟩ := hrel
    have HPO := Lib.hid hpo
    clear hpo
    by_cases hlt : j < ms.length
    · obtain ⟨x, hx⟩ := some_at hlt
      have HX := Lib.hid hx
      have hj0 : (0 : Int) ≤ (j : Int) := by omega
      have hjl : (j : Int) < (ms.length : Int) := by omega
      have HBW0 := Lib.hid hbw
      clear hx hbw
      go_wp2_with fail
      rename World => vr
      go_loopw [8] (fun i wr => ∃ k : Nat, i = .int .i64 (k : Int) ∧ k ≤ j ∧ (∀ k', k' < k → PairOk ms j k') ∧ Below w1.heap.size w1 wr) (fun i _ => j - (Go.RowKit.intOf i).toNat)
      case atStart => exact ⟨0, rfl, Nat.zero_le _, fun k hk => absurd hk (Nat.not_lt_zero _), HBW0.out⟩
      case round =>
        obtain ⟨k, rfl, hk, hpi, hbw⟩ := hrel
        have HPI := Lib.hid hpi
        clear hpi
        by_cases hlk : k < j
        · obtain ⟨y, hy⟩ := some_at (show k < ms.length by omega)
          have hsr := HS1.out.step hbw
          obtain ⟨b0, o0, rfl, -⟩ := move_cells (hsr.moves (A := A2) (l := ms) (by simp)) HX.out
          have HSR := Lib.hid hsr
          have HY := Lib.hid hy
          have hk0 : (0 : Int) ≤ (k : Int) := by omega
          have hkl : (k : Int) < (ms.length : Int) := by omega
          have hx64 := (HMM.out x (mem_at HX.out)).1
          have hy64 := (HMM.out y (mem_at hy)).1
          clear hy hsr
          by_cases h1 : mc x = mc y
          case neg =>
            have HH1 := Lib.hid h1
            clear h1
            go_wp2_with fail
            refine quiet_held (fun w' => Below wr.heap.size wr w') (by kernel_rfl) (by kernel_rfl) (Below.refl _ _).drew ?_
            repeat (first
              | go_big_quiet_skip
              | (go_big_quiet_want; go_big_quiet_op; go_big_quiet_on)
              | (go_big_quiet_want; apply Exists.intro; refine ⟨fun wq hq => ?_, ?_⟩; (focus (obtain ⟨b9, o9, e9, -, d0, d1, d2, d3, d4, d5⟩ := move_cells ((HSR.out.step hq).moves (A := some ⟨b0, o0, none⟩) (l := ms) (by simp)) HX.out; cases e9; obtain ⟨b9, o9, e9, -, g0, g1, g2, g3, g4, g5⟩ := move_cells ((HSR.out.step hq).moves (A := some ⟨b0, o0, none⟩) (l := ms) (by simp)) HY.out; cases e9; unfold Oper.quietAt; go_simp; all_goals (first | rfl | (rw [if_neg HH1.out]; exact ⟨rfl, rfl⟩)))); simp only [Act.put, List.setIfInBounds_toArray, List.set_cons_zero, List.set_cons_succ]; go_big_quiet_on))
            refine wpQuiet_nil ?_
            intro wx hbx
            have hbwx := hbw.trans (hbx.mono hbw.size)
            go_wp2_with fail
            go_roundw
            case rel =>
              refine ⟨k + 1, by go_num, by omega, fun k' hk' => ?_, hbwx⟩
              by_cases h : k' < k
              · exact HPI.out k' h
              · obtain rfl : k' = k := by omega
                exact pair_no HX.out HY.out (time_no1 HH1.out)
            case measure => simp only [Go.RowKit.intOf]; omega
          by_cases h2 : mr x = mr y
          case neg =>
            have HH1 := Lib.hid h1
            have HH2 := Lib.hid h2
            clear h1 h2
            go_wp2_with fail
            refine quiet_held (fun w' => Below wr.heap.size wr w') (by kernel_rfl) (by kernel_rfl) (Below.refl _ _).drew ?_
            repeat (first
              | go_big_quiet_skip
              | (go_big_quiet_want; go_big_quiet_op; go_big_quiet_on)
              | (go_big_quiet_want; apply Exists.intro; refine ⟨fun wq hq => ?_, ?_⟩; (focus (obtain ⟨b9, o9, e9, -, d0, d1, d2, d3, d4, d5⟩ := move_cells ((HSR.out.step hq).moves (A := some ⟨b0, o0, none⟩) (l := ms) (by simp)) HX.out; cases e9; obtain ⟨b9, o9, e9, -, g0, g1, g2, g3, g4, g5⟩ := move_cells ((HSR.out.step hq).moves (A := some ⟨b0, o0, none⟩) (l := ms) (by simp)) HY.out; cases e9; unfold Oper.quietAt; go_simp; all_goals (first | rfl | (rw [if_pos HH1.out, if_neg HH2.out]; exact ⟨rfl, rfl⟩)))); simp only [Act.put, List.setIfInBounds_toArray, List.set_cons_zero, List.set_cons_succ]; go_big_quiet_on))
            refine wpQuiet_nil ?_
            intro wx hbx
            have hbwx := hbw.trans (hbx.mono hbw.size)
            go_wp2_with fail
            go_roundw
            case rel =>
              refine ⟨k + 1, by go_num, by omega, fun k' hk' => ?_, hbwx⟩
              by_cases h : k' < k
              · exact HPI.out k' h
              · obtain rfl : k' = k := by omega
                exact pair_no HX.out HY.out (time_no2 HH2.out)
            case measure => simp only [Go.RowKit.intOf]; omega
          have HH1 := Lib.hid h1
          have HH2 := Lib.hid h2
          clear h1 h2
          cases hal : alikeM x y with
          | true =>
            have HAL := Lib.hid hal
            clear hal
            go_wp2_with fail
            refine quiet_held (fun w' => Below wr.heap.size wr w') (by kernel_rfl) (by kernel_rfl) (Below.refl _ _).drew ?_
            repeat (first
              | go_big_quiet_skip
              | (go_big_quiet_want; go_big_quiet_op; go_big_quiet_on)
              | (go_big_quiet_want; apply Exists.intro; refine ⟨fun wq hq => ?_, ?_⟩; (focus (obtain ⟨b9, o9, e9, -, d0, d1, d2, d3, d4, d5⟩ := move_cells ((HSR.out.step hq).moves (A := some ⟨b0, o0, none⟩) (l := ms) (by simp)) HX.out; cases e9; obtain ⟨b9, o9, e9, -, g0, g1, g2, g3, g4, g5⟩ := move_cells ((HSR.out.step hq).moves (A := some ⟨b0, o0, none⟩) (l := ms) (by simp)) HY.out; cases e9; unfold Oper.quietAt; go_simp; all_goals (first | rfl | (rw [if_pos HH1.out, if_pos HH2.out]; exact ⟨rfl, rfl⟩) | (with_reducible refine (rmalike_k HAL.out hx64 hy64 _).mono ?_; rintro e w5 ⟨rfl, hbn⟩; exact ⟨rfl, hq.trans (hbn.mono hq.size)⟩)))); simp only [Act.put, List.setIfInBounds_toArray, List.set_cons_zero, List.set_cons_succ]; go_big_quiet_on))
            refine wpQuiet_nil ?_
            intro wx hbx
            have hbwx := hbw.trans (hbx.mono hbw.size)
            go_wp2_with fail
            go_roundw
            case rel =>
              refine ⟨k + 1, by go_num, by omega, fun k' hk' => ?_, hbwx⟩
              by_cases h : k' < k
              · exact HPI.out k' h
              · obtain rfl : k' = k := by omega
                exact pair_yes HX.out HY.out HAL.out
            case measure => simp only [Go.RowKit.intOf]; omega
          | false =>
            have HAL := Lib.hid hal
            clear hal
            go_wp2_with fail
            refine quiet_held (fun w' => Below wr.heap.size wr w') (by kernel_rfl) (by kernel_rfl) (Below.refl _ _).drew ?_
            repeat (first
              | go_big_quiet_skip
              | (go_big_quiet_want; go_big_quiet_op; go_big_quiet_on)
              | (go_big_quiet_want; apply Exists.intro; refine ⟨fun wq hq => ?_, ?_⟩; (focus (obtain ⟨b9, o9, e9, -, d0, d1, d2, d3, d4, d5⟩ := move_cells ((HSR.out.step hq).moves (A := some ⟨b0, o0, none⟩) (l := ms) (by simp)) HX.out; cases e9; obtain ⟨b9, o9, e9, -, g0, g1, g2, g3, g4, g5⟩ := move_cells ((HSR.out.step hq).moves (A := some ⟨b0, o0, none⟩) (l := ms) (by simp)) HY.out; cases e9; unfold Oper.quietAt; go_simp; all_goals (first | rfl | (rw [if_pos HH1.out, if_pos HH2.out]; exact ⟨rfl, rfl⟩) | (with_reducible refine (rmalike_k HAL.out hx64 hy64 _).mono ?_; rintro e w5 ⟨rfl, hbn⟩; exact ⟨rfl, hq.trans (hbn.mono hq.size)⟩)))); simp only [Act.put, List.setIfInBounds_toArray, List.set_cons_zero, List.set_cons_succ]; go_big_quiet_on))
            refine wpQuiet_nil ?_
            intro wx hbx
            have hbwx := hbw.trans (hbx.mono hbw.size)
            go_wp2_with fail
            refine (live16_c _).mono ?_
            rintro e wz ⟨rfl, hbz⟩
            go_wp2_with fail
            go_ret
            exact ⟨rfl, (HS1.out.step (hbwx.trans (hbz.mono hbwx.size))).bel⟩
        · obtain rfl : k = j := by omega
          go_wp2_with fail
          go_roundw
          case rel =>
            refine ⟨k + 1, by go_num, by omega, fun i' hi' k' hk' => ?_, hbw⟩
            by_cases h : i' < k
            · exact HPO.out i' h k' hk'
            · obtain rfl : i' = k := by omega
              exact HPI.out k' hk'
          case measure => simp only [Go.RowKit.intOf]; omega
    · obtain rfl : j = ms.length := by omega
      have HAL := Lib.hid (pairs_all HPO.out)
      have HSB := Lib.hid (HS1.out.step hbw)
      clear HPO hbw hlt hj HS1 HS
      go_wp2_with fail
      rename World => vr
      go_loopw [9, 10] (fun v i wr => ∃ (k : Nat) (F : List Mv), i = .int .i64 (k : Int) ∧ k ≤ ps.length ∧ F.length ≤ k ∧ (∀ x ∈ F, x ∈ ms) ∧ wr.ownsRow vr.heap.size 38 6 v F.length (mvs F) ∧ Below vr.heap.size vr wr) (fun _ i _ => ps.length - (Go.RowKit.intOf i).toNat)
      case atStart => exact ⟨0, [], rfl, Nat.zero_le _, Nat.le_refl _, (fun x hx => by cases hx), World.ownsRow_nil _ _ _ _, Below.refl _ _⟩
      case round =>
        obtain ⟨k, F, rfl, hk, hFk, hFl, hown, hbw⟩ := hrel
        obtain ⟨Av, cv, rfl, -, -, -⟩ := own_at hown
        have HOWN := Lib.hid hown
        have HFL := Lib.hid hFl
        have HSR := Lib.hid (HSB.out.step hbw)
        clear hown hFl
        by_cases hlk : k < ps.length
        · obtain ⟨p, hp⟩ := some_at hlk
          have hpat := HSR.out.ints (A := A3) (l := ps) (by simp)
          obtain ⟨b1, o1, e1, -, p0⟩ := ints_at hpat hp
          subst e1
          have hk0 : (0 : Int) ≤ (k : Int) := by omega
          have hkl : (k : Int) < (ps.length : Int) := by omega
          clear hp hpat
          by_cases hp0 : 0 ≤ p
          case neg =>
            have hd : decide (0 ≤ p) = false := decide_eq_false hp0
            go_wp2_with fail
            go_roundw
            case rel => exact ⟨k + 1, F, by go_num, by omega, by omega, HFL.out, HOWN.out, hbw⟩
            case measure => simp only [Go.RowKit.intOf]; omega
          by_cases hpl : p < (ms.length : Int)
          case neg =>
            have hd : decide (0 ≤ p) = true := decide_eq_true hp0
            go_wp2_with fail
            go_roundw
            case rel => exact ⟨k + 1, F, by go_num, by omega, by omega, HFL.out, HOWN.out, hbw⟩
            case measure => simp only [Go.RowKit.intOf]; omega
          obtain ⟨q, rfl⟩ : ∃ q : Nat, p = (q : Int) := ⟨p.toNat, by omega⟩
          obtain ⟨m, hm⟩ := some_at (show q < ms.length by omega)
          have hmat := HSR.out.moves (A := A2) (l := ms) (by simp)
          obtain ⟨b2, o2, e2, -, d0, d1, d2, d3, d4, d5⟩ := move_cells hmat hm
          subst e2
          have HF2 : Hid (∀ x ∈ F ++ [m], x ∈ ms) := Lib.hid (fun x hx => by
            rcases List.mem_append.1 hx with h | h
            · exact HFL.out x h
            · rw [List.mem_singleton.1 h]; exact mem_at hm)
          have hs1 := hbw.size
          clear hm hmat
          go_wp2_with (at_builtin; refine append_optM _ rfl _ _ rfl vr.heap.size _ _ _ rfl (HOWN.out.alloc (.cells #[.int .i64 (mc m), .int .i64 (mr m), .int .i64 (pa (mw m)), .int .i64 (ch (mw m)), .string (ba (nm (mw m))), .float .f64 (rk (mw m))] 38)) (some ⟨wr.heap.size, 0, none⟩) 1 [m] rfl (fun h => by cases h) (by simp) (wr.heap.size + 1) (at_boxM wr m) (by simp <;> omega) (by simp <;> omega) ?_)
          intro v2 w2 hown2 hgrow
          have hb2 := below_own (hbw.alloc hbw.size (.cells #[.int .i64 (mc m), .int .i64 (mr m), .int .i64 (pa (mw m)), .int .i64 (ch (mw m)), .string (ba (nm (mw m))), .float .f64 (rk (mw m))] 38)) (by simp <;> omega) (HOWN.out.alloc (.cells #[.int .i64 (mc m), .int .i64 (mr m), .int .i64 (pa (mw m)), .int .i64 (ch (mw m)), .string (ba (nm (mw m))), .float .f64 (rk (mw m))] 38)) hgrow
          have HO2 := Lib.hid hown2
          obtain ⟨Ax, cx, rfl, -, -, -⟩ := own_at hown2
          clear hown2 hgrow
          go_wp2_with fail
          go_roundw
          case rel => exact ⟨k + 1, F ++ [m], by go_num, by omega, by rw [List.length_append]; simp; omega, HF2.out, by rw [List.length_append]; exact HO2.out, hb2⟩
          case measure => simp only [Go.RowKit.intOf]; omega
        · obtain rfl : k = ps.length := by omega
          go_wp2_with fail
          have HBA := Lib.hid hbw
          clear hbw hlk hk
          rename World => va
          go_loopw [9, 11] (fun v i wr => ∃ (n : Nat) (F2 : List Mv), i = .int .i64 ((n : Int) - 1) ∧ n ≤ ms.length ∧ F2.length ≤ F.length + (ms.length - n) ∧ (∀ x ∈ F2, x ∈ ms) ∧ (∀ j, n ≤ j → ∀ x, ms[j]? = some x → x ∈ F2) ∧ wr.ownsRow vr.heap.size 38 6 v F2.length (mvs F2) ∧ Below vr.heap.size vr wr) (fun _ i _ => (Go.RowKit.intOf i + 1).toNat)
          case atStart => exact ⟨ms.length, F, rfl, Nat.le_refl _, by omega, HFL.out, (fun j hj x hx => by rw [List.getElem?_eq_none hj] at hx; cases hx), HOWN.out, HBA.out⟩
          case round =>
            clear HOWN HFL HSR HBA
            obtain ⟨n, F2, rfl, hn, hFn, hFl, hcov, hown, hbw⟩ := hrel
            obtain ⟨Av, cv, rfl, hFat, -, -⟩ := own_at hown
            have HOWN := Lib.hid hown
            have HFL := Lib.hid hFl
            have HCOV := Lib.hid hcov
            have HSR := Lib.hid (HSB.out.step hbw)
            have HFAT := Lib.hid hFat
            clear hown hFl hcov hFat
            cases n with
            | succ k =>
              have hkk : (((k + 1 : Nat) : Int) - 1) = (k : Int) := by omega
              rw [hkk]
              obtain ⟨m, hm⟩ := some_at (show k < ms.length by omega)
              have hmat := HSR.out.moves (A := A2) (l := ms) (by simp)
              obtain ⟨b2, o2, e2, -, d0, d1, d2, d3, d4, d5⟩ := move_cells hmat hm
              subst e2
              have hk0 : (0 : Int) ≤ (k : Int) := by omega
              have hkl : (k : Int) < (ms.length : Int) := by omega
              have HF2 : Hid (∀ x ∈ F2 ++ [m], x ∈ ms) := Lib.hid (fun x hx => by
                rcases List.mem_append.1 hx with h | h
                · exact HFL.out x h
                · rw [List.mem_singleton.1 h]; exact mem_at hm)
              have HC2' : Hid (∀ j, k ≤ j → ∀ x, ms[j]? = some x → x ∈ F2 ++ [m]) := Lib.hid (fun j hj x hx => by
                rcases Nat.eq_or_lt_of_le hj with h | h
                · subst h; rw [hm] at hx; cases hx; exact List.mem_append_right _ (List.mem_singleton_self _)
                · exact List.mem_append_left _ (HCOV.out j h x hx))
              have hs1 := hbw.size
              clear hm hmat
              go_wp2_with (at_builtin; refine append_optM _ rfl _ _ rfl vr.heap.size _ _ _ rfl (HOWN.out.alloc (.cells #[.int .i64 (mc m), .int .i64 (mr m), .int .i64 (pa (mw m)), .int .i64 (ch (mw m)), .string (ba (nm (mw m))), .float .f64 (rk (mw m))] 38)) (some ⟨wr.heap.size, 0, none⟩) 1 [m] rfl (fun h => by cases h) (by simp) (wr.heap.size + 1) (at_boxM wr m) (by simp <;> omega) (by simp <;> omega) ?_)
              intro v2 w2 hown2 hgrow
              have hb2 := below_own (hbw.alloc hbw.size (.cells #[.int .i64 (mc m), .int .i64 (mr m), .int .i64 (pa (mw m)), .int .i64 (ch (mw m)), .string (ba (nm (mw m))), .float .f64 (rk (mw m))] 38)) (by simp <;> omega) (HOWN.out.alloc (.cells #[.int .i64 (mc m), .int .i64 (mr m), .int .i64 (pa (mw m)), .int .i64 (ch (mw m)), .string (ba (nm (mw m))), .float .f64 (rk (mw m))] 38)) hgrow
              have HO2 := Lib.hid hown2
              obtain ⟨Ax, cx, rfl, -, -, -⟩ := own_at hown2
              clear hown2 hgrow
              go_wp2_with fail
              go_roundw
              case rel => exact ⟨k, F2 ++ [m], by go_num, by omega, by rw [List.length_append]; simp; omega, HF2.out, HC2'.out, by rw [List.length_append]; exact HO2.out, hb2⟩
              case measure => simp only [Go.RowKit.intOf]; omega
            | zero =>
              have hkk : (((0 : Nat) : Int) - 1) = -1 := rfl
              rw [hkk]
              have hal := HAL.out
              have hcv := HCOV.out
              have hsame := order_any hal HFL.out (fun x hx => by
                obtain ⟨j, hj, e⟩ := List.mem_iff_getElem.1 hx
                exact hcv j (Nat.zero_le _) x (by rw [List.getElem?_eq_getElem hj, e]))
              have hasc : Asc (uniM [] ms) := uniM_asc List.Pairwise.nil
              have hmu : Moves_ (uniM [] ms) := fun y hy => by
                rcases uniM_mem hy with h | h
                · cases h
                · exact HMM.out y h
              have hmv : Moves_ (uniM [] F2) := fun y hy => by
                rcases uniM_mem hy with h | h
                · cases h
                · exact HMM.out y (HFL.out y h)
              have hul := uniM_len ms []
              have hvl := uniM_len F2 []
              rw [List.length_nil] at hul hvl
              have HSF := Lib.hid (HSR.out.addM HFAT.out)
              have HALL1 := Lib.hid fun W h1 h2 => all16_c A1 A2 c1 c2 l ms (by omega) (by omega) HA.out W h1 h2
              have HALL2 := Lib.hid fun W h1 h2 => all16_c A1 Av c1 cv l F2 (by omega) (by omega) HA.out W h1 h2
              obtain ⟨U, hU⟩ : ∃ U, uniM [] ms = U := ⟨_, rfl⟩
              obtain ⟨V, hV⟩ : ∃ V, uniM [] F2 = V := ⟨_, rfl⟩
              have hall1 := HALL1.out
              have hall2 := HALL2.out
              simp only [hU] at hall1 hul hsame hasc hmu
              simp only [hV] at hall2 hvl hsame hmv
              have hsr := allP_same (sameP_refl l) hsame
              have hss := stepsP_same (sameP_refl l) hsame
              have hr1 := allP_rows HM.out hmu
              have hr2 := allP_rows HM.out hmv
              have ht1 := stepsP_ok HM.out hmu
              have ht2 := stepsP_ok HM.out hmv
              have hl1 := allP_len l U
              have hl2 := allP_len l V
              have hl3 := Nat.le_of_eq (stepsP_len l U)
              have hl4 := Nat.le_of_eq (stepsP_len l V)
              have hm1 := stepsP_moves l U
              have hm2 := stepsP_moves l V
              obtain ⟨R1, hR1⟩ : ∃ R, allP l U = R := ⟨_, rfl⟩
              obtain ⟨R2, hR2⟩ : ∃ R, allP l V = R := ⟨_, rfl⟩
              obtain ⟨S1, hS1⟩ : ∃ S, stepsP l U = S := ⟨_, rfl⟩
              obtain ⟨S2, hS2⟩ : ∃ S, stepsP l V = S := ⟨_, rfl⟩
              simp only [hR1, hS1] at hall1 hsr hss hr1 ht1 hl1 hl3 hm1
              simp only [hR2, hS2] at hall2 hsr hss hr2 ht2 hl2 hl4 hm2
              have GA1 := Lib.hid hall1
              have GA2 := Lib.hid hall2
              have GS := Lib.hid hsame
              have GR := Lib.hid hsr
              have GT := Lib.hid hss
              have GASC := Lib.hid hasc
              have GMU := Lib.hid hmu
              have GMV := Lib.hid hmv
              have GR1 := Lib.hid hr1
              have GR2 := Lib.hid hr2
              have GT1 := Lib.hid ht1
              have GT2 := Lib.hid ht2
              have GM1 := Lib.hid hm1
              have GM2 := Lib.hid hm2
              have GX := Lib.hid hR1
              clear hall1 hall2 hsame hsr hss hasc hmu hmv hr1 hr2 ht1 ht2 hm1 hm2 hR1 hR2 hS1 hS2 hU hV HALL1 HALL2 hal hcv HOWN HFL HCOV HSR HFAT hbw HAL HSB
              go_wp2_with fail
              refine (GA1.out _ (HSF.out.rows (by simp)) (HSF.out.moves (by simp))).mono ?_
              rintro e w3 ⟨g1, rfl, -, ht, hb3⟩
              have HS3 := Lib.hid ((HSF.out.step hb3).addT ht)
              clear ht hb3 HSF
              go_wp2_with fail
              refine (GA2.out _ (HS3.out.rows (by simp)) (HS3.out.moves (by simp))).mono ?_
              rintro e w4 ⟨g2, rfl, -, ht, hb4⟩
              have HS4 := Lib.hid ((HS3.out.step hb4).addT ht)
              clear ht hb4 HS3
              go_wp2_with fail
              refine (trows_v (g := g1) (B := l) (R := R1) (S := S1) (by omega) (HS4.out.tree (by simp))).mono ?_
              rintro e w5 ⟨A5, c5, rfl, h5, -, -, hb5⟩
              have HS5 := Lib.hid ((HS4.out.step hb5).addR h5)
              clear h5 hb5 HS4
              go_wp2_with fail
              refine (trows_v (g := g2) (B := l) (R := R2) (S := S2) (by omega) (HS5.out.tree (by simp))).mono ?_
              rintro e w6 ⟨A6, c6, rfl, h6, -, -, hb6⟩
              have HS6 := Lib.hid ((HS5.out.step hb6).addR h6)
              clear h6 hb6 HS5
              go_wp2_with fail
              refine (rsame_q GR.out (by unfold maxLen; omega) (by unfold maxLen; omega) GR1.out GR2.out (HS6.out.rows (by simp)) (HS6.out.rows (by simp))).mono ?_
              rintro e w7 ⟨rfl, hb7⟩
              have HS7 := Lib.hid (HS6.out.step hb7)
              clear hb7 HS6
              go_wp2_with fail
              refine (tlog_v (g := g1) (B := l) (R := R1) GM1.out (by omega) (HS7.out.tree (by simp))).mono ?_
              rintro e w8 ⟨A8, c8, rfl, h8, -, -, hb8⟩
              have HS8 := Lib.hid ((HS7.out.step hb8).addM h8)
              clear h8 hb8 HS7
              go_wp2_with fail
              refine (tlog_v (g := g2) (B := l) (R := R2) GM2.out (by omega) (HS8.out.tree (by simp))).mono ?_
              rintro e w9 ⟨A9, c9, rfl, h9, -, -, hb9⟩
              have HS9 := Lib.hid ((HS8.out.step hb9).addM h9)
              clear h9 hb9 HS8
              go_wp2_with fail
              refine (rmsame_q GS.out (by unfold maxLen; omega) (by unfold maxLen; omega) GMU.out GMV.out (HS9.out.moves (by simp)) (HS9.out.moves (by simp))).mono ?_
              rintro e w10 ⟨rfl, hb10⟩
              have HS10 := Lib.hid (HS9.out.step hb10)
              clear hb10 HS9
              go_wp2_with fail
              refine (tsteps_v (g := g1) (B := l) (R := R1) (S := S1) (by omega) (HS10.out.tree (by simp))).mono ?_
              rintro e w11 ⟨A11, c11, rfl, h11, hb11⟩
              have HS11 := Lib.hid ((HS10.out.step hb11).addS h11)
              clear h11 hb11 HS10
              go_wp2_with fail
              refine (tsteps_v (g := g2) (B := l) (R := R2) (S := S2) (by omega) (HS11.out.tree (by simp))).mono ?_
              rintro e w12 ⟨A12, c12, rfl, h12, hb12⟩
              have HS12 := Lib.hid ((HS11.out.step hb12).addS h12)
              clear h12 hb12 HS11
              go_wp2_with fail
              refine (rpsame_q GT.out (by unfold maxLen; omega) (by unfold maxLen; omega) GT1.out GT2.out (HS12.out.steps (by simp)) (HS12.out.steps (by simp))).mono ?_
              rintro e w13 ⟨rfl, hb13⟩
              have HS13 := Lib.hid (HS12.out.step hb13)
              clear hb13 HS12
              go_wp2_with fail
              refine (tlog_v (g := g1) (B := l) (R := R1) GM1.out (by omega) (HS13.out.tree (by simp))).mono ?_
              rintro e w14 ⟨A14, c14, rfl, h14, hn14, hc14, hb14⟩
              have HS14 := Lib.hid ((HS13.out.step hb14).addM h14)
              clear h14 hn14 hb14 HS13
              go_wp2_with fail
              go_loopw [15] (fun i wr => ∃ n : Nat, i = .int .i64 (n : Int) ∧ 1 ≤ n ∧ (n = 1 ∨ n ≤ U.length) ∧ Below w14.heap.size w14 wr) (fun i _ => U.length + 1 - (Go.RowKit.intOf i).toNat)
              case atStart => exact ⟨1, rfl, Nat.le_refl _, .inl rfl, Below.refl _ _⟩
              case round =>
                obtain ⟨n, rfl, hn1, hj, hbr⟩ := hrel
                have HSR := Lib.hid (HS14.out.step hbr)
                by_cases hlj : n < U.length
                · obtain ⟨j, hjn⟩ : ∃ j, n = j + 1 := ⟨n - 1, by omega⟩
                  obtain ⟨x, hx⟩ := some_at (show j < U.length by omega)
                  obtain ⟨y, hy⟩ := some_at hlj
                  have hb := asc_bm GASC.out hx (by rw [← hjn]; exact hy)
                  have hmat := HSR.out.moves (A := A14) (l := U) (by simp)
                  obtain ⟨b3, o3, e3, -⟩ := move_cells hmat hx
                  subst e3
                  have HUr := Lib.hid hmat
                  have HX := Lib.hid hx
                  have HY := Lib.hid hy
                  have HB := Lib.hid hb
                  have hw1 : IntKind.i64.wrap ((n : Int) - 1) = (j : Int) := by rw [show (n : Int) - 1 = (j : Int) by omega]; exact IntWalk.i64_in _ (by omega)
                  have hj0 : (0 : Int) ≤ (j : Int) := by omega
                  have hjl : (j : Int) < (U.length : Int) := by omega
                  have hj1 : (0 : Int) ≤ (n : Int) := by omega
                  have hjl1 : (n : Int) < (U.length : Int) := by omega
                  have HJN := Lib.hid hjn
                  clear hx hy hb hjn hmat
                  go_wp2_with fail
                  refine quiet_held (fun w' => Below wr.heap.size wr w') (by kernel_rfl) (by kernel_rfl) (Below.refl _ _).drew ?_
                  repeat (first
                    | go_big_quiet_skip
                    | (simp only [hw1])
                    | (go_big_quiet_want; go_big_quiet_op; go_big_quiet_on)
                    | (go_big_quiet_want; apply Exists.intro; refine ⟨fun wq hq => ?_, ?_⟩; (focus (obtain ⟨b9, o9, e9, -, d0, d1, d2, d3, d4, d5⟩ := move_cells (HUr.out.keep hq) HX.out; cases e9; obtain ⟨b9, o9, e9, -, g0, g1, g2, g3, g4, g5⟩ := move_cells (HUr.out.keep hq) HY.out; cases e9; unfold Oper.quietAt; go_simp; all_goals (first | rfl | (refine (rbm_k (m := x) (x := y) HB.out _).mono ?_; rintro e w5 ⟨rfl, hbn⟩; exact ⟨rfl, hq.trans (hbn.mono hq.size)⟩)))); simp only [Act.put, List.setIfInBounds_toArray, List.set_cons_zero, List.set_cons_succ]; go_big_quiet_on))
                  refine wpQuiet_nil ?_
                  intro wx hbx
                  go_wp2_with fail
                  go_roundw
                  case rel => exact ⟨n + 1, by go_num, by omega, .inr (by omega), hbr.trans (hbx.mono hbr.size)⟩
                  case measure => simp only [Go.RowKit.intOf]; omega
                · have hnl : ¬ ((n : Int) < (U.length : Int)) := by omega
                  clear hbr
                  go_wp2_with fail
                  refine (trows_v (g := g1) (B := l) (R := R1) (S := S1) (by omega) (HSR.out.tree (by simp))).mono ?_
                  rintro e w15 ⟨A15, c15, rfl, h15, -, -, hb15⟩
                  have HS15 := Lib.hid ((HSR.out.step hb15).addR h15)
                  clear h15 hb15 HSR HS14
                  go_wp2_with fail
                  refine (mall_v (ms := U) rfl GX.out (by omega) HA.out HC.out (HS15.out.rows (by simp)) (HS15.out.moves (by simp))).mono ?_
                  rintro e w16 ⟨A16, c16, rfl, h16, -, -, hb16⟩
                  have HS16 := Lib.hid ((HS15.out.step hb16).addR h16)
                  clear h16 hb16 HS15
                  go_wp2_with fail
                  refine (rsame_t (by unfold maxLen; omega) GR1.out (HS16.out.rows (by simp)) (HS16.out.rows (by simp))).mono ?_
                  rintro e w17 ⟨rfl, hb17⟩
                  have HS17 := Lib.hid (HS16.out.step hb17)
                  clear hb17 HS16
                  go_wp2_with fail
                  refine (live16_c _).mono ?_
                  rintro e wz ⟨rfl, hbz⟩
                  go_wp2_with fail
                  go_ret
                  exact ⟨rfl, (HS17.out.step hbz).bel⟩
end replayOrder
end Go.Proofs.Ytfeopchghpihoaa
