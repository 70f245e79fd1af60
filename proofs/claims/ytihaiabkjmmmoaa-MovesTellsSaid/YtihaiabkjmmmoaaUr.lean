/-
  The walk of MovesOrder.
-/
import Derived.Test.YtihaiabkjmmmoaaUq
namespace Go.Proofs.Ytihaiabkjmmmoaa
open Go.RowKit Go.IntWalk
open Wd Fl
set_option maxRecDepth 100000
attribute [local go_sem] Oper.semAt_some

/-- two of one time are alike, at two places -/
def PairOk (l : List Mv) (i k : Nat) : Prop := ∀ x y, l[i]? = some x → l[k]? = some y → timeEq x y = true → alikeM x y = true
theorem pairs_all {l : List Mv} (h : ∀ i, i < l.length → ∀ k, k < i → PairOk l i k) : ∀ x ∈ l, ∀ y ∈ l, timeEq x y = true → alikeM x y = true := by
  intro x hx y hy ht
  obtain ⟨i, hi, ei⟩ := List.mem_iff_getElem.1 hx
  obtain ⟨k, hk, ek⟩ := List.mem_iff_getElem.1 hy
  have hxi : l[i]? = some x := by rw [List.getElem?_eq_getElem hi, ei]
  have hyk : l[k]? = some y := by rw [List.getElem?_eq_getElem hk, ek]
  rcases Nat.lt_trichotomy i k with hik | rfl | hik
  · have ht2 : timeEq y x = true := by rw [timeEq_iff] at ht ⊢; exact ⟨ht.1.symm, ht.2.symm⟩
    exact alikeM_symm (h k hk i hik y x hyk hxi ht2)
  · rw [hxi] at hyk
    cases hyk
    exact alikeM_refl x
  · exact h i hi k hik x y hxi hyk ht
theorem pair_no {l : List Mv} {i k : Nat} {x y : Mv} (hx : l[i]? = some x) (hy : l[k]? = some y) (h : timeEq x y = false) : PairOk l i k := fun x' y' hx' hy' ht => by
  rw [hx] at hx'; rw [hy] at hy'; cases hx'; cases hy'
  rw [h] at ht; cases ht
theorem pair_yes {l : List Mv} {i k : Nat} {x y : Mv} (hx : l[i]? = some x) (hy : l[k]? = some y) (h : alikeM x y = true) : PairOk l i k := fun x' y' hx' hy' _ => by
  rw [hx] at hx'; rw [hy] at hy'; cases hx'; cases hy'
  exact h
theorem order_same {l F : List Mv} (hal : ∀ x ∈ l, ∀ y ∈ l, timeEq x y = true → alikeM x y = true) (hF : Asc F) (hFl : ∀ x ∈ F, x ∈ l) : sameM (uniM F l) (uniM [] l) = true := by
  refine sameM_of (uniM_asc hF) (uniM_asc List.Pairwise.nil) (fun x hx => ?_) (fun y hy => ?_)
  · have hxl : x ∈ l := by rcases uniM_mem hx with h | h; exact hFl x h; exact h
    obtain ⟨y, hy, ht⟩ := uniM_time (a := []) hxl
    have hyl : y ∈ l := by
      rcases uniM_mem hy with h | h
      · cases h
      · exact h
    exact ⟨y, hy, alikeM_symm (hal y hyl x hxl ht)⟩
  · have hyl : y ∈ l := by
      rcases uniM_mem hy with h | h
      · cases h
      · exact h
    exact uniM_time (a := F) hyl
theorem order_old {l F : List Mv} (hFl : ∀ x ∈ F, x ∈ l) : uniM (uniM [] l) F = uniM [] l := uniM_old fun x hx => uniM_time (a := []) (hFl x hx)
theorem uniM_moves {a b : List Mv} (ha : Moves_ a) (hb : Moves_ b) : Moves_ (uniM a b) := fun x hx => by
  rcases uniM_mem hx with h | h
  · exact ha x h
  · exact hb x h
theorem asc_bm {l : List Mv} (h : Asc l) {i : Nat} {x y : Mv} (hx : l[i]? = some x) (hy : l[i + 1]? = some y) : bm x y = true := by
  obtain ⟨h1, e1⟩ := List.getElem?_eq_some_iff.1 hx
  obtain ⟨h2, e2⟩ := List.getElem?_eq_some_iff.1 hy
  rw [bm_iff, ← e1, ← e2]
  exact List.pairwise_iff_getElem.1 h i (i + 1) h1 h2 (by omega)
theorem ints_at {w : World} {B k : Nat} {A : Option Addr} {l : List Int} {x : Int} (h : At w B A (ivs l)) (hk : l[k]? = some x) : ∃ b off, A = some ⟨b, off, none⟩ ∧ b < B ∧ w.cell? ⟨b, off + k, none⟩ = some (.int .i64 x) := h k _ (ivs_at hk)

namespace movesOrder
set_option maxHeartbeats 16000000 in
theorem walk (A A1 : Option Addr) (cap cap1 : Nat) (l : List Mv) (ps : List Int) (hA : A = none → cap = 0) (hcap : l.length ≤ cap) (hl : l.length ≤ maxLen) (hM : Moves_ l) (hp : ps.length ≤ maxLen) (w : World) (hc : At w w.heap.size A (mvs l)) (hc1 : At w w.heap.size A1 (ivs ps)) :
    Calls Try.prog 6 #[.slice A l.length cap, .slice A1 ps.length cap1] w fun e w' => e = .returned (.bool true) ∧ Below w.heap.size w w' := by
  have HC := Lib.hid hc
  have HP := Lib.hid hc1
  have HA := Lib.hid hA
  have HM := Lib.hid hM
  have HL := Lib.hid hl
  have HCAP := Lib.hid hcap
  unfold maxLen at hp
  clear hc hc1 hA hM hl hcap
  cases hf : fewM l 40 with
  | false =>
    have HF := Lib.hid hf
    clear hf
    go_enter Try.func6, Try.ntmps6
    go_wp2_with fail
    refine (rmfew_k 40 HF.out HL.out (by omega) HC.out _ rfl).mono ?_
    rintro e w1 ⟨rfl, rfl⟩
    go_wp2_with fail
    refine (live13_c _).mono ?_
    rintro e w2 ⟨rfl, hb⟩
    go_wp2_with fail
    go_ret
    exact ⟨rfl, hb⟩
  | true =>
    obtain ⟨hl40, -⟩ := fewM_in hf
    have HF := Lib.hid hf
    clear hf
    by_cases hlong : 80 < ps.length
    · have hli : (80 : Int) < (ps.length : Int) := by omega
      go_enter Try.func6, Try.ntmps6
      go_wp2_with fail
      refine (rmfew_k 40 HF.out HL.out (by omega) HC.out _ rfl).mono ?_
      rintro e w1 ⟨rfl, rfl⟩
      go_wp2_with fail
      refine (live13_c _).mono ?_
      rintro e w2 ⟨rfl, hb⟩
      go_wp2_with fail
      go_ret
      exact ⟨rfl, hb⟩
    · have hli : ¬ (80 : Int) < (ps.length : Int) := by omega
      go_enter Try.func6, Try.ntmps6
      go_wp2_with fail
      refine (rmfew_k 40 HF.out HL.out (by omega) HC.out _ rfl).mono ?_
      rintro e w1 ⟨rfl, rfl⟩
      go_wp2_with fail
      go_loopw [5] (fun i wr => ∃ j : Nat, i = .int .i64 (j : Int) ∧ j ≤ l.length ∧ (∀ i', i' < j → ∀ k', k' < i' → PairOk l i' k') ∧ Below w.heap.size w wr) (fun i _ => l.length - (intOf i).toNat)
      case atStart => exact ⟨0, rfl, Nat.zero_le _, fun i hi => absurd hi (Nat.not_lt_zero _), Below.refl _ _⟩
      case round =>
        obtain ⟨j, rfl, hj, hpo, hbw⟩ := hrel
        have HPO := Lib.hid hpo
        clear hpo
        by_cases hlt : j < l.length
        · obtain ⟨x, hx⟩ := some_at hlt
          have HX := Lib.hid hx
          have hj0 : (0 : Int) ≤ (j : Int) := by omega
          have hjl : (j : Int) < (l.length : Int) := by omega
          have HBW0 := Lib.hid hbw
          clear hx hbw
          go_wp2_with fail
          rename World => vr
          go_loopw [6] (fun i wr => ∃ k : Nat, i = .int .i64 (k : Int) ∧ k ≤ j ∧ (∀ k', k' < k → PairOk l j k') ∧ Below w.heap.size w wr) (fun i _ => j - (intOf i).toNat)
          case atStart => exact ⟨0, rfl, Nat.zero_le _, fun k hk => absurd hk (Nat.not_lt_zero _), HBW0.out⟩
          case round =>
            obtain ⟨k, rfl, hk, hpi, hbw⟩ := hrel
            have HPI := Lib.hid hpi
            clear hpi
            by_cases hlk : k < j
            · obtain ⟨y, hy⟩ := some_at (show k < l.length by omega)
              have hcr := HC.out.keep hbw
              obtain ⟨b0, o0, rfl, -⟩ := move_cells hcr HX.out
              have HCr := Lib.hid hcr
              have HY := Lib.hid hy
              have hk0 : (0 : Int) ≤ (k : Int) := by omega
              have hkl : (k : Int) < (l.length : Int) := by omega
              have hx64 := (HM.out x (mem_at HX.out)).1
              have hy64 := (HM.out y (mem_at hy)).1
              clear hy hcr
              by_cases h1 : mc x = mc y
              case neg =>
                have HH1 := Lib.hid h1
                clear h1
                go_wp2_with fail
                refine quiet_held (fun w' => Below wr.heap.size wr w') (by kernel_rfl) (by kernel_rfl) (Below.refl _ _).drew ?_
                repeat (first
                  | go_big_quiet_skip
                  | (go_big_quiet_want; go_big_quiet_op; go_big_quiet_on)
                  | (go_big_quiet_want; apply Exists.intro; refine ⟨fun wq hq => ?_, ?_⟩; (focus (obtain ⟨b9, o9, e9, -, d0, d1, d2, d3, d4, d5⟩ := move_cells (HCr.out.keep hq) HX.out; cases e9; obtain ⟨b9, o9, e9, -, g0, g1, g2, g3, g4, g5⟩ := move_cells (HCr.out.keep hq) HY.out; cases e9; unfold Oper.quietAt; go_simp; all_goals (first | rfl | (rw [if_neg HH1.out]; exact ⟨rfl, rfl⟩)))); simp only [Act.put, List.setIfInBounds_toArray, List.set_cons_zero, List.set_cons_succ]; go_big_quiet_on))
                refine wpQuiet_nil ?_
                intro wx hbx
                have hbwx := hbw.trans (hbx.mono hbw.size)
                go_wp2_with fail
                go_roundw
                case rel =>
                  refine ⟨k + 1, by go_num, by omega, fun k' hk' => ?_, hbwx⟩
                  by_cases h : k' < k
                  · exact HPI.out k' h
                  · obtain rfl : k' = k := by omega
                    exact pair_no HX.out HY.out (time_no1 HH1.out)
                case measure => simp only [intOf]; omega
              by_cases h2 : mr x = mr y
              case neg =>
                have HH1 := Lib.hid h1
                have HH2 := Lib.hid h2
                clear h1 h2
                go_wp2_with fail
                refine quiet_held (fun w' => Below wr.heap.size wr w') (by kernel_rfl) (by kernel_rfl) (Below.refl _ _).drew ?_
                repeat (first
                  | go_big_quiet_skip
                  | (go_big_quiet_want; go_big_quiet_op; go_big_quiet_on)
                  | (go_big_quiet_want; apply Exists.intro; refine ⟨fun wq hq => ?_, ?_⟩; (focus (obtain ⟨b9, o9, e9, -, d0, d1, d2, d3, d4, d5⟩ := move_cells (HCr.out.keep hq) HX.out; cases e9; obtain ⟨b9, o9, e9, -, g0, g1, g2, g3, g4, g5⟩ := move_cells (HCr.out.keep hq) HY.out; cases e9; unfold Oper.quietAt; go_simp; all_goals (first | rfl | (rw [if_pos HH1.out, if_neg HH2.out]; exact ⟨rfl, rfl⟩)))); simp only [Act.put, List.setIfInBounds_toArray, List.set_cons_zero, List.set_cons_succ]; go_big_quiet_on))
                refine wpQuiet_nil ?_
                intro wx hbx
                have hbwx := hbw.trans (hbx.mono hbw.size)
                go_wp2_with fail
                go_roundw
                case rel =>
                  refine ⟨k + 1, by go_num, by omega, fun k' hk' => ?_, hbwx⟩
                  by_cases h : k' < k
                  · exact HPI.out k' h
                  · obtain rfl : k' = k := by omega
                    exact pair_no HX.out HY.out (time_no2 HH2.out)
                case measure => simp only [intOf]; omega
              have HH1 := Lib.hid h1
              have HH2 := Lib.hid h2
              clear h1 h2
              cases hal : alikeM x y with
              | true =>
                have HAL := Lib.hid hal
                clear hal
                go_wp2_with fail
                refine quiet_held (fun w' => Below wr.heap.size wr w') (by kernel_rfl) (by kernel_rfl) (Below.refl _ _).drew ?_
                repeat (first
                  | go_big_quiet_skip
                  | (go_big_quiet_want; go_big_quiet_op; go_big_quiet_on)
                  | (go_big_quiet_want; apply Exists.intro; refine ⟨fun wq hq => ?_, ?_⟩; (focus (obtain ⟨b9, o9, e9, -, d0, d1, d2, d3, d4, d5⟩ := move_cells (HCr.out.keep hq) HX.out; cases e9; obtain ⟨b9, o9, e9, -, g0, g1, g2, g3, g4, g5⟩ := move_cells (HCr.out.keep hq) HY.out; cases e9; unfold Oper.quietAt; go_simp; all_goals (first | rfl | (rw [if_pos HH1.out, if_pos HH2.out]; exact ⟨rfl, rfl⟩) | (with_reducible refine (rmalike_k HAL.out hx64 hy64 _).mono ?_; rintro e w5 ⟨rfl, hbn⟩; exact ⟨rfl, hq.trans (hbn.mono hq.size)⟩)))); simp only [Act.put, List.setIfInBounds_toArray, List.set_cons_zero, List.set_cons_succ]; go_big_quiet_on))
                refine wpQuiet_nil ?_
                intro wx hbx
                have hbwx := hbw.trans (hbx.mono hbw.size)
                go_wp2_with fail
                go_roundw
                case rel =>
                  refine ⟨k + 1, by go_num, by omega, fun k' hk' => ?_, hbwx⟩
                  by_cases h : k' < k
                  · exact HPI.out k' h
                  · obtain rfl : k' = k := by omega
                    exact pair_yes HX.out HY.out HAL.out
                case measure => simp only [intOf]; omega
              | false =>
                have HAL := Lib.hid hal
                clear hal
                go_wp2_with fail
                refine quiet_held (fun w' => Below wr.heap.size wr w') (by kernel_rfl) (by kernel_rfl) (Below.refl _ _).drew ?_
                repeat (first
                  | go_big_quiet_skip
                  | (go_big_quiet_want; go_big_quiet_op; go_big_quiet_on)
                  | (go_big_quiet_want; apply Exists.intro; refine ⟨fun wq hq => ?_, ?_⟩; (focus (obtain ⟨b9, o9, e9, -, d0, d1, d2, d3, d4, d5⟩ := move_cells (HCr.out.keep hq) HX.out; cases e9; obtain ⟨b9, o9, e9, -, g0, g1, g2, g3, g4, g5⟩ := move_cells (HCr.out.keep hq) HY.out; cases e9; unfold Oper.quietAt; go_simp; all_goals (first | rfl | (rw [if_pos HH1.out, if_pos HH2.out]; exact ⟨rfl, rfl⟩) | (with_reducible refine (rmalike_k HAL.out hx64 hy64 _).mono ?_; rintro e w5 ⟨rfl, hbn⟩; exact ⟨rfl, hq.trans (hbn.mono hq.size)⟩)))); simp only [Act.put, List.setIfInBounds_toArray, List.set_cons_zero, List.set_cons_succ]; go_big_quiet_on))
                refine wpQuiet_nil ?_
                intro wx hbx
                have hbwx := hbw.trans (hbx.mono hbw.size)
                go_wp2_with fail
                refine (live13_c _).mono ?_
                rintro e w9 ⟨rfl, hb9⟩
                go_wp2_with fail
                go_ret
                exact ⟨rfl, bthen hbwx hb9⟩
            · obtain rfl : k = j := by omega
              go_wp2_with fail
              go_roundw
              case rel =>
                refine ⟨k + 1, by go_num, by omega, fun i' hi' k' hk' => ?_, hbw⟩
                by_cases h : i' < k
                · exact HPO.out i' h k' hk'
                · obtain rfl : i' = k := by omega
                  exact HPI.out k' hk'
              case measure => simp only [intOf]; omega
        · obtain rfl : j = l.length := by omega
          have HAL := Lib.hid (pairs_all HPO.out)
          have HBW0 := Lib.hid hbw
          clear HPO hbw hlt
          go_wp2_with fail
          rename World => vr
          go_loopw [7, 8] (fun v i wr => ∃ (k : Nat) (Av : Option Addr) (cv : Nat) (F : List Mv), i = .int .i64 (k : Int) ∧ v = .slice Av F.length cv ∧ k ≤ ps.length ∧ F.length ≤ k ∧ Asc F ∧ (∀ x ∈ F, x ∈ l) ∧ At wr wr.heap.size Av (mvs F) ∧ (Av = none → cv = 0) ∧ F.length ≤ cv ∧ Below w.heap.size w wr) (fun _ i _ => ps.length - (intOf i).toNat)
          case atStart => exact ⟨0, none, 0, [], rfl, rfl, Nat.zero_le _, Nat.le_refl _, List.Pairwise.nil, (fun x hx => by cases hx), At.nil _ _ _, fun _ => rfl, Nat.le_refl _, HBW0.out⟩
          case round =>
            obtain ⟨k, Av, cv, F, rfl, rfl, hk, hFk, hasc, hFl, hat, hav, hcv, hbw⟩ := hrel
            have HASC := Lib.hid hasc
            have HFL := Lib.hid hFl
            have HAT := Lib.hid hat
            have HAV := Lib.hid hav
            have HCr := Lib.hid (HC.out.keep hbw)
            have HCV := Lib.hid hcv
            clear hasc hFl hat hav hcv
            by_cases hlk : k < ps.length
            · obtain ⟨p, hp⟩ := some_at hlk
              obtain ⟨b1, o1, rfl, -, p0⟩ := ints_at (HP.out.keep hbw) hp
              have hk0 : (0 : Int) ≤ (k : Int) := by omega
              have hkl : (k : Int) < (ps.length : Int) := by omega
              clear hp
              by_cases hp0 : 0 ≤ p
              case neg =>
                have hd : decide (0 ≤ p) = false := decide_eq_false hp0
                go_wp2_with fail
                go_roundw
                case rel => exact ⟨k + 1, Av, cv, F, by go_num, rfl, by omega, by omega, HASC.out, HFL.out, HAT.out, HAV.out, HCV.out, hbw⟩
                case measure => simp only [intOf]; omega
              by_cases hpl : p < (l.length : Int)
              case neg =>
                have hd : decide (0 ≤ p) = true := decide_eq_true hp0
                go_wp2_with fail
                go_roundw
                case rel => exact ⟨k + 1, Av, cv, F, by go_num, rfl, by omega, by omega, HASC.out, HFL.out, HAT.out, HAV.out, HCV.out, hbw⟩
                case measure => simp only [intOf]; omega
              obtain ⟨q, rfl⟩ : ∃ q : Nat, p = (q : Int) := ⟨p.toNat, by omega⟩
              obtain ⟨m, hm⟩ := some_at (show q < l.length by omega)
              obtain ⟨b2, o2, rfl, -, d0, d1, d2, d3, d4, d5⟩ := move_cells HCr.out hm
              have HINS := Lib.hid (minsert_c Av cv F m (by omega) HAV.out HCV.out _ HAT.out)
              have hlen := insM_len F m
              have HA2 := Lib.hid (insM_asc m HASC.out)
              have HF2 : Hid (∀ x ∈ (insM F m).1, x ∈ l) := Lib.hid (fun x hx => by
                rcases insM_mem hx with h | rfl
                · exact HFL.out x h
                · exact mem_at hm)
              clear hm
              go_wp2_with fail
              refine HINS.out.mono ?_
              rintro e w1 ⟨A3, c3, rfl, ha3, hn3, hc3, hb3⟩
              have hbw1 := bthen hbw hb3
              have HA3 := Lib.hid ha3
              have HN3 := Lib.hid hn3
              have HC3 := Lib.hid hc3
              clear ha3 hn3 hc3 hb3
              go_wp2_with fail
              go_roundw
              case rel => exact ⟨k + 1, A3, c3, (insM F m).1, by go_num, rfl, by omega, by omega, HA2.out, HF2.out, HA3.out, HN3.out, HC3.out, hbw1⟩
              case measure => simp only [intOf]; omega
            · obtain rfl : k = ps.length := by omega
              have HMF : Hid (Moves_ F) := Lib.hid (fun x hx => HM.out x (HFL.out x hx))
              have hul := uniM_len l F
              have hul2 := uniM_len l []
              have HSAME := Lib.hid (order_same HAL.out HASC.out HFL.out)
              have HOLD := Lib.hid (order_old (l := l) HFL.out)
              have HMU := Lib.hid (uniM_moves HMF.out HM.out)
              have HMU2 : Hid (Moves_ (uniM [] l)) := Lib.hid (uniM_moves (fun x hx => by cases hx) HM.out)
              have HASCU := Lib.hid (uniM_asc (b := l) HASC.out)
              have HU1 := Lib.hid fun (W : World) (h1 : At W W.heap.size Av (mvs F)) (h2 : At W W.heap.size A (mvs l)) => muni_c Av A cv cap F l (by omega) HAV.out HCV.out W h1 h2
              have HU2 := Lib.hid fun (W : World) (h2 : At W W.heap.size A (mvs l)) => muni_c none A 0 cap [] l (by simp only [List.length_nil]; omega) (fun _ => rfl) (Nat.le_refl _) W (At.nil _ _ _) h2
              obtain ⟨U, hU⟩ : ∃ U, uniM F l = U := ⟨_, rfl⟩
              obtain ⟨V, hV⟩ : ∃ V, uniM [] l = V := ⟨_, rfl⟩
              have hs := HSAME.out
              have ho := HOLD.out
              have hm1 := HMU.out
              have hm2 := HMU2.out
              have ha := HASCU.out
              have hu1 := HU1.out
              have hu2 := HU2.out
              simp only [hU, hV] at hs ho hm1 hm2 ha hu1 hu2 hul hul2
              have GS := Lib.hid hs
              have GO := Lib.hid ho
              have GM1 := Lib.hid hm1
              have GM2 := Lib.hid hm2
              have GA := Lib.hid ha
              have GU1 := Lib.hid hu1
              have GU2 := Lib.hid hu2
              simp only [List.length_nil, Nat.zero_add] at hul2
              clear hs ho hm1 hm2 ha hu1 hu2 hU hV HSAME HOLD HMU HMU2 HASCU HU1 HU2
              go_wp2_with fail
              refine (GU1.out _ HAT.out HCr.out).mono ?_
              rintro e w1 ⟨A3, c3, rfl, ha3, hn3, hc3, hb3⟩
              have hbw1 := bthen hbw hb3
              have HA3 := Lib.hid ha3
              have HC3 := Lib.hid (HCr.out.keep hb3)
              have HF3 := Lib.hid (HAT.out.keep hb3)
              clear ha3 hn3 hc3 hb3
              go_wp2_with fail
              refine (GU2.out _ HC3.out).mono ?_
              rintro e w2 ⟨A4, c4, rfl, ha4, hn4, hc4, hb4⟩
              have hbw2 := bthen hbw1 hb4
              have HA4 := Lib.hid ha4
              have HN4 := Lib.hid hn4
              have HCP4 := Lib.hid hc4
              have HA3b := Lib.hid (HA3.out.keep hb4)
              have HF4 := Lib.hid (HF3.out.keep hb4)
              clear ha4 hn4 hc4 hb4
              go_wp2_with fail
              rename World => vr
              go_loopw [11] (fun i wr => ∃ n : Nat, i = .int .i64 (n : Int) ∧ 1 ≤ n ∧ (n = 1 ∨ n ≤ U.length) ∧ Below vr.heap.size vr wr) (fun i _ => U.length + 1 - (intOf i).toNat)
              case atStart => exact ⟨1, rfl, Nat.le_refl _, .inl rfl, Below.refl _ _⟩
              case round =>
                obtain ⟨n, rfl, hn1, hj, hbr⟩ := hrel
                have HUr := Lib.hid (HA3b.out.keep hbr)
                by_cases hlj : n < U.length
                · obtain ⟨j, hjn⟩ : ∃ j, n = j + 1 := ⟨n - 1, by omega⟩
                  obtain ⟨x, hx⟩ := some_at (show j < U.length by omega)
                  obtain ⟨y, hy⟩ := some_at hlj
                  have hb := asc_bm GA.out hx (by rw [← hjn]; exact hy)
                  obtain ⟨b3, o3, rfl, -⟩ := move_cells HUr.out hx
                  have HX := Lib.hid hx
                  have HY := Lib.hid hy
                  have HB := Lib.hid hb
                  have hw1 : IntKind.i64.wrap ((n : Int) - 1) = (j : Int) := by rw [show (n : Int) - 1 = (j : Int) by omega]; exact IntWalk.i64_in _ (by omega)
                  have hj0 : (0 : Int) ≤ (j : Int) := by omega
                  have hjl : (j : Int) < (U.length : Int) := by omega
                  have hj1 : (0 : Int) ≤ (n : Int) := by omega
                  have hjl1 : (n : Int) < (U.length : Int) := by omega
                  have HJN := Lib.hid hjn
                  clear hx hy hb hjn
                  go_wp2_with fail
                  refine quiet_held (fun w' => Below wr.heap.size wr w') (by kernel_rfl) (by kernel_rfl) (Below.refl _ _).drew ?_
                  repeat (first
                    | go_big_quiet_skip
                    | (simp only [hw1])
                    | (go_big_quiet_want; go_big_quiet_op; go_big_quiet_on)
                    | (go_big_quiet_want; apply Exists.intro; refine ⟨fun wq hq => ?_, ?_⟩; (focus (obtain ⟨b9, o9, e9, -, d0, d1, d2, d3, d4, d5⟩ := move_cells (HUr.out.keep hq) HX.out; cases e9; obtain ⟨b9, o9, e9, -, g0, g1, g2, g3, g4, g5⟩ := move_cells (HUr.out.keep hq) HY.out; cases e9; unfold Oper.quietAt; go_simp; all_goals (first | rfl | (refine (rbm_k (m := x) (x := y) HB.out _).mono ?_; rintro e w5 ⟨rfl, hbn⟩; exact ⟨rfl, hq.trans (hbn.mono hq.size)⟩)))); simp only [Act.put, List.setIfInBounds_toArray, List.set_cons_zero, List.set_cons_succ]; go_big_quiet_on))
                  refine wpQuiet_nil ?_
                  intro wx hbx
                  go_wp2_with fail
                  go_roundw
                  case rel => exact ⟨n + 1, by go_num, by omega, .inr (by omega), hbr.trans (hbx.mono hbr.size)⟩
                  case measure => simp only [intOf]; omega
                · have hnl : ¬ ((n : Int) < (U.length : Int)) := by omega
                  have HUx := Lib.hid (HA3b.out.keep hbr)
                  have HVx := Lib.hid (HA4.out.keep hbr)
                  have HFx := Lib.hid (HF4.out.keep hbr)
                  have hbwr := hbw2.trans (hbr.mono hbw2.size)
                  clear hbr
                  go_wp2_with fail
                  refine (rmsame_k U V GS.out rfl rfl (by omega) (by omega) GM1.out GM2.out HUx.out HVx.out).mono ?_
                  rintro e w4 ⟨rfl, hb4⟩
                  have hbw4 := bthen hbwr hb4
                  have HV4 := Lib.hid (HVx.out.keep hb4)
                  have HF4b := Lib.hid (HFx.out.keep hb4)
                  clear hb4
                  go_wp2_with fail
                  refine (muni_k V F V GO.out rfl rfl rfl (by omega) HN4.out HCP4.out HV4.out HF4b.out).mono ?_
                  rintro e w5 ⟨A6, c6, rfl, ha6, -, -, hb5⟩
                  have hbw5 := bthen hbw4 hb5
                  have HV5 := Lib.hid (HV4.out.keep hb5)
                  have HA6 := Lib.hid ha6
                  clear ha6 hb5
                  go_wp2_with fail
                  refine (rmsame_k V V (sameM_refl V) rfl rfl (by omega) (by omega) GM2.out GM2.out HA6.out HV5.out).mono ?_
                  rintro e w6 ⟨rfl, hb6⟩
                  have hbw6 := bthen hbw5 hb6
                  go_wp2_with fail
                  refine (live13_c _).mono ?_
                  rintro e w7 ⟨rfl, hb7⟩
                  go_wp2_with fail
                  go_ret
                  exact ⟨rfl, bthen hbw6 hb7⟩
end movesOrder
end Go.Proofs.Ytihaiabkjmmmoaa
