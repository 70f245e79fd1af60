/-
  The walk of PackStays.
-/
import Derived.Test.YtgdmlpndkojfeaaWa
import Derived.Test.YtgdmlpndkojfeaaVa
import Derived.Test.YtgdmlpndkojfeaaMc
namespace Go.Proofs.Ytgdmlpndkojfeaa
open Go.RowKit
open Pk
set_option maxRecDepth 100000

namespace packStays
theorem walk_out (l : List UInt8) (A : Option Addr) (cap len : Nat) (h : 500 < l.length ∨ (l.length ≤ 500 ∧ 60 < len)) (hz : l.length ≤ maxLen) (hz2 : len ≤ maxLen) (w : World) :
    Calls Try.prog 6 #[.string (ba l), .slice A len cap] w fun e w' => e = .returned (.bool true) ∧ Below w.heap.size w w' := by
  have hs := ba_size l
  unfold maxLen at hz hz2
  rcases h with h | ⟨h0, h⟩
  all_goals
    go_enter Try.func6, Try.ntmps6
    go_wp2_with (go_at_call 23; refine (live3_c _).mono ?_; rintro e w5 ⟨rfl, hb5⟩)
    go_ret
    exact ⟨rfl, hb5⟩

set_option maxHeartbeats 4000000 in
theorem walk_in (l : List UInt8) (A : Option Addr) (cap : Nat) (xs : List Int) (hl : l.length ≤ 500) (hx : xs.length ≤ 60) (w : World) (hc : Cells w A (xs.map (Value.int .i64))) :
    Calls Try.prog 6 #[.string (ba l), .slice A xs.length cap] w fun e w' => e = .returned (.bool true) ∧ Below w.heap.size w w' := by
  have hs := ba_size l
  have HC := Lib.hid hc
  clear hc
  go_enter Try.func6, Try.ntmps6
  go_wp2_with fail
  refine (new_c l _).mono ?_
  rintro e w0 ⟨rfl, hr0, hw0⟩
  have hb0 : Below w.heap.size w w0 := by rw [hw0]; exact (Below.refl _ _).alloc (Nat.le_refl _) _
  clear hw0 hs
  go_wp2_with fail
  go_loopw [6, 7, 8, 9] (fun i _ _ _ wr => ∃ (k : Nat) (st : St), i = .int .i64 (k : Int) ∧ k ≤ xs.length ∧ Rdr wr w.heap.size st ∧ Below w.heap.size w wr)
    (fun i _ _ _ _ => xs.length - (intOf i).toNat)
  case atStart => exact ⟨0, _, rfl, Nat.zero_le _, hr0, hb0⟩
  case round =>
    clear hr0 hb0 hl
    obtain ⟨k, st, rfl, hk, hr, hb⟩ := hrel
    by_cases hlt : k < xs.length
    · obtain ⟨x, hxk⟩ : ∃ x, xs[k]? = some x := ⟨_, List.getElem?_eq_getElem hlt⟩
      obtain ⟨b, off, rfl, hbl, hcell⟩ := cells_below HC.out hb k (.int .i64 x) (by rw [List.getElem?_map, hxk]; rfl)
      clear hxk hbl
      have hway : (x == -1) = true ∨ ((x == -1) = false ∧ (x == -2) = true) ∨ ((x == -1) = false ∧ (x == -2) = false ∧ (x == -3) = true) ∨ ((x == -1) = false ∧ (x == -2) = false ∧ (x == -3) = false) := by
        cases (x == -1) <;> cases (x == -2) <;> cases (x == -3) <;> simp
      rcases hway with q1 | ⟨q1, q2⟩ | ⟨q1, q2, q3⟩ | ⟨q1, q2, q3⟩
      · have hlen := numS_len st
        have hcase : (st.e ≠ 0 ∧ numS st = st ∧ (((numV st : Nat) : Int) == 0) = true) ∨ (st.e = 0 ∧ (numS st).e ≠ 0 ∧ (numS st).l.length = st.l.length ∧ (((numV st : Nat) : Int) == 0) = true) ∨ (st.e = 0 ∧ (numS st).e = 0) := by
          by_cases h1 : st.e = 0
          · by_cases h2 : (numS st).e = 0
            · exact .inr (.inr ⟨h1, h2⟩)
            · have h := num_stays st h2
              exact .inr (.inl ⟨h1, h2, by rw [h.2.1], by rw [h.1]; rfl⟩)
          · have h := num_stays st
            have h2 : (numS st).e ≠ 0 := by
              rw [(num_err h1).2]; exact h1
            have h := h h2
            exact .inl ⟨h1, h.2.2 h1, by rw [h.1]; rfl⟩
        obtain ⟨st', hst⟩ : ∃ st', st' = numS st := ⟨_, rfl⟩
        rw [← hst] at hcase hlen
        have HST := Lib.hid hst
        clear hst
        rcases hcase with ⟨h1, h2, h3⟩ | ⟨h1, h2, h3, h4⟩ | ⟨h1, h2⟩
        · have h2 := h2.symm
          subst h2
          have t1 : (st.e != 0) = true := by simpa using h1
          have t2 : (doneV st != st.e) = false := by unfold doneV; rw [if_neg h1]; simp
          clear h1 hlen
          go_wp2_with (first | (go_at_call 25; refine (num_m _ st _ hr).mono ?_; rintro e w1 ⟨rfl, hr1, ho1⟩; rw [← HST.out] at hr1; have hb1 := below_only hb ho1 hb.size (Nat.le_refl _); clear ho1) | (go_at_call 35; refine (err_c _ _ _ (by assumption)).mono ?_; rintro e wz ⟨rfl, rfl⟩) | (go_at_call 33; refine (left_c _ _ _ (by assumption)).mono ?_; rintro e wz ⟨rfl, rfl⟩) | (go_at_call 36; refine (done_c _ _ _ (by assumption)).mono ?_; rintro e wz ⟨rfl, rfl⟩))
          go_roundw
          case rel => exact ⟨k + 1, _, by go_num, by omega, hr1, hb1⟩
          case measure => simp only [intOf]; omega
        · have t1 : (st.e != 0) = false := by rw [h1]; rfl
          have t2 : (st'.e != 0) = true := by simpa using h2
          have t3 : (doneV st' != st'.e) = false := by unfold doneV; rw [if_neg h2]; simp
          have t4 : ((st'.l.length : Int) != (st.l.length : Int)) = false := by rw [h3]; simp
          clear h1 h2 h3
          go_wp2_with (first | (go_at_call 25; refine (num_m _ st _ hr).mono ?_; rintro e w1 ⟨rfl, hr1, ho1⟩; rw [← HST.out] at hr1; have hb1 := below_only hb ho1 hb.size (Nat.le_refl _); clear ho1) | (go_at_call 35; refine (err_c _ _ _ (by assumption)).mono ?_; rintro e wz ⟨rfl, rfl⟩) | (go_at_call 33; refine (left_c _ _ _ (by assumption)).mono ?_; rintro e wz ⟨rfl, rfl⟩) | (go_at_call 36; refine (done_c _ _ _ (by assumption)).mono ?_; rintro e wz ⟨rfl, rfl⟩))
          go_roundw
          case rel => exact ⟨k + 1, _, by go_num, by omega, hr1, hb1⟩
          case measure => simp only [intOf]; omega
        · have t1 : (st.e != 0) = false := by rw [h1]; rfl
          have t2 : (st'.e != 0) = false := by rw [h2]; rfl
          clear h1 h2
          go_wp2_with (first | (go_at_call 25; refine (num_m _ st _ hr).mono ?_; rintro e w1 ⟨rfl, hr1, ho1⟩; rw [← HST.out] at hr1; have hb1 := below_only hb ho1 hb.size (Nat.le_refl _); clear ho1) | (go_at_call 35; refine (err_c _ _ _ (by assumption)).mono ?_; rintro e wz ⟨rfl, rfl⟩) | (go_at_call 33; refine (left_c _ _ _ (by assumption)).mono ?_; rintro e wz ⟨rfl, rfl⟩) | (go_at_call 36; refine (done_c _ _ _ (by assumption)).mono ?_; rintro e wz ⟨rfl, rfl⟩))
          go_roundw
          case rel => exact ⟨k + 1, _, by go_num, by omega, hr1, hb1⟩
          case measure => simp only [intOf]; omega
      · have hlen := numS_len st
        have hcase : (st.e ≠ 0 ∧ numS st = st ∧ (zag (numV st) == 0) = true) ∨ (st.e = 0 ∧ (numS st).e ≠ 0 ∧ (numS st).l.length = st.l.length ∧ (zag (numV st) == 0) = true) ∨ (st.e = 0 ∧ (numS st).e = 0) := by
          by_cases h1 : st.e = 0
          · by_cases h2 : (numS st).e = 0
            · exact .inr (.inr ⟨h1, h2⟩)
            · have h := num_stays st h2
              exact .inr (.inl ⟨h1, h2, by rw [h.2.1], by rw [h.1]; rfl⟩)
          · have h := num_stays st
            have h2 : (numS st).e ≠ 0 := by
              rw [(num_err h1).2]; exact h1
            have h := h h2
            exact .inl ⟨h1, h.2.2 h1, by rw [h.1]; rfl⟩
        obtain ⟨st', hst⟩ : ∃ st', st' = numS st := ⟨_, rfl⟩
        rw [← hst] at hcase hlen
        have HST := Lib.hid hst
        clear hst
        rcases hcase with ⟨h1, h2, h3⟩ | ⟨h1, h2, h3, h4⟩ | ⟨h1, h2⟩
        · have h2 := h2.symm
          subst h2
          have t1 : (st.e != 0) = true := by simpa using h1
          have t2 : (doneV st != st.e) = false := by unfold doneV; rw [if_neg h1]; simp
          clear h1 hlen
          go_wp2_with (first | (go_at_call 27; refine (int_m _ st _ hr).mono ?_; rintro e w1 ⟨rfl, hr1, ho1⟩; rw [← HST.out] at hr1; have hb1 := below_only hb ho1 hb.size (Nat.le_refl _); clear ho1) | (go_at_call 35; refine (err_c _ _ _ (by assumption)).mono ?_; rintro e wz ⟨rfl, rfl⟩) | (go_at_call 33; refine (left_c _ _ _ (by assumption)).mono ?_; rintro e wz ⟨rfl, rfl⟩) | (go_at_call 36; refine (done_c _ _ _ (by assumption)).mono ?_; rintro e wz ⟨rfl, rfl⟩))
          go_roundw
          case rel => exact ⟨k + 1, _, by go_num, by omega, hr1, hb1⟩
          case measure => simp only [intOf]; omega
        · have t1 : (st.e != 0) = false := by rw [h1]; rfl
          have t2 : (st'.e != 0) = true := by simpa using h2
          have t3 : (doneV st' != st'.e) = false := by unfold doneV; rw [if_neg h2]; simp
          have t4 : ((st'.l.length : Int) != (st.l.length : Int)) = false := by rw [h3]; simp
          clear h1 h2 h3
          go_wp2_with (first | (go_at_call 27; refine (int_m _ st _ hr).mono ?_; rintro e w1 ⟨rfl, hr1, ho1⟩; rw [← HST.out] at hr1; have hb1 := below_only hb ho1 hb.size (Nat.le_refl _); clear ho1) | (go_at_call 35; refine (err_c _ _ _ (by assumption)).mono ?_; rintro e wz ⟨rfl, rfl⟩) | (go_at_call 33; refine (left_c _ _ _ (by assumption)).mono ?_; rintro e wz ⟨rfl, rfl⟩) | (go_at_call 36; refine (done_c _ _ _ (by assumption)).mono ?_; rintro e wz ⟨rfl, rfl⟩))
          go_roundw
          case rel => exact ⟨k + 1, _, by go_num, by omega, hr1, hb1⟩
          case measure => simp only [intOf]; omega
        · have t1 : (st.e != 0) = false := by rw [h1]; rfl
          have t2 : (st'.e != 0) = false := by rw [h2]; rfl
          clear h1 h2
          go_wp2_with (first | (go_at_call 27; refine (int_m _ st _ hr).mono ?_; rintro e w1 ⟨rfl, hr1, ho1⟩; rw [← HST.out] at hr1; have hb1 := below_only hb ho1 hb.size (Nat.le_refl _); clear ho1) | (go_at_call 35; refine (err_c _ _ _ (by assumption)).mono ?_; rintro e wz ⟨rfl, rfl⟩) | (go_at_call 33; refine (left_c _ _ _ (by assumption)).mono ?_; rintro e wz ⟨rfl, rfl⟩) | (go_at_call 36; refine (done_c _ _ _ (by assumption)).mono ?_; rintro e wz ⟨rfl, rfl⟩))
          go_roundw
          case rel => exact ⟨k + 1, _, by go_num, by omega, hr1, hb1⟩
          case measure => simp only [intOf]; omega
      · have hlen := fixS_len st
        have hcase : (st.e ≠ 0 ∧ fixS st = st ∧ (((fixV st : Nat) : Int) == 0) = true) ∨ (st.e = 0 ∧ (fixS st).e ≠ 0 ∧ (fixS st).l.length = st.l.length ∧ (((fixV st : Nat) : Int) == 0) = true) ∨ (st.e = 0 ∧ (fixS st).e = 0) := by
          by_cases h1 : st.e = 0
          · by_cases h2 : (fixS st).e = 0
            · exact .inr (.inr ⟨h1, h2⟩)
            · have h := fix_stays st h2
              exact .inr (.inl ⟨h1, h2, by rw [h.2.1], by rw [h.1]; rfl⟩)
          · have h := fix_stays st
            have h2 : (fixS st).e ≠ 0 := by
              rw [(fix_err h1).2]; exact h1
            have h := h h2
            exact .inl ⟨h1, h.2.2 h1, by rw [h.1]; rfl⟩
        obtain ⟨st', hst⟩ : ∃ st', st' = fixS st := ⟨_, rfl⟩
        rw [← hst] at hcase hlen
        have HST := Lib.hid hst
        clear hst
        rcases hcase with ⟨h1, h2, h3⟩ | ⟨h1, h2, h3, h4⟩ | ⟨h1, h2⟩
        · have h2 := h2.symm
          subst h2
          have t1 : (st.e != 0) = true := by simpa using h1
          have t2 : (doneV st != st.e) = false := by unfold doneV; rw [if_neg h1]; simp
          clear h1 hlen
          go_wp2_with (first | (go_at_call 29; refine (fix_m _ st _ hr).mono ?_; rintro e w1 ⟨rfl, hr1, ho1⟩; rw [← HST.out] at hr1; have hb1 := below_only hb ho1 hb.size (Nat.le_refl _); clear ho1) | (go_at_call 35; refine (err_c _ _ _ (by assumption)).mono ?_; rintro e wz ⟨rfl, rfl⟩) | (go_at_call 33; refine (left_c _ _ _ (by assumption)).mono ?_; rintro e wz ⟨rfl, rfl⟩) | (go_at_call 36; refine (done_c _ _ _ (by assumption)).mono ?_; rintro e wz ⟨rfl, rfl⟩))
          go_roundw
          case rel => exact ⟨k + 1, _, by go_num, by omega, hr1, hb1⟩
          case measure => simp only [intOf]; omega
        · have t1 : (st.e != 0) = false := by rw [h1]; rfl
          have t2 : (st'.e != 0) = true := by simpa using h2
          have t3 : (doneV st' != st'.e) = false := by unfold doneV; rw [if_neg h2]; simp
          have t4 : ((st'.l.length : Int) != (st.l.length : Int)) = false := by rw [h3]; simp
          clear h1 h2 h3
          go_wp2_with (first | (go_at_call 29; refine (fix_m _ st _ hr).mono ?_; rintro e w1 ⟨rfl, hr1, ho1⟩; rw [← HST.out] at hr1; have hb1 := below_only hb ho1 hb.size (Nat.le_refl _); clear ho1) | (go_at_call 35; refine (err_c _ _ _ (by assumption)).mono ?_; rintro e wz ⟨rfl, rfl⟩) | (go_at_call 33; refine (left_c _ _ _ (by assumption)).mono ?_; rintro e wz ⟨rfl, rfl⟩) | (go_at_call 36; refine (done_c _ _ _ (by assumption)).mono ?_; rintro e wz ⟨rfl, rfl⟩))
          go_roundw
          case rel => exact ⟨k + 1, _, by go_num, by omega, hr1, hb1⟩
          case measure => simp only [intOf]; omega
        · have t1 : (st.e != 0) = false := by rw [h1]; rfl
          have t2 : (st'.e != 0) = false := by rw [h2]; rfl
          clear h1 h2
          go_wp2_with (first | (go_at_call 29; refine (fix_m _ st _ hr).mono ?_; rintro e w1 ⟨rfl, hr1, ho1⟩; rw [← HST.out] at hr1; have hb1 := below_only hb ho1 hb.size (Nat.le_refl _); clear ho1) | (go_at_call 35; refine (err_c _ _ _ (by assumption)).mono ?_; rintro e wz ⟨rfl, rfl⟩) | (go_at_call 33; refine (left_c _ _ _ (by assumption)).mono ?_; rintro e wz ⟨rfl, rfl⟩) | (go_at_call 36; refine (done_c _ _ _ (by assumption)).mono ?_; rintro e wz ⟨rfl, rfl⟩))
          go_roundw
          case rel => exact ⟨k + 1, _, by go_num, by omega, hr1, hb1⟩
          case measure => simp only [intOf]; omega
      · have hlen := takeS_len x st
        have hcase : (st.e ≠ 0 ∧ takeS x st = st ∧ ((ba (takeV x st)).toList.isEmpty) = true) ∨ (st.e = 0 ∧ (takeS x st).e ≠ 0 ∧ (takeS x st).l.length = st.l.length ∧ ((ba (takeV x st)).toList.isEmpty) = true) ∨ (st.e = 0 ∧ (takeS x st).e = 0) := by
          by_cases h1 : st.e = 0
          · by_cases h2 : (takeS x st).e = 0
            · exact .inr (.inr ⟨h1, h2⟩)
            · have h := take_stays x st h2
              exact .inr (.inl ⟨h1, h2, by rw [h.2.1], by rw [h.1]; decide +kernel⟩)
          · have h := take_stays x st
            have h2 : (takeS x st).e ≠ 0 := by
              rw [(take_err h1).2]; exact h1
            have h := h h2
            exact .inl ⟨h1, h.2.2 h1, by rw [h.1]; decide +kernel⟩
        obtain ⟨st', hst⟩ : ∃ st', st' = takeS x st := ⟨_, rfl⟩
        rw [← hst] at hcase hlen
        have HST := Lib.hid hst
        clear hst
        rcases hcase with ⟨h1, h2, h3⟩ | ⟨h1, h2, h3, h4⟩ | ⟨h1, h2⟩
        · have h2 := h2.symm
          subst h2
          have t1 : (st.e != 0) = true := by simpa using h1
          have t2 : (doneV st != st.e) = false := by unfold doneV; rw [if_neg h1]; simp
          clear h1 hlen
          go_wp2_with (first | (go_at_call 31; refine (take_m _ x st _ hr).mono ?_; rintro e w1 ⟨rfl, hr1, ho1⟩; rw [← HST.out] at hr1; have hb1 := below_only hb ho1 hb.size (Nat.le_refl _); clear ho1) | (go_at_call 35; refine (err_c _ _ _ (by assumption)).mono ?_; rintro e wz ⟨rfl, rfl⟩) | (go_at_call 33; refine (left_c _ _ _ (by assumption)).mono ?_; rintro e wz ⟨rfl, rfl⟩) | (go_at_call 36; refine (done_c _ _ _ (by assumption)).mono ?_; rintro e wz ⟨rfl, rfl⟩))
          go_roundw
          case rel => exact ⟨k + 1, _, by go_num, by omega, hr1, hb1⟩
          case measure => simp only [intOf]; omega
        · have t1 : (st.e != 0) = false := by rw [h1]; rfl
          have t2 : (st'.e != 0) = true := by simpa using h2
          have t3 : (doneV st' != st'.e) = false := by unfold doneV; rw [if_neg h2]; simp
          have t4 : ((st'.l.length : Int) != (st.l.length : Int)) = false := by rw [h3]; simp
          clear h1 h2 h3
          go_wp2_with (first | (go_at_call 31; refine (take_m _ x st _ hr).mono ?_; rintro e w1 ⟨rfl, hr1, ho1⟩; rw [← HST.out] at hr1; have hb1 := below_only hb ho1 hb.size (Nat.le_refl _); clear ho1) | (go_at_call 35; refine (err_c _ _ _ (by assumption)).mono ?_; rintro e wz ⟨rfl, rfl⟩) | (go_at_call 33; refine (left_c _ _ _ (by assumption)).mono ?_; rintro e wz ⟨rfl, rfl⟩) | (go_at_call 36; refine (done_c _ _ _ (by assumption)).mono ?_; rintro e wz ⟨rfl, rfl⟩))
          go_roundw
          case rel => exact ⟨k + 1, _, by go_num, by omega, hr1, hb1⟩
          case measure => simp only [intOf]; omega
        · have t1 : (st.e != 0) = false := by rw [h1]; rfl
          have t2 : (st'.e != 0) = false := by rw [h2]; rfl
          clear h1 h2
          go_wp2_with (first | (go_at_call 31; refine (take_m _ x st _ hr).mono ?_; rintro e w1 ⟨rfl, hr1, ho1⟩; rw [← HST.out] at hr1; have hb1 := below_only hb ho1 hb.size (Nat.le_refl _); clear ho1) | (go_at_call 35; refine (err_c _ _ _ (by assumption)).mono ?_; rintro e wz ⟨rfl, rfl⟩) | (go_at_call 33; refine (left_c _ _ _ (by assumption)).mono ?_; rintro e wz ⟨rfl, rfl⟩) | (go_at_call 36; refine (done_c _ _ _ (by assumption)).mono ?_; rintro e wz ⟨rfl, rfl⟩))
          go_roundw
          case rel => exact ⟨k + 1, _, by go_num, by omega, hr1, hb1⟩
          case measure => simp only [intOf]; omega
    · go_wp2_with (go_at_call 23; refine (live3_c _).mono ?_; rintro e w5 ⟨rfl, hb5⟩)
      go_ret
      exact ⟨rfl, hb.trans (hb5.mono hb.size)⟩

theorem walk (l : List UInt8) (A : Option Addr) (cap : Nat) (xs : List Int) (hz : l.length ≤ maxLen) (hz2 : xs.length ≤ maxLen) (_hw : ∀ x ∈ xs, (Lit.int .i64 x).wf = true) (w : World) (hc : Cells w A (xs.map (Value.int .i64))) :
    Calls Try.prog 6 #[.string (ba l), .slice A xs.length cap] w fun e w' => e = .returned (.bool true) ∧ Below w.heap.size w w' := by
  rcases Nat.lt_or_ge 500 l.length with h | h
  · exact walk_out l A cap _ (.inl h) hz hz2 w
  · rcases Nat.lt_or_ge 60 xs.length with h2 | h2
    · exact walk_out l A cap _ (.inr ⟨h, h2⟩) hz hz2 w
    · exact walk_in l A cap xs h h2 w hc
end packStays
end Go.Proofs.Ytgdmlpndkojfeaa
