/-
  The walk of BitsWhole.
-/
import Derived.Test.YtaahfcljcejemaaWd
import Derived.Test.YtaahfcljcejemaaFg
namespace Go.Proofs.Ytaahfcljcejemaa
open Go.RowKit
open Fl
set_option maxRecDepth 100000

namespace bitsWhole
theorem walk_out (n : Int) (b : Bool) (h : n < 1 ∨ (1 ≤ n ∧ 9007199254740992 < n)) (w : World) :
    Calls Try.prog 7 #[.int .i64 n, .bool b] w fun e w' => e = .returned (.bool true) ∧ Below w.heap.size w w' := by
  rcases h with h | ⟨h1, h2⟩
  all_goals
    go_enter Try.func7, Try.ntmps7
    go_wp2_with fail
    refine (live_c _).mono ?_
    rintro e w5 ⟨rfl, hb5⟩
    go_wp2
    go_ret
    exact ⟨rfl, hb5⟩

/-- what is asked of the word X with the minus b -/
def Word (X : Nat) (b : Bool) : Prop := X < 18446744073709551616 ∧ nn X = false ∧ kd X = 2 ∧ (!nn X && ng X) = b ∧ cb X = X ∧ (FloatKind.f64.format.order X X == some Ordering.eq) = true
theorem facts (W : Nat) (h1 : 4503599627370496 ≤ W) (h2 : W < 9218868437227405312) :
    Word W false ∧ ((W : Int) + 9223372036854775808 = ((Op.negFloat .f64 W : Nat) : Int)) ∧ Word (Op.negFloat .f64 W) true := by
  have hn : nn W = false := (nn_iff' W).2 (by omega)
  have hs : ng W = false := ng_false.2 (by omega)
  have hmg : mg W = W := Nat.mod_eq_of_lt (by omega)
  have hk : kd W = 2 := by
    unfold kd; rw [hn, hmg, if_neg (by simp), if_neg (by omega), if_neg (by omega), if_neg (by omega)]
  obtain ⟨a1, a2, a3, a4⟩ := neg_facts W (by omega) hn
  have hneg : Op.negFloat .f64 W = W + 9223372036854775808 := by
    have := neg_eq false W (by omega)
    have e1 : wd false W = W := by simp [wd]
    have e2 : wd (!false) W = W + 9223372036854775808 := by simp [wd, Nat.add_comm]
    rw [e1, e2] at this; exact this
  have hmg2 : mg (Op.negFloat .f64 W) = W := by rw [hneg]; unfold mg; omega
  refine ⟨⟨by omega, hn, hk, by rw [hn, hs]; rfl, cb_num hn, by rw [o_self' W (by omega), hn]; rfl⟩, by rw [hneg]; omega, ⟨a1, a2, ?_, by rw [a2, a3, hs]; rfl, cb_num a2, by rw [o_self' _ a1, a2]; rfl⟩⟩
  unfold kd; rw [a2, hmg2, if_neg (by simp), if_neg (by omega), if_neg (by omega), if_neg (by omega)]

set_option maxHeartbeats 4000000 in
theorem walk_in (n : Nat) (b : Bool) (h1 : 1 ≤ n) (h2 : n ≤ 9007199254740992) (w : World) :
    Calls Try.prog 7 #[.int .i64 (n : Int), .bool b] w fun e w' => e = .returned (.bool true) ∧ Below w.heap.size w w' := by
  have hL := (log2_le53 n h1 h2).1
  have hE := (log2_le53 n h1 h2).2
  have hfl := whole_word n h1 h2
  have hnw := nw_lt (1023 + n.log2) (wm n) (by omega) (wm_lt n)
  have hnw0 : 4503599627370496 ≤ nw (1023 + n.log2) (wm n) := by unfold nw; omega
  have g1 : ¬ ((n : Int) < 1) := by omega
  cases b
  all_goals
  go_enter Try.func7, Try.ntmps7
  go_wp2_with fail
  go_loop [5, 6] (fun u v => ∃ c : Nat, c ≤ n.log2 + 1 ∧ u = .int .i64 c ∧ v = .int .i64 (pk n c)) (fun u _ => (100 - intOf u).toNat)
  case atStart => exact ⟨0, by omega, rfl, by rw [pk_zero]⟩
  case round =>
    obtain ⟨c, hc, rfl, rfl⟩ := hrel
    have hple := pk_le n c
    by_cases hlt : c ≤ n.log2
    · have hpos := pk_pos n c h1 hlt
      have hs := pk_succ n c
      have HS := Lib.hid hs
      clear hs hfl
      go_wp2
      go_round
      case rel => exact ⟨c + 1, by omega, by go_num, by rw [HS.out]; go_num⟩
      case measure => simp only [intOf]; omega
    · have hz : pk n c = 0 := by rw [show c = n.log2 + 1 from by omega]; exact pk_end n
      rw [hz]
      clear hz hple
      go_wp2_with fail
      go_loop [7, 8] (fun u v => ∃ (i : Nat) (y : Int), y ≤ c + i ∧ c + i ≤ y ∧ (i = 0 ∨ y ≤ 53) ∧ v = .int .i64 y ∧ u = .int .u64 (mk n i)) (fun _ v => (100 - intOf v).toNat)
      case atStart => exact ⟨0, c, by omega, by omega, by omega, rfl, by rw [mk_zero]⟩
      case round =>
        obtain ⟨i, y, hy1, hy2, hi, rfl, rfl⟩ := hrel
        by_cases hy : y < 53
        · have hmb := mk_lt n i (by omega)
          have HS := Lib.hid (mk_succ n i)
          clear hfl
          go_wp2
          go_round
          case rel => exact ⟨i + 1, y + 1, by omega, by omega, by omega, rfl, by rw [HS.out]; go_num⟩
          case measure => simp only [intOf]; omega
        · by_cases h52 : n.log2 ≤ 52
          · have hM : mk n i = 4503599627370496 + wm n := by
              have h3 := mk_ge n h1 h52
              rw [show i = 52 - n.log2 from by omega]
              unfold wm; rw [if_pos h52]; omega
            rw [hM]
            have hwl := wm_lt n
            have hfe : ((c : Int) == 54) = false := by rw [beq_eq_false_iff_ne]; omega
            clear hM
            go_wp2_with fail
            rw [show ((1022 + (c : Int)) * 4503599627370496 + (4503599627370496 + ((wm n : Nat) : Int)) - 4503599627370496) = ((nw (1023 + n.log2) (wm n) : Nat) : Int) from by unfold nw; omega]
            have HX := facts (nw (1023 + n.log2) (wm n)) hnw0 hnw
            generalize nw (1023 + n.log2) (wm n) = W at *
            first
              | rw [HX.2.1]; have HZ := HX.2.2; generalize Op.negFloat .f64 W = X at *
              | have HZ := HX.1; generalize W = X at *
            obtain ⟨x1, x2, x3, x4, x5, x6⟩ := HZ
            have HX5 := Lib.hid x5
            have HX4 := Lib.hid x4
            have HX3 := Lib.hid x3
            have HX2 := Lib.hid x2
            clear x2 x3 x4 x5 HX
            refine (bits_c X x1 _).mono ?_
            rintro e w1 ⟨rfl, hb1⟩
            rw [cb_num HX2.out]
            go_wp2_with fail
            refine (float_c X x1 _).mono ?_
            rintro e w2 ⟨rfl, hb2⟩
            rw [fl_num HX2.out]
            go_wp2_with fail
            refine (kind_c X x1 _).mono ?_
            rintro e wz ⟨rfl, rfl⟩
            rw [HX3.out]
            go_wp2_with fail
            refine (minus_c X x1 _).mono ?_
            rintro e wz ⟨rfl, rfl⟩
            rw [HX4.out]
            go_wp2_with fail
            refine (live_c _).mono ?_
            rintro e w5 ⟨rfl, hb5⟩
            go_wp2
            go_ret
            have c2 := hb1.trans (hb2.mono hb1.size)
            exact ⟨rfl, c2.trans (hb5.mono c2.size)⟩
          · have hn := hE (by omega)
            have hw0 : wm n = 0 := by unfold wm; rw [if_neg h52]
            have hM : mk n i = 9007199254740992 := by
              rw [show i = 0 from by omega, mk_zero]; exact hn
            rw [hM]
            have hfe : ((c : Int) == 54) = true := by rw [beq_iff_eq]; omega
            clear hM hn
            have HW := Lib.hid hw0
            clear hw0
            go_wp2_with fail
            rw [show ((1022 + (c : Int)) * 4503599627370496) = ((nw (1023 + n.log2) (wm n) : Nat) : Int) from by rw [HW.out]; unfold nw; omega]
            have HX := facts (nw (1023 + n.log2) (wm n)) hnw0 hnw
            generalize nw (1023 + n.log2) (wm n) = W at *
            first
              | rw [HX.2.1]; have HZ := HX.2.2; generalize Op.negFloat .f64 W = X at *
              | have HZ := HX.1; generalize W = X at *
            obtain ⟨x1, x2, x3, x4, x5, x6⟩ := HZ
            have HX5 := Lib.hid x5
            have HX4 := Lib.hid x4
            have HX3 := Lib.hid x3
            have HX2 := Lib.hid x2
            clear x2 x3 x4 x5 HX
            refine (bits_c X x1 _).mono ?_
            rintro e w1 ⟨rfl, hb1⟩
            rw [cb_num HX2.out]
            go_wp2_with fail
            refine (float_c X x1 _).mono ?_
            rintro e w2 ⟨rfl, hb2⟩
            rw [fl_num HX2.out]
            go_wp2_with fail
            refine (kind_c X x1 _).mono ?_
            rintro e wz ⟨rfl, rfl⟩
            rw [HX3.out]
            go_wp2_with fail
            refine (minus_c X x1 _).mono ?_
            rintro e wz ⟨rfl, rfl⟩
            rw [HX4.out]
            go_wp2_with fail
            refine (live_c _).mono ?_
            rintro e w5 ⟨rfl, hb5⟩
            go_wp2
            go_ret
            have c2 := hb1.trans (hb2.mono hb1.size)
            exact ⟨rfl, c2.trans (hb5.mono c2.size)⟩

theorem walk (n : Int) (b : Bool) (_wn : (Lit.int .i64 n).wf = true) (w : World) :
    Calls Try.prog 7 #[.int .i64 n, .bool b] w fun e w' => e = .returned (.bool true) ∧ Below w.heap.size w w' := by
  by_cases h1 : n < 1
  · exact walk_out n b (.inl h1) w
  · by_cases h2 : 9007199254740992 < n
    · exact walk_out n b (.inr ⟨by omega, h2⟩) w
    · obtain ⟨k, rfl⟩ := Int.eq_ofNat_of_zero_le (show 0 ≤ n by omega)
      exact walk_in k b (by omega) (by omega) w
end bitsWhole
end Go.Proofs.Ytaahfcljcejemaa
