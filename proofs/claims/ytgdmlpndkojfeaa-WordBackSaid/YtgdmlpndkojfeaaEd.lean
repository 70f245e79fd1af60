/-
  Contracts of the document's First, Valid, Count, Cut and Put of layer 4.
-/
import Derived.Test.YtgdmlpndkojfeaaEb
import Derived.Test.YtgdmlpndkojfeaaEc
namespace Go.Proofs.Ytgdmlpndkojfeaa
open Go.RowKit
open Wd
set_option maxRecDepth 100000

theorem rFirst_c (l : List UInt8) (hl : l.length ≤ 140737488351232) (w : World) :
    Calls Try.prog 40 #[.string (ba l)] w fun e w' => e = .returned (.tuple #[.int .i64 (fstV l : Int), .bool (!valid l)]) ∧ w = w' := by
  have hs := ba_size l
  go_enter Try.func40, Try.ntmps40
  go_wp2_with fail
  go_loop [4, 5] (fun a _ => ∃ k : Nat, a = .int .i64 (k : Int) ∧ k ≤ l.length ∧ k + ends (l.drop k) = ends l) (fun a _ => l.length - (intOf a).toNat)
  case atStart => exact ⟨0, rfl, Nat.zero_le _, by simp⟩
  case round =>
    obtain ⟨k, rfl, hk, he⟩ := hrel
    have HE := Lib.hid he
    clear he
    by_cases hlt : k < l.length
    · obtain ⟨n, hn⟩ : ∃ n, n = sgn (l.drop k) := ⟨_, rfl⟩
      have hle := sgn_le (l.drop k)
      rw [← hn, List.length_drop] at hle
      have HN := Lib.hid hn
      clear hn
      by_cases h0 : n = 0
      · have ht : ((n : Int) == 0) = true := by simp; omega
        have hstop := (ends_stop (HN.out.symm.trans h0)).1
        have hke : k = ends l := by have := HE.out; omega
        have hnv : ¬ valid l = true := fun hv => by have := valid_iff.1 hv; omega
        have HF : Hid ((k : Int) = (fstV l : Int) ∧ (!valid l) = true) := by unfold Hid fstV; rw [if_neg hnv]; exact ⟨by omega, by simpa using hnv⟩
        clear h0 hstop hke hnv
        go_wp2_with (go_at_call 59; refine (sign_c l hl k hk _).mono ?_; rintro e wz ⟨rfl, rfl⟩; rw [← HN.out])
        go_ret2
        exact ⟨ret_ib (by rw [HF.out.1]) (by rw [HF.out.2]), rfl⟩
      · have ht : ((n : Int) == 0) = false := by simp; omega
        have hst := (ends_step HN.out.symm (by omega)).1
        rw [List.drop_drop] at hst
        have HS := Lib.hid hst
        have hn1 : 1 ≤ n := by omega
        clear h0 hst
        go_wp2_with (go_at_call 59; refine (sign_c l hl k hk _).mono ?_; rintro e wz ⟨rfl, rfl⟩; rw [← HN.out])
        go_round
        case rel => exact ⟨k + n, by go_num, by omega, by have := HE.out; rw [HS.out] at this; omega⟩
        case measure => simp only [intOf]; omega
    · have hv : valid l = true := by
        rw [valid_iff, ← HE.out, List.drop_eq_nil_of_le (by omega), ends_nil]; omega
      have HF : Hid (fstV l = 0 ∧ (!valid l) = false) := by unfold Hid fstV; rw [if_pos hv, hv]; exact ⟨rfl, rfl⟩
      clear hv
      go_wp2_with fail
      go_ret2
      exact ⟨ret_ib (by rw [HF.out.1]; rfl) (by rw [HF.out.2]), rfl⟩

theorem rValid_c (l : List UInt8) (hl : l.length ≤ 140737488351232) (w : World) :
    Calls Try.prog 44 #[.string (ba l)] w fun e w' => e = .returned (.bool (valid l)) ∧ w = w' := by
  go_enter Try.func44, Try.ntmps44
  go_wp2_with (go_at_call 40; refine (rFirst_c l hl _).mono ?_; rintro e wz ⟨rfl, rfl⟩)
  go_ret
  exact ⟨ret_bool (by simp), rfl⟩

theorem rCount_c (l : List UInt8) (hl : l.length ≤ 140737488351232) (w : World) :
    Calls Try.prog 42 #[.string (ba l)] w fun e w' => e = .returned (.tuple #[.int .i64 (cntV l : Int), .bool (valid l)]) ∧ w = w' := by
  have hs := ba_size l
  by_cases hv : valid l = true
  · have HF : Hid (cntV l = cnt l) := by unfold Hid cntV; rw [if_pos hv]
    have HV := Lib.hid (valid_iff.1 hv)
    go_enter Try.func42, Try.ntmps42
    go_wp2_with (go_at_call 44; refine (rValid_c l hl _).mono ?_; rintro e wz ⟨rfl, rfl⟩)
    go_loop [4, 5] (fun c a => ∃ k n : Nat, c = .int .i64 (n : Int) ∧ a = .int .i64 (k : Int) ∧ k ≤ l.length ∧ n ≤ k ∧ k + ends (l.drop k) = ends l ∧ n + cnt (l.drop k) = cnt l) (fun _ a => l.length - (intOf a).toNat)
    case atStart => exact ⟨0, 0, rfl, rfl, Nat.zero_le _, Nat.le_refl _, by simp, by simp⟩
    case round =>
      obtain ⟨k, c, rfl, rfl, hk, hck, he, hc⟩ := hrel
      have HE := Lib.hid he
      have HC := Lib.hid hc
      clear he hc
      by_cases hlt : k < l.length
      · obtain ⟨n, hn⟩ : ∃ n, n = sgn (l.drop k) := ⟨_, rfl⟩
        have hle := sgn_le (l.drop k)
        rw [← hn, List.length_drop] at hle
        have hn1 : 1 ≤ n := by
          rcases Nat.eq_zero_or_pos n with h0 | h0
          · have hstop := (ends_stop (hn.symm.trans h0)).1
            have h1 := HE.out
            have h2 := HV.out
            omega
          · exact h0
        have hst := ends_step hn.symm hn1
        rw [List.drop_drop] at hst
        have HS := Lib.hid hst
        have HN := Lib.hid hn
        clear hn hst
        go_wp2_with (go_at_call 59; refine (sign_c l hl k hk _).mono ?_; rintro e wz ⟨rfl, rfl⟩; rw [← HN.out])
        go_round
        case rel => exact ⟨k + n, c + 1, by go_num, by go_num, by omega, by omega, by have := HE.out; rw [HS.out.1] at this; omega, by have := HC.out; rw [HS.out.2] at this; omega⟩
        case measure => simp only [intOf]; omega
      · have hcc : c = cnt l := by
          have := HC.out
          rw [List.drop_eq_nil_of_le (by omega), (ends_stop sgn_nil).2] at this
          omega
        have HCC := Lib.hid hcc
        clear hcc
        go_wp2_with fail
        go_ret2
        exact ⟨ret_ib (by rw [HF.out, ← HCC.out]) (by first | rfl | rw [hv]), rfl⟩
  · have HF : Hid (cntV l = 0) := by unfold Hid cntV; rw [if_neg hv]
    have hf : valid l = false := by simpa using hv
    clear hv
    go_enter Try.func42, Try.ntmps42
    go_wp2_with (go_at_call 44; refine (rValid_c l hl _).mono ?_; rintro e wz ⟨rfl, rfl⟩)
    go_ret2
    exact ⟨ret_ib (by rw [HF.out]; rfl) (by first | rfl | rw [hf]), rfl⟩

theorem rwput_c (l : List UInt8) (hl : l.length ≤ 140737488351232) (w : World) :
    Calls Try.prog 48 #[.string (ba l)] w fun e w' => e = .returned (.string (ba (Pk.put l.length ++ l))) ∧ Below w.heap.size w w' := by
  have hs := ba_size l
  have hp := Pk.put_len10 (n := l.length) (by omega)
  have hadd : ∀ wx : World, (Op.stringOp .add (ba (Pk.put l.length)) (ba l)).run Try.prog wx = .ok (.string (ba (Pk.put l.length ++ l))) wx := fun wx => by
    rw [run_string_add_sum wx (ba (Pk.put l.length)) (ba l) (by rw [ba_size, ba_size]; omega)]
    congr 2
  clear hp
  go_enter Try.func48, Try.ntmps48
  go_wp2_with (go_at_call 16; refine (rPut_c l.length (by omega) _).mono ?_; rintro e w1 ⟨rfl, hb1⟩)
  go_ret
  exact ⟨rfl, hb1⟩

/-- from the room on down, the first begin that is valid -/
theorem rCut_c (l : List UInt8) (hl : l.length ≤ 140737488351232) (most : Int) (w : World) :
    Calls Try.prog 46 #[.string (ba l), .int .i64 most] w fun e w' => e = .returned (.string (ba (cutV l most))) ∧ w = w' := by
  have hs := ba_size l
  by_cases h1 : most < 1
  · have hr : room l most = 0 := by unfold room; omega
    have HV : Hid (cutV l most = []) := by unfold Hid cutV; rw [hr]; simp
    clear hr
    go_enter Try.func46, Try.ntmps46
    go_wp2_with fail
    refine wp_loop_rounds 1 ?_
    rw [rounds_succ]
    go_wp2_with fail
    go_ret
    exact ⟨ret_str (by rw [HV.out]; rfl), rfl⟩
  · obtain ⟨m, hm⟩ : ∃ m, m = room l most := ⟨_, rfl⟩
    have hml : m ≤ l.length := by unfold room at hm; omega
    obtain ⟨c, hc⟩ : ∃ c, c = ends (l.take m) := ⟨_, rfl⟩
    have hcm : c ≤ m := by rw [hc]; have := (ends_le (l.take m)).1; rw [List.length_take] at this; omega
    have hmin : (if (l.length : Int) < most then (l.length : Int) else most) = (m : Int) := by unfold room at hm; split <;> omega
    have HV : Hid (cutV l most = l.take c) := by
      unfold Hid cutV
      rw [← hm, ← hc, List.take_take]
      congr 1
      omega
    have HC : Hid (valid (l.take c) = true) := by
      unfold Hid
      have := valid_take (l.take m)
      rw [← hc, List.take_take, Nat.min_eq_left hcm] at this
      exact this
    have HM : Hid (∀ n, n ≤ m → valid (l.take n) = true → n ≤ c) := fun n hn hv => by
      rw [hc]
      exact valid_most (by rw [List.length_take]; omega) (by rw [List.take_take, Nat.min_eq_left hn]; exact hv)
    clear hm hc
    go_enter Try.func46, Try.ntmps46
    go_wp2_with fail
    clear hmin h1
    go_loop [5] (fun a => ∃ k : Nat, a = .int .i64 (k : Int) ∧ k ≤ m ∧ c ≤ k) (fun a => (intOf a).toNat)
    case atStart => exact ⟨m, rfl, Nat.le_refl _, hcm⟩
    case round =>
      obtain ⟨k, rfl, hkm, hck⟩ := hrel
      by_cases h0 : 0 < k
      · have hext := extract_take l k
        have htl : (l.take k).length ≤ 140737488351232 := by rw [List.length_take]; omega
        rcases Nat.eq_or_lt_of_le hck with hkc | hkc
        · have hv : valid (l.take k) = true := by rw [← hkc]; exact HC.out
          have HV2 : Hid (l.take c = l.take k) := by unfold Hid; rw [hkc]
          clear hkc
          go_wp2_with (go_at_call 44; refine (rValid_c (l.take k) htl _).mono ?_; rintro e wz ⟨rfl, rfl⟩)
          go_ret
          exact ⟨ret_str (by rw [HV.out, HV2.out]), rfl⟩
        · have hv : valid (l.take k) = false := by
            cases h : valid (l.take k)
            · rfl
            · have := HM.out k hkm h
              omega
          go_wp2_with (go_at_call 44; refine (rValid_c (l.take k) htl _).mono ?_; rintro e wz ⟨rfl, rfl⟩)
          go_round
          case rel => exact ⟨k - 1, by go_num, by omega, by omega⟩
          case measure => simp only [intOf]; omega
      · have HV2 : Hid (l.take c = []) := by unfold Hid; rw [show c = 0 by omega]; rfl
        obtain rfl : k = 0 := by omega
        go_wp2_with fail
        go_ret
        exact ⟨ret_str (by rw [HV.out, HV2.out]; rfl), rfl⟩
end Go.Proofs.Ytgdmlpndkojfeaa
