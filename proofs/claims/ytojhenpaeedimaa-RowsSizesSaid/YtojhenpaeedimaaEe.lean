/-
 Contracts of the document's First, Valid, Count, Cut and Put of layer 4.
 Contracts of word's Take, and of the document's.
-/
import Derived.Test.YtojhenpaeedimaaEb
import Derived.Test.YtojhenpaeedimaaEc
import Derived.Test.YtojhenpaeedimaaBi
import Derived.Test.YtojhenpaeedimaaBl
section
namespace Go.Proofs.Ytojhenpaeedimaa
open Go.RowKit
open Wd
set_option maxRecDepth 100000
theorem rFirst_c (l : List UInt8) (hl : l.length ≤ 140737488351232) (w : World) :
  Calls Try.prog 88 #[.string (ba l)] w fun e w' => e = .returned (.tuple #[.int .i64 (fstV l : Int), .bool (!valid l)]) ∧ w = w' := by
 have hs := ba_size l
 go_enter Try.func88, Try.ntmps88
 go_wp2_with fail
 go_loop [4, 5] (fun a _ => ∃ k : Nat, a = .int .i64 (k : Int) ∧ k ≤ l.length ∧ k + ends (l.drop k) = ends l) (fun a _ => l.length - (Go.RowKit.intOf a).toNat)
 case atStart => exact ⟨0, rfl, Nat.zero_le _, by simp⟩
 case round =>
  obtain ⟨k, rfl, hk, he⟩ := hrel
  have HE := Lib.hid he
  clear he
  by_cases hlt : k < l.length
  ·obtain ⟨n, hn⟩ : ∃ n, n = sgn (l.drop k) := ⟨_, rfl⟩
   have hle := sgn_le (l.drop k)
   rw [← hn, List.length_drop] at hle
   have HN := Lib.hid hn
   clear hn
   by_cases h0 : n = 0
   ·have ht : ((n : Int) == 0) = true := by simp; omega
    have hstop := (ends_stop (HN.out.symm.trans h0)).1
    have hke : k = ends l := by have := HE.out; omega
    have hnv : ¬ valid l = true := fun hv => by have := valid_iff.1 hv; omega
    have HF : Hid ((k : Int) = (fstV l : Int) ∧ (!valid l) = true) := by unfold Hid fstV; rw [if_neg hnv]; exact ⟨by omega, by simpa using hnv⟩
    clear h0 hstop hke hnv
    go_wp2_with (go_at_call 101; refine (sign_c l hl k hk _).mono ?_; rintro e wz ⟨rfl, rfl⟩; rw [← HN.out])
    go_ret2
    exact ⟨ret_ib (by rw [HF.out.1]) (by rw [HF.out.2]), rfl⟩
   ·have ht : ((n : Int) == 0) = false := by simp; omega
    have hst := (ends_step HN.out.symm (by omega)).1
    rw [List.drop_drop] at hst
    have HS := Lib.hid hst
    have hn1 : 1 ≤ n := by omega
    clear h0 hst
    go_wp2_with (go_at_call 101; refine (sign_c l hl k hk _).mono ?_; rintro e wz ⟨rfl, rfl⟩; rw [← HN.out])
    go_round
    case rel => exact ⟨k + n, by go_num, by omega, by have := HE.out; rw [HS.out] at this; omega⟩
    case measure => simp only [Go.RowKit.intOf]; omega
  ·have hv : valid l = true := by
    rw [valid_iff, ← HE.out, List.drop_eq_nil_of_le (by omega), ends_nil]; omega
   have HF : Hid (fstV l = 0 ∧ (!valid l) = false) := by unfold Hid fstV; rw [if_pos hv, hv]; exact ⟨rfl, rfl⟩
   clear hv
   go_wp2_with fail
   go_ret2
   exact ⟨ret_ib (by rw [HF.out.1]; rfl) (by rw [HF.out.2]), rfl⟩
theorem rValid_c (l : List UInt8) (hl : l.length ≤ 140737488351232) (w : World) :
  Calls Try.prog 61 #[.string (ba l)] w fun e w' => e = .returned (.bool (valid l)) ∧ w = w' := by
 go_enter Try.func61, Try.ntmps61
 go_wp2_with (go_at_call 88; refine (rFirst_c l hl _).mono ?_; rintro e wz ⟨rfl, rfl⟩)
 go_ret
 exact ⟨ret_bool (by simp), rfl⟩
theorem rwput_c (l : List UInt8) (hl : l.length ≤ 140737488351232) (w : World) :
  Calls Try.prog 25 #[.string (ba l)] w fun e w' => e = .returned (.string (ba (Pk.put l.length ++ l))) ∧ Below w.heap.size w w' := by
 have hs := ba_size l
 have hp := Pk.put_len10 (n := l.length) (by omega)
 have hadd : ∀ wx : World, (Op.stringOp .add (ba (Pk.put l.length)) (ba l)).run Try.prog wx = .ok (.string (ba (Pk.put l.length ++ l))) wx := fun wx => by
  rw [run_string_add_sum wx (ba (Pk.put l.length)) (ba l) (by rw [ba_size, ba_size]; omega)]
  congr 2
 clear hp
 go_enter Try.func25, Try.ntmps25
 go_wp2_with (go_at_call 24; refine (rPut_c l.length (by omega) _).mono ?_; rintro e w1 ⟨rfl, hb1⟩)
 go_ret
 exact ⟨rfl, hb1⟩
end Go.Proofs.Ytojhenpaeedimaa
end
section
namespace Go.Proofs.Ytojhenpaeedimaa
open Go.RowKit
open Wd Pk
set_option maxRecDepth 100000
/-- P4.3: the text that stands at a place, the place behind it, and the error -/
def tk (l : List UInt8) (at_ most : Int) : List UInt8 × Int × Int :=
 if at_ < 0 ∨ (l.length : Int) < at_ then ([], 0, 1)
 else if (numS ⟨l.drop at_.toNat, 0⟩).e ≠ 0 then ([], 0, (numS ⟨l.drop at_.toNat, 0⟩).e)
 else if most < 0 ∨ most < (numV ⟨l.drop at_.toNat, 0⟩ : Int) then ([], 0, 10)
 else if (numS ⟨l.drop at_.toNat, 0⟩).l.length < numV ⟨l.drop at_.toNat, 0⟩ then ([], 0, 2)
 else if valid ((numS ⟨l.drop at_.toNat, 0⟩).l.take (numV ⟨l.drop at_.toNat, 0⟩)) = true then
  ((numS ⟨l.drop at_.toNat, 0⟩).l.take (numV ⟨l.drop at_.toNat, 0⟩), (l.length : Int) - (((numS ⟨l.drop at_.toNat, 0⟩).l.drop (numV ⟨l.drop at_.toNat, 0⟩)).length : Int), 0)
 else ([], 0, 4)
def Tk (l : List UInt8) (at_ most : Int) (e : Ending) : Prop := e = .returned (.tuple #[.string (ba (tk l at_ most).1), .int .i64 (tk l at_ most).2.1, .int .i64 (tk l at_ most).2.2])
theorem tk_mk {l : List UInt8} {at_ most : Int} {a : List UInt8} {b c : Int} (h : tk l at_ most = (a, b, c)) : Tk l at_ most (.returned (.tuple #[.string (ba a), .int .i64 b, .int .i64 c])) := by
 unfold Tk; rw [h]
theorem tk_arg {l : List UInt8} {at_ most : Int} (h : at_ < 0 ∨ (l.length : Int) < at_) : tk l at_ most = ([], 0, 1) := by unfold tk; rw [if_pos h]
section
variable {l : List UInt8} {k v : Nat} {most : Int} {st : St}
theorem tk_err (hk : k ≤ l.length) (hs : st = numS ⟨l.drop k, 0⟩) (he : st.e ≠ 0) : tk l (k : Int) most = ([], 0, st.e) := by
 subst hs
 unfold tk
 rw [if_neg (by omega), show ((k : Int)).toNat = k from rfl, if_pos he]
theorem tk_big (hk : k ≤ l.length) (hs : st = numS ⟨l.drop k, 0⟩) (hv : v = numV ⟨l.drop k, 0⟩) (he : st.e = 0) (hb : most < 0 ∨ most < (v : Int)) : tk l (k : Int) most = ([], 0, 10) := by
 subst hs hv
 unfold tk
 rw [if_neg (by omega), show ((k : Int)).toNat = k from rfl, if_neg (by simpa using he), if_pos hb]
theorem tk_cut (hk : k ≤ l.length) (hs : st = numS ⟨l.drop k, 0⟩) (hv : v = numV ⟨l.drop k, 0⟩) (he : st.e = 0) (hb : ¬(most < 0 ∨ most < (v : Int))) (hc : st.l.length < v) : tk l (k : Int) most = ([], 0, 2) := by
 subst hs hv
 unfold tk
 rw [if_neg (by omega), show ((k : Int)).toNat = k from rfl, if_neg (by simpa using he), if_neg hb, if_pos hc]
theorem tk_text (hk : k ≤ l.length) (hs : st = numS ⟨l.drop k, 0⟩) (hv : v = numV ⟨l.drop k, 0⟩) (he : st.e = 0) (hb : ¬(most < 0 ∨ most < (v : Int))) (hc : ¬ st.l.length < v) (ht : valid (st.l.take v) = false) : tk l (k : Int) most = ([], 0, 4) := by
 subst hs hv
 unfold tk
 rw [if_neg (by omega), show ((k : Int)).toNat = k from rfl, if_neg (by simpa using he), if_neg hb, if_neg hc, if_neg (by rw [ht]; simp)]
theorem tk_ok (hk : k ≤ l.length) (hs : st = numS ⟨l.drop k, 0⟩) (hv : v = numV ⟨l.drop k, 0⟩) (he : st.e = 0) (hb : ¬(most < 0 ∨ most < (v : Int))) (hc : ¬ st.l.length < v) (ht : valid (st.l.take v) = true) : tk l (k : Int) most = (st.l.take v, (l.length : Int) - ((st.l.drop v).length : Int), 0) := by
 subst hs hv
 unfold tk
 rw [if_neg (by omega), show ((k : Int)).toNat = k from rfl, if_neg (by simpa using he), if_neg hb, if_neg hc, if_pos ht]
end
/-- the six ends of Take -/
inductive Way (l : List UInt8) (most : Int) (st : St) (v : Nat) : Prop where
 | err : st.e ≠ 0 → Way l most st v
 | neg : st.e = 0 → most < 0 → Way l most st v
 | big (m : Nat) : st.e = 0 → most = (m : Int) → m < v → Way l most st v
 | cut (m : Nat) : st.e = 0 → most = (m : Int) → v ≤ m → st.l.length < v → Way l most st v
 | text (m : Nat) : st.e = 0 → most = (m : Int) → v ≤ m → v ≤ st.l.length → valid (st.l.take v) = false → Way l most st v
 | ok (m : Nat) : st.e = 0 → most = (m : Int) → v ≤ m → v ≤ st.l.length → valid (st.l.take v) = true → Way l most st v
theorem way (l : List UInt8) (most : Int) (st : St) (v : Nat) : Way l most st v := by
 by_cases h1 : st.e = 0
 ·by_cases h2 : most < 0
  ·exact .neg h1 h2
  ·obtain ⟨m, hm⟩ := Int.eq_ofNat_of_zero_le (show 0 ≤ most by omega)
   by_cases h3 : m < v
   ·exact .big m h1 hm h3
   ·by_cases h4 : st.l.length < v
    ·exact .cut m h1 hm (by omega) h4
    ·cases h5 : valid (st.l.take v)
     ·exact .text m h1 hm (by omega) (by omega) h5
     ·exact .ok m h1 hm (by omega) (by omega) h5
 ·exact .err h1
set_option maxHeartbeats 4000000 in
theorem take_w (l : List UInt8) (hl : l.length ≤ 140737488351232) (at_ most : Int) (hm : most ≤ 9223372036854775807) (w : World) :
  Calls Try.prog 97 #[.string (ba l), .int .i64 at_, .int .i64 most] w fun e w' => Tk l at_ most e ∧ Below w.heap.size w w' := by
 have hs := ba_size l
 by_cases ha : at_ < 0 ∨ (l.length : Int) < at_
 ·have HK := Lib.hid (tk_arg (most := most) ha)
  rcases ha with ha | ha
  all_goals
   go_enter Try.func97, Try.ntmps97
   go_wp2
   go_ret3
   exact ⟨tk_mk HK.out, Below.refl _ _⟩
 ·obtain ⟨k, rfl⟩ := Int.eq_ofNat_of_zero_le (show 0 ≤ at_ by omega)
  have hk : k ≤ l.length := by omega
  clear ha
  have hext := extract_drop l k
  obtain ⟨L, hL⟩ : ∃ L, L = l.drop k := ⟨_, rfl⟩
  rw [← hL] at hext
  obtain ⟨st, hst⟩ : ∃ st, st = numS ⟨L, 0⟩ := ⟨_, rfl⟩
  obtain ⟨v, hv⟩ : ∃ v, v = numV ⟨L, 0⟩ := ⟨_, rfl⟩
  have hsl : st.l.length ≤ l.length := by
   have h1 := numS_len ⟨L, 0⟩
   rw [← hst] at h1
   simp only [hL, List.length_drop] at h1
   omega
  have HS := Lib.hid hst
  have HV := Lib.hid hv
  have HS2 : Hid (st = numS ⟨l.drop k, 0⟩) := by unfold Hid; rw [← hL]; exact hst
  have HV2 : Hid (v = numV ⟨l.drop k, 0⟩) := by unfold Hid; rw [← hL]; exact hv
  clear hL hst hv
  rcases way l most st v with h1 | ⟨h1, h2⟩ | ⟨m, h1, rfl, h2⟩ | ⟨m, h1, rfl, h2, h3⟩ | ⟨m, h1, rfl, h2, h3, h4⟩ | ⟨m, h1, rfl, h2, h3, h4⟩
  ·have HK := Lib.hid (tk_err (most := most) hk HS2.out h1)
   have t1 : (st.e != 0) = true := by simpa using h1
   clear h1
   go_enter Try.func97, Try.ntmps97
   go_wp2_with (first | (go_at_call 30; refine (new_c L _).mono ?_; rintro e w1 ⟨rfl, hr1, hw1⟩; have hb1 : Below w.heap.size w w1 := (by rw [hw1]; exact (Below.refl _ _).alloc (Nat.le_refl _) _); clear hw1) | (go_at_call 56; refine (num_m _ ⟨L, 0⟩ _ hr1).mono ?_; rintro e w2 ⟨rfl, hr2, ho2⟩; rw [← HV.out]; rw [← HS.out] at hr2; have hb2 := below_only hb1 ho2 hb1.size (Nat.le_refl _); clear ho2) | (go_at_call 57; refine (err_c _ _ _ (by assumption)).mono ?_; rintro e wz ⟨rfl, rfl⟩))
   go_ret3
   exact ⟨tk_mk HK.out, hb2⟩
  ·have HK := Lib.hid (tk_big hk HS2.out HV2.out h1 (.inl h2))
   have t1 : (st.e != 0) = false := by rw [h1]; rfl
   clear h1
   go_enter Try.func97, Try.ntmps97
   go_wp2_with (first | (go_at_call 30; refine (new_c L _).mono ?_; rintro e w1 ⟨rfl, hr1, hw1⟩; have hb1 : Below w.heap.size w w1 := (by rw [hw1]; exact (Below.refl _ _).alloc (Nat.le_refl _) _); clear hw1) | (go_at_call 56; refine (num_m _ ⟨L, 0⟩ _ hr1).mono ?_; rintro e w2 ⟨rfl, hr2, ho2⟩; rw [← HV.out]; rw [← HS.out] at hr2; have hb2 := below_only hb1 ho2 hb1.size (Nat.le_refl _); clear ho2) | (go_at_call 57; refine (err_c _ _ _ (by assumption)).mono ?_; rintro e wz ⟨rfl, rfl⟩))
   go_ret3
   exact ⟨tk_mk HK.out, hb2⟩
  ·have HK := Lib.hid (tk_big (most := (m : Int)) hk HS2.out HV2.out h1 (.inr (by omega)))
   have t1 : (st.e != 0) = false := by rw [h1]; rfl
   clear h1
   go_enter Try.func97, Try.ntmps97
   go_wp2_with (first | (go_at_call 30; refine (new_c L _).mono ?_; rintro e w1 ⟨rfl, hr1, hw1⟩; have hb1 : Below w.heap.size w w1 := (by rw [hw1]; exact (Below.refl _ _).alloc (Nat.le_refl _) _); clear hw1) | (go_at_call 56; refine (num_m _ ⟨L, 0⟩ _ hr1).mono ?_; rintro e w2 ⟨rfl, hr2, ho2⟩; rw [← HV.out]; rw [← HS.out] at hr2; have hb2 := below_only hb1 ho2 hb1.size (Nat.le_refl _); clear ho2) | (go_at_call 57; refine (err_c _ _ _ (by assumption)).mono ?_; rintro e wz ⟨rfl, rfl⟩))
   go_ret3
   exact ⟨tk_mk HK.out, hb2⟩
  ·have HK := Lib.hid (tk_cut (most := (m : Int)) hk HS2.out HV2.out h1 (by omega) h3)
   have hq := take_cut (n := (v : Int)) h1 (.inr (by omega))
   have HQ := Lib.hid hq
   have t1 : (st.e != 0) = false := by rw [h1]; rfl
   have hv63 : v ≤ 9223372036854775807 := by omega
   clear h1 hq
   go_enter Try.func97, Try.ntmps97
   go_wp2_with (first | (go_at_call 30; refine (new_c L _).mono ?_; rintro e w1 ⟨rfl, hr1, hw1⟩; have hb1 : Below w.heap.size w w1 := (by rw [hw1]; exact (Below.refl _ _).alloc (Nat.le_refl _) _); clear hw1) | (go_at_call 56; refine (num_m _ ⟨L, 0⟩ _ hr1).mono ?_; rintro e w2 ⟨rfl, hr2, ho2⟩; rw [← HV.out]; rw [← HS.out] at hr2; have hb2 := below_only hb1 ho2 hb1.size (Nat.le_refl _); clear ho2) | (go_at_call 57; refine (err_c _ _ _ (by assumption)).mono ?_; rintro e wz ⟨rfl, rfl⟩))
   refine (take_m _ (v : Int) st _ hr2).mono ?_
   rintro e w3 ⟨rfl, hr3, ho3⟩
   rw [HQ.out.1]
   rw [HQ.out.2] at hr3
   have hb3 := below_only hb2 ho3 hb2.size (Nat.le_refl _)
   clear ho3 hr2 hr1 hb1
   go_wp2_with (first | (go_at_call 57; refine (err_c _ _ _ hr3).mono ?_; rintro e wz ⟨rfl, rfl⟩) | (go_at_call 90; refine (valid_c _ htl _).mono ?_; rintro e wz ⟨rfl, rfl⟩) | (go_at_call 59; refine (left_c _ _ _ hr3).mono ?_; rintro e wz ⟨rfl, rfl⟩))
   go_ret3
   exact ⟨tk_mk HK.out, hb3⟩
  ·have HK := Lib.hid (tk_text (most := (m : Int)) hk HS2.out HV2.out h1 (by omega) (by omega) h4)
   have hq := take_ok (n := (v : Int)) h1 (by omega)
   have HQ := Lib.hid hq
   have t1 : (st.e != 0) = false := by rw [h1]; rfl
   have hv63 : v ≤ 9223372036854775807 := by omega
   have htl : (st.l.take v).length ≤ 140737488351232 := by rw [List.length_take]; omega
   clear h1 hq
   go_enter Try.func97, Try.ntmps97
   go_wp2_with (first | (go_at_call 30; refine (new_c L _).mono ?_; rintro e w1 ⟨rfl, hr1, hw1⟩; have hb1 : Below w.heap.size w w1 := (by rw [hw1]; exact (Below.refl _ _).alloc (Nat.le_refl _) _); clear hw1) | (go_at_call 56; refine (num_m _ ⟨L, 0⟩ _ hr1).mono ?_; rintro e w2 ⟨rfl, hr2, ho2⟩; rw [← HV.out]; rw [← HS.out] at hr2; have hb2 := below_only hb1 ho2 hb1.size (Nat.le_refl _); clear ho2) | (go_at_call 57; refine (err_c _ _ _ (by assumption)).mono ?_; rintro e wz ⟨rfl, rfl⟩))
   refine (take_m _ (v : Int) st _ hr2).mono ?_
   rintro e w3 ⟨rfl, hr3, ho3⟩
   rw [HQ.out.1]
   rw [HQ.out.2] at hr3
   have hb3 := below_only hb2 ho3 hb2.size (Nat.le_refl _)
   clear ho3 hr2 hr1 hb1
   go_wp2_with (first | (go_at_call 57; refine (err_c _ _ _ hr3).mono ?_; rintro e wz ⟨rfl, rfl⟩) | (go_at_call 90; refine (valid_c _ htl _).mono ?_; rintro e wz ⟨rfl, rfl⟩) | (go_at_call 59; refine (left_c _ _ _ hr3).mono ?_; rintro e wz ⟨rfl, rfl⟩))
   go_ret3
   exact ⟨tk_mk HK.out, hb3⟩
  ·have HK := Lib.hid (tk_ok (most := (m : Int)) hk HS2.out HV2.out h1 (by omega) (by omega) h4)
   have hq := take_ok (n := (v : Int)) h1 (by omega)
   have HQ := Lib.hid hq
   have t1 : (st.e != 0) = false := by rw [h1]; rfl
   have hv63 : v ≤ 9223372036854775807 := by omega
   have htl : (st.l.take v).length ≤ 140737488351232 := by rw [List.length_take]; omega
   have hdl : (st.l.drop v).length ≤ l.length := by rw [List.length_drop]; omega
   clear h1 hq
   go_enter Try.func97, Try.ntmps97
   go_wp2_with (first | (go_at_call 30; refine (new_c L _).mono ?_; rintro e w1 ⟨rfl, hr1, hw1⟩; have hb1 : Below w.heap.size w w1 := (by rw [hw1]; exact (Below.refl _ _).alloc (Nat.le_refl _) _); clear hw1) | (go_at_call 56; refine (num_m _ ⟨L, 0⟩ _ hr1).mono ?_; rintro e w2 ⟨rfl, hr2, ho2⟩; rw [← HV.out]; rw [← HS.out] at hr2; have hb2 := below_only hb1 ho2 hb1.size (Nat.le_refl _); clear ho2) | (go_at_call 57; refine (err_c _ _ _ (by assumption)).mono ?_; rintro e wz ⟨rfl, rfl⟩))
   refine (take_m _ (v : Int) st _ hr2).mono ?_
   rintro e w3 ⟨rfl, hr3, ho3⟩
   rw [HQ.out.1]
   rw [HQ.out.2] at hr3
   have hb3 := below_only hb2 ho3 hb2.size (Nat.le_refl _)
   clear ho3 hr2 hr1 hb1
   go_wp2_with (first | (go_at_call 57; refine (err_c _ _ _ hr3).mono ?_; rintro e wz ⟨rfl, rfl⟩) | (go_at_call 90; refine (valid_c _ htl _).mono ?_; rintro e wz ⟨rfl, rfl⟩) | (go_at_call 59; refine (left_c _ _ _ hr3).mono ?_; rintro e wz ⟨rfl, rfl⟩))
   go_ret3
   exact ⟨tk_mk (by rw [HK.out, List.length_drop]), hb3⟩
end Go.Proofs.Ytojhenpaeedimaa
end
