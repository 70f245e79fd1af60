/-
 Contracts of word's Take, and of the document's.
-/
import Derived.Test.YtojhenpaeedimaaGreatEd
import Derived.Test.YtojhenpaeedimaaGreatBl
import Derived.Deep.QuietTactic
import Derived.BigQuiet
namespace Go.Proofs.YtojhenpaeedimaaGreat
open Go.RowKit
open Wd Pk
set_option maxRecDepth 100000
/-- P4.3: the text that stands at a place, the place behind it, and the error -/
def tk (l : List UInt8) (at_ most : Int) : List UInt8 × Int × Int :=
 if at_ < 0 ∨ (l.length : Int) < at_ then ([], 0, 1)
 else if (numS ⟨l.drop at_.toNat, 0⟩).e ≠ 0 then ([], 0, (numS ⟨l.drop at_.toNat, 0⟩).e)
 else if most < 0 ∨ most < (numV ⟨l.drop at_.toNat, 0⟩ : Int) then ([], 0, 10)
 else if (numS ⟨l.drop at_.toNat, 0⟩).l.length < numV ⟨l.drop at_.toNat, 0⟩ then ([], 0, 2)
 else if valid ((numS ⟨l.drop at_.toNat, 0⟩).l.take (numV ⟨l.drop at_.toNat, 0⟩)) = true then
  ((numS ⟨l.drop at_.toNat, 0⟩).l.take (numV ⟨l.drop at_.toNat, 0⟩), (l.length : Int) - (((numS ⟨l.drop at_.toNat, 0⟩).l.drop (numV ⟨l.drop at_.toNat, 0⟩)).length : Int), 0)
 else ([], 0, 4)
def Tk (l : List UInt8) (at_ most : Int) (e : Ending) : Prop := e = .returned (.tuple #[.string (ba (tk l at_ most).1), .int .i64 (tk l at_ most).2.1, .int .i64 (tk l at_ most).2.2])
theorem tk_mk {l : List UInt8} {at_ most : Int} {a : List UInt8} {b c : Int} (h : tk l at_ most = (a, b, c)) : Tk l at_ most (.returned (.tuple #[.string (ba a), .int .i64 b, .int .i64 c])) := by
 unfold Tk; rw [h]
theorem tk_arg {l : List UInt8} {at_ most : Int} (h : at_ < 0 ∨ (l.length : Int) < at_) : tk l at_ most = ([], 0, 1) := by unfold tk; rw [if_pos h]
section
variable {l : List UInt8} {k v : Nat} {most : Int} {st : St}
theorem tk_err (hk : k ≤ l.length) (hs : st = numS ⟨l.drop k, 0⟩) (he : st.e ≠ 0) : tk l (k : Int) most = ([], 0, st.e) := by
 subst hs
 unfold tk
 rw [if_neg (by omega), show ((k : Int)).toNat = k from rfl, if_pos he]
theorem tk_big (hk : k ≤ l.length) (hs : st = numS ⟨l.drop k, 0⟩) (hv : v = numV ⟨l.drop k, 0⟩) (he : st.e = 0) (hb : most < 0 ∨ most < (v : Int)) : tk l (k : Int) most = ([], 0, 10) := by
 subst hs hv
 unfold tk
 rw [if_neg (by omega), show ((k : Int)).toNat = k from rfl, if_neg (by simpa using he), if_pos hb]
theorem tk_cut (hk : k ≤ l.length) (hs : st = numS ⟨l.drop k, 0⟩) (hv : v = numV ⟨l.drop k, 0⟩) (he : st.e = 0) (hb : ¬(most < 0 ∨ most < (v : Int))) (hc : st.l.length < v) : tk l (k : Int) most = ([], 0, 2) := by
 subst hs hv
 unfold tk
 rw [if_neg (by omega), show ((k : Int)).toNat = k from rfl, if_neg (by simpa using he), if_neg hb, if_pos hc]
theorem tk_text (hk : k ≤ l.length) (hs : st = numS ⟨l.drop k, 0⟩) (hv : v = numV ⟨l.drop k, 0⟩) (he : st.e = 0) (hb : ¬(most < 0 ∨ most < (v : Int))) (hc : ¬ st.l.length < v) (ht : valid (st.l.take v) = false) : tk l (k : Int) most = ([], 0, 4) := by
 subst hs hv
 unfold tk
 rw [if_neg (by omega), show ((k : Int)).toNat = k from rfl, if_neg (by simpa using he), if_neg hb, if_neg hc, if_neg (by rw [ht]; simp)]
theorem tk_ok (hk : k ≤ l.length) (hs : st = numS ⟨l.drop k, 0⟩) (hv : v = numV ⟨l.drop k, 0⟩) (he : st.e = 0) (hb : ¬(most < 0 ∨ most < (v : Int))) (hc : ¬ st.l.length < v) (ht : valid (st.l.take v) = true) : tk l (k : Int) most = (st.l.take v, (l.length : Int) - ((st.l.drop v).length : Int), 0) := by
 subst hs hv
 unfold tk
 rw [if_neg (by omega), show ((k : Int)).toNat = k from rfl, if_neg (by simpa using he), if_neg hb, if_neg hc, if_pos ht]
end
/-- the six ends of Take -/
inductive Way (l : List UInt8) (most : Int) (st : St) (v : Nat) : Prop where
 | err : st.e ≠ 0 → Way l most st v
 | neg : st.e = 0 → most < 0 → Way l most st v
 | big (m : Nat) : st.e = 0 → most = (m : Int) → m < v → Way l most st v
 | cut (m : Nat) : st.e = 0 → most = (m : Int) → v ≤ m → st.l.length < v → Way l most st v
 | text (m : Nat) : st.e = 0 → most = (m : Int) → v ≤ m → v ≤ st.l.length → valid (st.l.take v) = false → Way l most st v
 | ok (m : Nat) : st.e = 0 → most = (m : Int) → v ≤ m → v ≤ st.l.length → valid (st.l.take v) = true → Way l most st v
theorem way (l : List UInt8) (most : Int) (st : St) (v : Nat) : Way l most st v := by
 by_cases h1 : st.e = 0
 ·by_cases h2 : most < 0
  ·exact .neg h1 h2
  ·obtain ⟨m, hm⟩ := Int.eq_ofNat_of_zero_le (show 0 ≤ most by omega)
   by_cases h3 : m < v
   ·exact .big m h1 hm h3
   ·by_cases h4 : st.l.length < v
    ·exact .cut m h1 hm (by omega) h4
    ·cases h5 : valid (st.l.take v)
     ·exact .text m h1 hm (by omega) (by omega) h5
     ·exact .ok m h1 hm (by omega) (by omega) h5
 ·exact .err h1
set_option maxHeartbeats 4000000 in
theorem take_w (l : List UInt8) (hl : l.length ≤ 140737488351232) (at_ most : Int) (hm : most ≤ 9223372036854775807) (w : World) :
  Calls Tryz.prog 212 #[.string (ba l), .int .i64 at_, .int .i64 most] w fun e w' => Tk l at_ most e ∧ Below w.heap.size w w' := by
 have hs := ba_size l
 by_cases ha : at_ < 0 ∨ (l.length : Int) < at_
 ·have HK := Lib.hid (tk_arg (most := most) ha)
  rcases ha with ha | ha
  all_goals
   go_enter Tryz.func212, Tryz.ntmps212
   go_wp2
   go_ret3
   exact ⟨tk_mk HK.out, Below.refl _ _⟩
 ·obtain ⟨k, rfl⟩ := Int.eq_ofNat_of_zero_le (show 0 ≤ at_ by omega)
  have hk : k ≤ l.length := by omega
  clear ha
  have hext := extract_drop l k
  obtain ⟨L, hL⟩ : ∃ L, L = l.drop k := ⟨_, rfl⟩
  rw [← hL] at hext
  obtain ⟨st, hst⟩ : ∃ st, st = numS ⟨L, 0⟩ := ⟨_, rfl⟩
  obtain ⟨v, hv⟩ : ∃ v, v = numV ⟨L, 0⟩ := ⟨_, rfl⟩
  have hsl : st.l.length ≤ l.length := by
   have h1 := numS_len ⟨L, 0⟩
   rw [← hst] at h1
   simp only [hL, List.length_drop] at h1
   omega
  have HS := Lib.hid hst
  have HV := Lib.hid hv
  have HS2 : Hid (st = numS ⟨l.drop k, 0⟩) := by unfold Hid; rw [← hL]; exact hst
  have HV2 : Hid (v = numV ⟨l.drop k, 0⟩) := by unfold Hid; rw [← hL]; exact hv
  clear hL hst hv
  rcases way l most st v with h1 | ⟨h1, h2⟩ | ⟨m, h1, rfl, h2⟩ | ⟨m, h1, rfl, h2, h3⟩ | ⟨m, h1, rfl, h2, h3, h4⟩ | ⟨m, h1, rfl, h2, h3, h4⟩
  ·have HK := Lib.hid (tk_err (most := most) hk HS2.out h1)
   have t1 : (st.e != 0) = true := by simpa using h1
   clear h1
   go_enter Tryz.func212, Tryz.ntmps212
   go_wp2_with (first | (go_at_call 50; refine (new_c L _).mono ?_; rintro e w1 ⟨rfl, hr1, hw1⟩; have hb1 : Below w.heap.size w w1 := (by rw [hw1]; exact (Below.refl _ _).alloc (Nat.le_refl _) _); clear hw1) | (go_at_call 52; refine (num_m _ ⟨L, 0⟩ _ hr1).mono ?_; rintro e w2 ⟨rfl, hr2, ho2⟩; rw [← HV.out]; rw [← HS.out] at hr2; have hb2 := below_only hb1 ho2 hb1.size (Nat.le_refl _); clear ho2) | (go_at_call 54; refine (err_c _ _ _ (by assumption)).mono ?_; rintro e wz ⟨rfl, rfl⟩))
   go_ret3
   exact ⟨tk_mk HK.out, hb2⟩
  ·have HK := Lib.hid (tk_big hk HS2.out HV2.out h1 (.inl h2))
   have t1 : (st.e != 0) = false := by rw [h1]; rfl
   clear h1
   go_enter Tryz.func212, Tryz.ntmps212
   go_wp2_with (first | (go_at_call 50; refine (new_c L _).mono ?_; rintro e w1 ⟨rfl, hr1, hw1⟩; have hb1 : Below w.heap.size w w1 := (by rw [hw1]; exact (Below.refl _ _).alloc (Nat.le_refl _) _); clear hw1) | (go_at_call 52; refine (num_m _ ⟨L, 0⟩ _ hr1).mono ?_; rintro e w2 ⟨rfl, hr2, ho2⟩; rw [← HV.out]; rw [← HS.out] at hr2; have hb2 := below_only hb1 ho2 hb1.size (Nat.le_refl _); clear ho2) | (go_at_call 54; refine (err_c _ _ _ (by assumption)).mono ?_; rintro e wz ⟨rfl, rfl⟩))
   go_ret3
   exact ⟨tk_mk HK.out, hb2⟩
  ·have HK := Lib.hid (tk_big (most := (m : Int)) hk HS2.out HV2.out h1 (.inr (by omega)))
   have t1 : (st.e != 0) = false := by rw [h1]; rfl
   clear h1
   go_enter Tryz.func212, Tryz.ntmps212
   go_wp2_with (first | (go_at_call 50; refine (new_c L _).mono ?_; rintro e w1 ⟨rfl, hr1, hw1⟩; have hb1 : Below w.heap.size w w1 := (by rw [hw1]; exact (Below.refl _ _).alloc (Nat.le_refl _) _); clear hw1) | (go_at_call 52; refine (num_m _ ⟨L, 0⟩ _ hr1).mono ?_; rintro e w2 ⟨rfl, hr2, ho2⟩; rw [← HV.out]; rw [← HS.out] at hr2; have hb2 := below_only hb1 ho2 hb1.size (Nat.le_refl _); clear ho2) | (go_at_call 54; refine (err_c _ _ _ (by assumption)).mono ?_; rintro e wz ⟨rfl, rfl⟩))
   go_ret3
   exact ⟨tk_mk HK.out, hb2⟩
  ·have HK := Lib.hid (tk_cut (most := (m : Int)) hk HS2.out HV2.out h1 (by omega) h3)
   have hq := take_cut (n := (v : Int)) h1 (.inr (by omega))
   have HQ := Lib.hid hq
   have t1 : (st.e != 0) = false := by rw [h1]; rfl
   have hv63 : v ≤ 9223372036854775807 := by omega
   clear h1 hq
   go_enter Tryz.func212, Tryz.ntmps212
   go_wp2_with (first | (go_at_call 50; refine (new_c L _).mono ?_; rintro e w1 ⟨rfl, hr1, hw1⟩; have hb1 : Below w.heap.size w w1 := (by rw [hw1]; exact (Below.refl _ _).alloc (Nat.le_refl _) _); clear hw1) | (go_at_call 52; refine (num_m _ ⟨L, 0⟩ _ hr1).mono ?_; rintro e w2 ⟨rfl, hr2, ho2⟩; rw [← HV.out]; rw [← HS.out] at hr2; have hb2 := below_only hb1 ho2 hb1.size (Nat.le_refl _); clear ho2) | (go_at_call 54; refine (err_c _ _ _ (by assumption)).mono ?_; rintro e wz ⟨rfl, rfl⟩))
   refine (take_m _ (v : Int) st _ hr2).mono ?_
   rintro e w3 ⟨rfl, hr3, ho3⟩
   rw [HQ.out.1]
   rw [HQ.out.2] at hr3
   have hb3 := below_only hb2 ho3 hb2.size (Nat.le_refl _)
   clear ho3 hr2 hr1 hb1
   go_wp2_with (first | (go_at_call 54; refine (err_c _ _ _ hr3).mono ?_; rintro e wz ⟨rfl, rfl⟩) | (go_at_call 198; refine (valid_c _ htl _).mono ?_; rintro e wz ⟨rfl, rfl⟩) | (go_at_call 53; refine (left_c _ _ _ hr3).mono ?_; rintro e wz ⟨rfl, rfl⟩))
   go_ret3
   exact ⟨tk_mk HK.out, hb3⟩
  ·have HK := Lib.hid (tk_text (most := (m : Int)) hk HS2.out HV2.out h1 (by omega) (by omega) h4)
   have hq := take_ok (n := (v : Int)) h1 (by omega)
   have HQ := Lib.hid hq
   have t1 : (st.e != 0) = false := by rw [h1]; rfl
   have hv63 : v ≤ 9223372036854775807 := by omega
   have htl : (st.l.take v).length ≤ 140737488351232 := by rw [List.length_take]; omega
   clear h1 hq
   go_enter Tryz.func212, Tryz.ntmps212
   go_wp2_with (first | (go_at_call 50; refine (new_c L _).mono ?_; rintro e w1 ⟨rfl, hr1, hw1⟩; have hb1 : Below w.heap.size w w1 := (by rw [hw1]; exact (Below.refl _ _).alloc (Nat.le_refl _) _); clear hw1) | (go_at_call 52; refine (num_m _ ⟨L, 0⟩ _ hr1).mono ?_; rintro e w2 ⟨rfl, hr2, ho2⟩; rw [← HV.out]; rw [← HS.out] at hr2; have hb2 := below_only hb1 ho2 hb1.size (Nat.le_refl _); clear ho2) | (go_at_call 54; refine (err_c _ _ _ (by assumption)).mono ?_; rintro e wz ⟨rfl, rfl⟩))
   refine (take_m _ (v : Int) st _ hr2).mono ?_
   rintro e w3 ⟨rfl, hr3, ho3⟩
   rw [HQ.out.1]
   rw [HQ.out.2] at hr3
   have hb3 := below_only hb2 ho3 hb2.size (Nat.le_refl _)
   clear ho3 hr2 hr1 hb1
   go_wp2_with (first | (go_at_call 54; refine (err_c _ _ _ hr3).mono ?_; rintro e wz ⟨rfl, rfl⟩) | (go_at_call 198; refine (valid_c _ htl _).mono ?_; rintro e wz ⟨rfl, rfl⟩) | (go_at_call 53; refine (left_c _ _ _ hr3).mono ?_; rintro e wz ⟨rfl, rfl⟩))
   go_ret3
   exact ⟨tk_mk HK.out, hb3⟩
  ·have HK := Lib.hid (tk_ok (most := (m : Int)) hk HS2.out HV2.out h1 (by omega) (by omega) h4)
   have hq := take_ok (n := (v : Int)) h1 (by omega)
   have HQ := Lib.hid hq
   have t1 : (st.e != 0) = false := by rw [h1]; rfl
   have hv63 : v ≤ 9223372036854775807 := by omega
   have htl : (st.l.take v).length ≤ 140737488351232 := by rw [List.length_take]; omega
   have hdl : (st.l.drop v).length ≤ l.length := by rw [List.length_drop]; omega
   clear h1 hq
   go_enter Tryz.func212, Tryz.ntmps212
   go_wp2_with (first | (go_at_call 50; refine (new_c L _).mono ?_; rintro e w1 ⟨rfl, hr1, hw1⟩; have hb1 : Below w.heap.size w w1 := (by rw [hw1]; exact (Below.refl _ _).alloc (Nat.le_refl _) _); clear hw1) | (go_at_call 52; refine (num_m _ ⟨L, 0⟩ _ hr1).mono ?_; rintro e w2 ⟨rfl, hr2, ho2⟩; rw [← HV.out]; rw [← HS.out] at hr2; have hb2 := below_only hb1 ho2 hb1.size (Nat.le_refl _); clear ho2) | (go_at_call 54; refine (err_c _ _ _ (by assumption)).mono ?_; rintro e wz ⟨rfl, rfl⟩))
   refine (take_m _ (v : Int) st _ hr2).mono ?_
   rintro e w3 ⟨rfl, hr3, ho3⟩
   rw [HQ.out.1]
   rw [HQ.out.2] at hr3
   have hb3 := below_only hb2 ho3 hb2.size (Nat.le_refl _)
   clear ho3 hr2 hr1 hb1
   go_wp2_with (first | (go_at_call 54; refine (err_c _ _ _ hr3).mono ?_; rintro e wz ⟨rfl, rfl⟩) | (go_at_call 198; refine (valid_c _ htl _).mono ?_; rintro e wz ⟨rfl, rfl⟩) | (go_at_call 53; refine (left_c _ _ _ hr3).mono ?_; rintro e wz ⟨rfl, rfl⟩))
   go_ret3
   exact ⟨tk_mk (by rw [HK.out, List.length_drop]), hb3⟩
end Go.Proofs.YtojhenpaeedimaaGreat
