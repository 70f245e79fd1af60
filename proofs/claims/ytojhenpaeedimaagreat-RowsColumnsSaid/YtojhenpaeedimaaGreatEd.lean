/-
 Contracts of the document's First, Valid, Count, Cut and Put of layer 4.
-/
import Derived.Test.YtojhenpaeedimaaGreatEb
import Derived.Test.YtojhenpaeedimaaGreatEc
namespace Go.Proofs.YtojhenpaeedimaaGreat
open Go.RowKit
open Wd
set_option maxRecDepth 100000
theorem rFirst_c (l : List UInt8) (hl : l.length ≤ 140737488351232) (w : World) :
  Calls Tryz.prog 213 #[.string (ba l)] w fun e w' => e = .returned (.tuple #[.int .i64 (fstV l : Int), .bool (!valid l)]) ∧ w = w' := by
 have hs := ba_size l
 go_enter Tryz.func213, Tryz.ntmps213
 go_wp2_with fail
 go_loop [4, 5] (fun a _ => ∃ k : Nat, a = .int .i64 (k : Int) ∧ k ≤ l.length ∧ k + ends (l.drop k) = ends l) (fun a _ => l.length - (Go.RowKit.intOf a).toNat)
 case atStart => exact ⟨0, rfl, Nat.zero_le _, by simp⟩
 case round =>
  obtain ⟨k, rfl, hk, he⟩ := hrel
  have HE := Lib.hid he
  clear he
  by_cases hlt : k < l.length
  ·obtain ⟨n, hn⟩ : ∃ n, n = sgn (l.drop k) := ⟨_, rfl⟩
   have hle := sgn_le (l.drop k)
   rw [← hn, List.length_drop] at hle
   have HN := Lib.hid hn
   clear hn
   by_cases h0 : n = 0
   ·have ht : ((n : Int) == 0) = true := by simp; omega
    have hstop := (ends_stop (HN.out.symm.trans h0)).1
    have hke : k = ends l := by have := HE.out; omega
    have hnv : ¬ valid l = true := fun hv => by have := valid_iff.1 hv; omega
    have HF : Hid ((k : Int) = (fstV l : Int) ∧ (!valid l) = true) := by unfold Hid fstV; rw [if_neg hnv]; exact ⟨by omega, by simpa using hnv⟩
    clear h0 hstop hke hnv
    go_wp2_with (go_at_call 221; refine (sign_c l hl k hk _).mono ?_; rintro e wz ⟨rfl, rfl⟩; rw [← HN.out])
    go_ret2
    exact ⟨ret_ib (by rw [HF.out.1]) (by rw [HF.out.2]), rfl⟩
   ·have ht : ((n : Int) == 0) = false := by simp; omega
    have hst := (ends_step HN.out.symm (by omega)).1
    rw [List.drop_drop] at hst
    have HS := Lib.hid hst
    have hn1 : 1 ≤ n := by omega
    clear h0 hst
    go_wp2_with (go_at_call 221; refine (sign_c l hl k hk _).mono ?_; rintro e wz ⟨rfl, rfl⟩; rw [← HN.out])
    go_round
    case rel => exact ⟨k + n, by go_num, by omega, by have := HE.out; rw [HS.out] at this; omega⟩
    case measure => simp only [Go.RowKit.intOf]; omega
  ·have hv : valid l = true := by
    rw [valid_iff, ← HE.out, List.drop_eq_nil_of_le (by omega), ends_nil]; omega
   have HF : Hid (fstV l = 0 ∧ (!valid l) = false) := by unfold Hid fstV; rw [if_pos hv, hv]; exact ⟨rfl, rfl⟩
   clear hv
   go_wp2_with fail
   go_ret2
   exact ⟨ret_ib (by rw [HF.out.1]; rfl) (by rw [HF.out.2]), rfl⟩
theorem rValid_c (l : List UInt8) (hl : l.length ≤ 140737488351232) (w : World) :
  Calls Tryz.prog 185 #[.string (ba l)] w fun e w' => e = .returned (.bool (valid l)) ∧ w = w' := by
 go_enter Tryz.func185, Tryz.ntmps185
 go_wp2_with (go_at_call 213; refine (rFirst_c l hl _).mono ?_; rintro e wz ⟨rfl, rfl⟩)
 go_ret
 exact ⟨ret_bool (by simp), rfl⟩
end Go.Proofs.YtojhenpaeedimaaGreat
