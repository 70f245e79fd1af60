/-
  The walk of WordCuts.
-/
import Derived.Test.YtgdmlpndkojfeaaWi
namespace Go.Proofs.Ytgdmlpndkojfeaa
open Go.RowKit
open Wd
set_option maxRecDepth 100000

theorem cut_as (l : List UInt8) (hl : l.length ≤ 140737488351232) (most : Int) (r : List UInt8) (h : cutV l most = r) (w : World) :
    Calls Try.prog 45 #[.string (ba l), .int .i64 most] w fun e w' => e = .returned (.string (ba r)) ∧ w = w' := by
  subst h; exact cut_c l hl most w

namespace wordCuts
theorem walk_out (l : List UInt8) (most more : Int) (hz : l.length ≤ maxLen) (h : 300 < l.length ∨ (l.length ≤ 300 ∧ more < 0) ∨ (l.length ≤ 300 ∧ 0 ≤ more ∧ 1099511627776 < most) ∨ (l.length ≤ 300 ∧ 0 ≤ more ∧ most ≤ 1099511627776 ∧ 1099511627776 < more)) (w : World) :
    Calls Try.prog 14 #[.string (ba l), .int .i64 most, .int .i64 more] w fun e w' => e = .returned (.bool true) ∧ Below w.heap.size w w' := by
  have hs := ba_size l
  unfold maxLen at hz
  rcases h with h | ⟨h0, h⟩ | ⟨h0, h1, h⟩ | ⟨h0, h1, h2, h⟩
  all_goals
    go_enter Try.func14, Try.ntmps14
    go_wp2_with (go_at_call 38; refine (live4_c _).mono ?_; rintro e w5 ⟨rfl, hb5⟩)
    go_ret
    exact ⟨rfl, hb5⟩

/-- what the walk wants of the cuts -/
structure Facts (l : List UInt8) (most M : Int) (ca cb : Nat) : Prop where
  la : ca ≤ l.length
  lb : cb ≤ l.length
  ab : ca ≤ cb
  c1 : cutV l most = l.take ca
  c2 : cutV l M = l.take cb
  c3 : cutV (l.take ca) M = l.take ca
  c4 : cutV (l.take cb) most = l.take ca
  near : valid l = true → (room l most : Int) < (ca : Int) + 4
  whole : valid l = true → cutV l (l.length : Int) = l
theorem facts (l : List UInt8) (most M : Int) (h : most ≤ M) (h0 : 0 ≤ M) : Facts l most M (cn l (room l most)) (cn l (room l M)) := by
  have hr : room l most ≤ room l M := by unfold room; omega
  have hab : cn l (room l most) ≤ cn l (room l M) := cn_mono hr
  have h1 := cn_le l (room l most)
  have h2 := cn_le l (room l M)
  have hc : cn l (room l most) ≤ most.toNat := by
    have := h1.1
    unfold room at this
    unfold room
    omega
  refine ⟨h1.2, h2.2, hab, cutV_cn l most, cutV_cn l M, ?_, ?_, fun hv => ?_, fun hv => ?_⟩
  · rw [cutV_cn, cn_self (cn_valid _ _) h1.2 (by
      have e : room (l.take (cn l (room l most))) M = min M.toNat (l.take (cn l (room l most))).length := rfl
      rw [e, List.length_take]
      omega), List.take_take, Nat.min_self]
  · have e : room (l.take (cn l (room l M))) most = min most.toNat (cn l (room l M)) := by
      unfold room
      rw [List.length_take]
      congr 1
      exact Nat.min_eq_left h2.2
    rw [cutV_cn, e, List.take_take]
    have hm : cn (l.take (cn l (room l M))) (min most.toNat (cn l (room l M))) = cn l (room l most) := by
      have k1 := cn_le (l.take (cn l (room l M))) (min most.toNat (cn l (room l M)))
      rw [List.length_take] at k1
      have k2 := cn_most (l := l.take (cn l (room l M))) (m := min most.toNat (cn l (room l M))) (n := cn l (room l most)) (Nat.le_min.2 ⟨hc, hab⟩) (by rw [List.length_take]; exact Nat.le_min.2 ⟨hab, h1.2⟩) (by rw [List.take_take, Nat.min_eq_left hab]; exact cn_valid _ _)
      have k3 := cn_most (l := l) (m := room l most) (n := cn (l.take (cn l (room l M))) (min most.toNat (cn l (room l M)))) (Nat.le_min.2 ⟨Nat.le_trans k1.1 (Nat.min_le_left _ _), Nat.le_trans k1.2 (Nat.min_le_right _ _)⟩) (Nat.le_trans k1.2 (Nat.min_le_right _ _)) (by
        have := cn_valid (l.take (cn l (room l M))) (min most.toNat (cn l (room l M)))
        rw [List.take_take, Nat.min_eq_left (by omega)] at this
        exact this)
      omega
    rw [hm, Nat.min_eq_left hab]
  · have := cn_near l (room l most) (by unfold room; omega) (valid_iff.1 hv)
    omega
  · rw [cutV_cn, show room l (l.length : Int) = l.length from by unfold room; omega, cn_whole hv, List.take_length]

set_option maxHeartbeats 4000000 in
theorem walk_in (l : List UInt8) (most more M : Int) (hl0 : l.length ≤ 300) (h1 : 0 ≤ more) (h2 : most ≤ 1099511627776) (h3 : more ≤ 1099511627776) (hM : (most < 0 ∧ M = more) ∨ (0 ≤ most ∧ M = most + more)) (w : World) :
    Calls Try.prog 14 #[.string (ba l), .int .i64 most, .int .i64 more] w fun e w' => e = .returned (.bool true) ∧ Below w.heap.size w w' := by
  have hs := ba_size l
  have hl : l.length ≤ 140737488351232 := by omega
  obtain ⟨ca, hca⟩ : ∃ ca, ca = cn l (room l most) := ⟨_, rfl⟩
  obtain ⟨cb, hcb⟩ : ∃ cb, cb = cn l (room l M) := ⟨_, rfl⟩
  have F := facts l most M (by omega) (by omega)
  rw [← hca, ← hcb] at F
  have FH := Lib.hid F
  have hla := F.la
  have hab := F.ab
  have hta : (l.take ca).length ≤ 140737488351232 := by rw [List.length_take]; omega
  have htb : (l.take cb).length ≤ 140737488351232 := by rw [List.length_take]; omega
  have hsa : (ba (l.take ca)).size = ca := by rw [ba_size, List.length_take]; omega
  have hsb : (ba (l.take cb)).size = cb := by rw [ba_size, List.length_take]; have := F.lb; omega
  have hext : (ba (l.take cb)).extract 0 ca = ba (l.take ca) := by rw [extract_take, List.take_take, Nat.min_eq_left hab]
  have dA : decide (cb < ca) = false := by simp; omega
  have hroom : room l most = min most.toNat l.length := rfl
  clear hca hcb
  by_cases hv : valid l = true
  · have hnear := F.near hv
    have HW := Lib.hid (F.whole hv)
    have hcase : (most < 0 ∧ M = more) ∨ (0 ≤ most ∧ M = most + more ∧ (l.length : Int) < most ∧ (l.length : Int) < (ca : Int) + 4) ∨ (0 ≤ most ∧ M = most + more ∧ most ≤ (l.length : Int) ∧ most < (ca : Int) + 4) := by omega
    clear F hM hroom hnear
    rcases hcase with ⟨m1, rfl⟩ | ⟨m1, rfl, m2, m3⟩ | ⟨m1, rfl, m2, m3⟩
    all_goals
      go_enter Try.func14, Try.ntmps14
      go_wp2_with (first | (go_at_call 45; (with_reducible refine (cut_as l hl _ _ FH.out.c1 _).mono ?_); rintro e wz ⟨rfl, rfl⟩) | (go_at_call 45; (with_reducible refine (cut_as l hl _ _ FH.out.c2 _).mono ?_); rintro e wz ⟨rfl, rfl⟩) | (go_at_call 45; (with_reducible refine (cut_as (l.take ca) hta _ _ FH.out.c3 _).mono ?_); rintro e wz ⟨rfl, rfl⟩) | (go_at_call 45; (with_reducible refine (cut_as (l.take cb) htb _ _ FH.out.c4 _).mono ?_); rintro e wz ⟨rfl, rfl⟩) | (go_at_call 45; (with_reducible refine (cut_as l hl _ _ HW.out _).mono ?_); rintro e wz ⟨rfl, rfl⟩) | (go_at_call 43; refine (valid_c l hl _).mono ?_; rintro e wz ⟨rfl, rfl⟩) | (go_at_call 38; refine (live4_c _).mono ?_; rintro e w5 ⟨rfl, hb5⟩))
      go_ret
      exact ⟨rfl, hb5⟩
  · have hvf : valid l = false := by simpa using hv
    clear F hroom hv
    rcases hM with ⟨m1, rfl⟩ | ⟨m1, rfl⟩
    all_goals
      go_enter Try.func14, Try.ntmps14
      go_wp2_with (first | (go_at_call 45; (with_reducible refine (cut_as l hl _ _ FH.out.c1 _).mono ?_); rintro e wz ⟨rfl, rfl⟩) | (go_at_call 45; (with_reducible refine (cut_as l hl _ _ FH.out.c2 _).mono ?_); rintro e wz ⟨rfl, rfl⟩) | (go_at_call 45; (with_reducible refine (cut_as (l.take ca) hta _ _ FH.out.c3 _).mono ?_); rintro e wz ⟨rfl, rfl⟩) | (go_at_call 45; (with_reducible refine (cut_as (l.take cb) htb _ _ FH.out.c4 _).mono ?_); rintro e wz ⟨rfl, rfl⟩) | (go_at_call 43; refine (valid_c l hl _).mono ?_; rintro e wz ⟨rfl, rfl⟩) | (go_at_call 38; refine (live4_c _).mono ?_; rintro e w5 ⟨rfl, hb5⟩))
      go_ret
      exact ⟨rfl, hb5⟩

theorem walk (l : List UInt8) (most more : Int) (hz : l.length ≤ maxLen) (_wm : (Lit.int .i64 most).wf = true) (_wo : (Lit.int .i64 more).wf = true) (w : World) :
    Calls Try.prog 14 #[.string (ba l), .int .i64 most, .int .i64 more] w fun e w' => e = .returned (.bool true) ∧ Below w.heap.size w w' := by
  by_cases hin : l.length ≤ 300 ∧ 0 ≤ more ∧ most ≤ 1099511627776 ∧ more ≤ 1099511627776
  · by_cases hm : most < 0
    · exact walk_in l most more more hin.1 hin.2.1 hin.2.2.1 hin.2.2.2 (.inl ⟨hm, rfl⟩) w
    · exact walk_in l most more (most + more) hin.1 hin.2.1 hin.2.2.1 hin.2.2.2 (.inr ⟨by omega, rfl⟩) w
  · exact walk_out l most more hz (by omega) w
end wordCuts
end Go.Proofs.Ytgdmlpndkojfeaa
