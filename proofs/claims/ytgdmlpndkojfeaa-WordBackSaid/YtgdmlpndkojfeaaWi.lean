/-
  The walk of WordParts.
-/
import Derived.Test.YtgdmlpndkojfeaaEg
import Derived.Test.YtgdmlpndkojfeaaMe
import Derived.Test.YtgdmlpndkojfeaaWa
namespace Go.Proofs.Ytgdmlpndkojfeaa
open Go.RowKit
open Wd
set_option maxRecDepth 100000

theorem ba_app4 (a b : List UInt8) : ba a ++ ba b = ba (a ++ b) := by
  apply ByteArray.ext
  simp [ba]
theorem add_ba4 (a b : List UInt8) (h : a.length + b.length ≤ 9223372036854775807) (w : World) : (Op.stringOp .add (ba a) (ba b)).run Try.prog w = .ok (.string (ba (a ++ b))) w := by
  rw [run_string_add_sum w (ba a) (ba b) (by rw [ba_size, ba_size]; exact h), ba_app4]
theorem cutV_cn (l : List UInt8) (most : Int) : cutV l most = l.take (cn l (room l most)) := by
  unfold cutV
  exact cn_take l (room l most)

namespace wordParts
theorem walk_out (l t : List UInt8) (most : Int) (hz : l.length ≤ maxLen) (hzt : t.length ≤ maxLen) (h : 300 < l.length ∨ (l.length ≤ 300 ∧ 300 < t.length)) (w : World) :
    Calls Try.prog 12 #[.string (ba l), .string (ba t), .int .i64 most] w fun e w' => e = .returned (.bool true) ∧ Below w.heap.size w w' := by
  have hs := ba_size l
  have hst := ba_size t
  unfold maxLen at hz hzt
  rcases h with h | ⟨h0, h⟩
  all_goals
    go_enter Try.func12, Try.ntmps12
    go_wp2_with (go_at_call 38; refine (live4_c _).mono ?_; rintro e w5 ⟨rfl, hb5⟩)
    go_ret
    exact ⟨rfl, hb5⟩

set_option maxHeartbeats 4000000 in
theorem walk_in (l t : List UInt8) (most : Int) (h : l.length ≤ 300) (ht : t.length ≤ 300) (w : World) :
    Calls Try.prog 12 #[.string (ba l), .string (ba t), .int .i64 most] w fun e w' => e = .returned (.bool true) ∧ Below w.heap.size w w' := by
  have hs := ba_size l
  have hst := ba_size t
  have hl : l.length ≤ 140737488351232 := by omega
  have htl : t.length ≤ 140737488351232 := by omega
  obtain ⟨c, hc⟩ : ∃ c, c = cn l (room l most) := ⟨_, rfl⟩
  have hcl : c ≤ l.length := by rw [hc]; exact (cn_le _ _).2
  have hcv : valid (l.take c) = true := by rw [hc]; exact cn_valid _ _
  have HCUT : Hid (cutV l most = l.take c) := by unfold Hid; rw [cutV_cn, ← hc]
  have HMOST : Hid (∀ k : Nat, (k : Int) ≤ most → k ≤ l.length → valid (l.take k) = true → k ≤ c) := fun k h1 h2 h3 => by
    rw [hc]
    exact cn_most (by unfold room; omega) h2 h3
  have hcm : (most < 0 ∧ decide (0 < c) = false) ∨ (0 ≤ most ∧ decide (most < (c : Int)) = false) := by
    have := (cn_le l (room l most)).1
    rw [← hc] at this
    unfold room at this
    rw [decide_eq_false_iff_not, decide_eq_false_iff_not]
    omega
  have hsc : (ba (l.take c)).size = c := by rw [ba_size, List.length_take]; omega
  have hxc := extract_take l c
  have htc : (l.take c).length ≤ 140737488351232 := by rw [List.length_take]; omega
  clear hc
  by_cases hv : valid l = true
  · have hf : fstV l = 0 := by unfold fstV; rw [if_pos hv]
    have hadd := add_ba4 l t (by omega)
    have hva := valid_app hv t
    have hal : (l ++ t).length ≤ 140737488351232 := by rw [List.length_append]; omega
    have dB : decide (l.length < c) = false := by simp; omega
    have dC : ¬ l.length < c := by omega
    have dD : decide (300 < (l.length : Int)) = false := by simp; omega
    have dE : decide (300 < (t.length : Int)) = false := by simp; omega
    rcases hcm with ⟨hm1, dA⟩ | ⟨hm1, dA⟩
    all_goals
      go_enter Try.func12, Try.ntmps12
      go_wp2_with (first | (go_at_call 39; refine (first_c l hl _).mono ?_; rintro e wz ⟨rfl, rfl⟩) | (go_at_call 45; refine (cut_c l hl most _).mono ?_; rintro e wz ⟨rfl, rfl⟩; rw [HCUT.out]) | (go_at_call 43; (with_reducible refine (valid_c l hl _).mono ?_); rintro e wz ⟨rfl, rfl⟩) | (go_at_call 43; (with_reducible refine (valid_c (l.take c) htc _).mono ?_); rintro e wz ⟨rfl, rfl⟩) | (go_at_call 43; (with_reducible refine (valid_c (l ++ t) hal _).mono ?_); rintro e wz ⟨rfl, rfl⟩) | (go_at_call 43; (with_reducible refine (valid_c t htl _).mono ?_); rintro e wz ⟨rfl, rfl⟩))
      go_loopg [10] (l.length - c) (fun g a wr => ∃ k : Nat, a = .int .i64 (k : Int) ∧ c + 1 ≤ k ∧ k + g = l.length + 1 ∧ w = wr)
      case atStart => exact ⟨c + 1, by go_num, Nat.le_refl _, by omega, rfl⟩
      case round =>
        obtain ⟨k, rfl, hck, hkl, rfl⟩ := hrel
        by_cases hk1 : k ≤ l.length
        · by_cases hk2 : (k : Int) ≤ most
          · have hkv : valid (l.take k) = false := by
              cases h3 : valid (l.take k)
              · rfl
              · have := HMOST.out k hk2 hk1 h3
                omega
            have hxk := extract_take l k
            have htk : (l.take k).length ≤ 140737488351232 := by rw [List.length_take]; omega
            go_wp2_with (go_at_call 43; refine (valid_c (l.take k) htk _).mono ?_; rintro e wz ⟨rfl, rfl⟩)
            go_roundg (gk - 1)
            case measure => omega
            case rel => exact ⟨k + 1, by go_num, by omega, by omega, rfl⟩
          · go_wp2_with (go_at_call 38; refine (live4_c _).mono ?_; rintro e w5 ⟨rfl, hb5⟩)
            go_ret
            exact ⟨rfl, hb5⟩
        · go_wp2_with (go_at_call 38; refine (live4_c _).mono ?_; rintro e w5 ⟨rfl, hb5⟩)
          go_ret
          exact ⟨rfl, hb5⟩
  · have hlt := ends_lt hv
    have hf : fstV l = ends l := by unfold fstV; rw [if_neg hv]
    have hv2 : valid l = false := by simpa using hv
    obtain ⟨i, hi⟩ : ∃ i, i = ends l := ⟨_, rfl⟩
    rw [← hi] at hlt hf
    have hvi : valid (l.take i) = true := by rw [hi]; exact valid_take l
    have hxi := extract_take l i
    have hti : (l.take i).length ≤ 140737488351232 := by rw [List.length_take]; omega
    clear hv hi
    have dB : decide (l.length < c) = false := by simp; omega
    have dC : ¬ l.length < c := by omega
    have dD : decide (300 < (l.length : Int)) = false := by simp; omega
    have dE : decide (300 < (t.length : Int)) = false := by simp; omega
    rcases hcm with ⟨hm1, dA⟩ | ⟨hm1, dA⟩
    all_goals
      go_enter Try.func12, Try.ntmps12
      go_wp2_with (first | (go_at_call 39; refine (first_c l hl _).mono ?_; rintro e wz ⟨rfl, rfl⟩) | (go_at_call 45; refine (cut_c l hl most _).mono ?_; rintro e wz ⟨rfl, rfl⟩; rw [HCUT.out]) | (go_at_call 43; (with_reducible refine (valid_c l hl _).mono ?_); rintro e wz ⟨rfl, rfl⟩) | (go_at_call 43; (with_reducible refine (valid_c (l.take c) htc _).mono ?_); rintro e wz ⟨rfl, rfl⟩) | (go_at_call 43; (with_reducible refine (valid_c (l.take i) hti _).mono ?_); rintro e wz ⟨rfl, rfl⟩))
      go_loopg [10] (l.length - c) (fun g a wr => ∃ k : Nat, a = .int .i64 (k : Int) ∧ c + 1 ≤ k ∧ k + g = l.length + 1 ∧ w = wr)
      case atStart => exact ⟨c + 1, by go_num, Nat.le_refl _, by omega, rfl⟩
      case round =>
        obtain ⟨k, rfl, hck, hkl, rfl⟩ := hrel
        by_cases hk1 : k ≤ l.length
        · by_cases hk2 : (k : Int) ≤ most
          · have hkv : valid (l.take k) = false := by
              cases h3 : valid (l.take k)
              · rfl
              · have := HMOST.out k hk2 hk1 h3
                omega
            have hxk := extract_take l k
            have htk : (l.take k).length ≤ 140737488351232 := by rw [List.length_take]; omega
            go_wp2_with (go_at_call 43; refine (valid_c (l.take k) htk _).mono ?_; rintro e wz ⟨rfl, rfl⟩)
            go_roundg (gk - 1)
            case measure => omega
            case rel => exact ⟨k + 1, by go_num, by omega, by omega, rfl⟩
          · go_wp2_with (go_at_call 38; refine (live4_c _).mono ?_; rintro e w5 ⟨rfl, hb5⟩)
            go_ret
            exact ⟨rfl, hb5⟩
        · go_wp2_with (go_at_call 38; refine (live4_c _).mono ?_; rintro e w5 ⟨rfl, hb5⟩)
          go_ret
          exact ⟨rfl, hb5⟩

theorem walk (l t : List UInt8) (most : Int) (hz : l.length ≤ maxLen) (hzt : t.length ≤ maxLen) (_wm : (Lit.int .i64 most).wf = true) (w : World) :
    Calls Try.prog 12 #[.string (ba l), .string (ba t), .int .i64 most] w fun e w' => e = .returned (.bool true) ∧ Below w.heap.size w w' := by
  rcases Nat.lt_or_ge 300 l.length with h | h
  · exact walk_out l t most hz hzt (.inl h) w
  · rcases Nat.lt_or_ge 300 t.length with h2 | h2
    · exact walk_out l t most hz hzt (.inr ⟨h, h2⟩) w
    · exact walk_in l t most h h2 w
end wordParts
end Go.Proofs.Ytgdmlpndkojfeaa
