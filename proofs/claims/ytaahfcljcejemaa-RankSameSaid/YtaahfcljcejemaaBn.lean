/-
  Contracts of package rank's Unkey and Between and of the document's.
-/
import Derived.Test.YtaahfcljcejemaaBm
namespace Go.Proofs.Ytaahfcljcejemaa
open Go.RowKit
open Fl
set_option maxRecDepth 100000

theorem uk_neg {k : Nat} (h : ng k = false) : uk k = 18446744073709551615 - k := by unfold uk; rw [if_pos (ng_false.1 h)]
theorem uk_pos {k : Nat} (h : ng k = true) (hk : k < 18446744073709551616) : uk k = mg k := by
  have := ng_true.1 h
  unfold uk mg; rw [if_neg (by omega)]; omega

theorem ret_fb {a b : Nat} {p q : Bool} (h1 : a = b) (h2 : p = q) : Ending.returned (.tuple #[.float .f64 a, .bool p]) = .returned (.tuple #[.float .f64 b, .bool q]) := by rw [h1, h2]

theorem unkey_c (k : Nat) (hk : k < 18446744073709551616) (w : World) :
    Calls Try.prog 28 #[.int .u64 (k : Int)] w fun e w' => e = .returned (.tuple #[.float .f64 (uw k), .bool (cn (uk k))]) ∧ Below w.heap.size w w' := by
  have hu := uk_lt k hk
  have h1 := and_top k hk
  have h2 := not_max k hk
  have h3 := andnot_top k hk
  cases hg : ng k
  · rw [hg] at h1
    simp only [Bool.false_eq_true, if_false] at h1
    rw [← uk_neg hg] at h2
    cases hc : cn (uk k)
    · rw [uw_no hc]
      go_enter Try.func28, Try.ntmps28
      go_wp2_with fail
      refine (canon_c (uk k) hu _).mono ?_
      rintro e w1 ⟨rfl, rfl⟩
      rw [hc]
      go_wp2
      go_ret2
      exact ⟨rfl, Below.refl _ _⟩
    · rw [uw_yes hc]
      go_enter Try.func28, Try.ntmps28
      go_wp2_with fail
      refine (canon_c (uk k) hu _).mono ?_
      rintro e w1 ⟨rfl, rfl⟩
      rw [hc]
      go_wp2_with fail
      refine (float_c (uk k) hu _).mono ?_
      rintro e w1 ⟨rfl, hb1⟩
      go_wp2
      go_ret2
      exact ⟨rfl, hb1⟩
  · rw [hg] at h1
    simp only [if_true] at h1
    rw [← uk_pos hg hk] at h3
    cases hc : cn (uk k)
    · rw [uw_no hc]
      go_enter Try.func28, Try.ntmps28
      go_wp2_with fail
      refine (canon_c (uk k) hu _).mono ?_
      rintro e w1 ⟨rfl, rfl⟩
      rw [hc]
      go_wp2
      go_ret2
      exact ⟨rfl, Below.refl _ _⟩
    · rw [uw_yes hc]
      go_enter Try.func28, Try.ntmps28
      go_wp2_with fail
      refine (canon_c (uk k) hu _).mono ?_
      rintro e w1 ⟨rfl, rfl⟩
      rw [hc]
      go_wp2_with fail
      refine (float_c (uk k) hu _).mono ?_
      rintro e w1 ⟨rfl, hb1⟩
      go_wp2
      go_ret2
      exact ⟨rfl, hb1⟩

theorem cb_rf2 {u y : Nat} (h : RF u y) : cb y = cb u := by
  obtain ⟨_, h1, h2⟩ := h
  cases hn : nn u
  · rw [h1 hn]
  · rw [cb_nan hn, cb_nan (h2 hn)]

/-- what the document's Unkey gives beside the number's word y -/
def rw' (k y : Nat) : Nat := if cn (uk k) then y else 0

theorem key_back {k y : Nat} (hk : k < 18446744073709551616) (h : RF (uk k) y) : ((ky y : Int) != (k : Int)) = !cn (uk k) := by
  have hu := uk_lt k hk
  have e := cb_rf2 h
  have hi := ky_iff h.1 hk
  cases hc : cn (uk k)
  · rw [Bool.not_false, bne_iff_ne]
    intro h2
    have h3 := hi.1 (by omega)
    rw [e] at h3
    have h4 := cn_cb hu
    rw [h3, hc] at h4
    cases h4
  · have h3 : cb (uk k) = uk k := by
      rcases (cn_iff _ hu).1 hc with h4 | h4
      · exact cb_num h4
      · rw [h4]; decide
    have h4 := hi.2 (by rw [e, h3])
    rw [h4]; simp

set_option maxHeartbeats 1000000 in
theorem rUnkey_c (k : Nat) (hk : k < 18446744073709551616) (w : World) :
    Calls Try.prog 29 #[.int .u64 (k : Int)] w fun e w' => ∃ y, RF (uk k) y ∧ e = .returned (.tuple #[.float .f64 (rw' k y), .bool (cn (uk k))]) ∧ Below w.heap.size w w' := by
  have hu := uk_lt k hk
  rcases ng_cases k with ⟨hg, h0⟩ | ⟨hg, h0⟩
  case' inl =>
    have h1 : decide ((9223372036854775808 : Int) ≤ (k : Int)) = true := ge_top hg
    have hz : ((k : Int) - 9223372036854775808).toNat = uk k := by unfold uk; rw [if_neg (by omega)]; omega
    have hr : 0 ≤ (k : Int) - 9223372036854775808 ∧ (k : Int) - 9223372036854775808 < 18446744073709551616 := by omega
    have hq : IntKind.u64.wrap ((k : Int) - 9223372036854775808) = ((uk k : Nat) : Int) := by rw [IntKind.wrap_u64]; omega
    clear h0 hr
  case' inr =>
    have h1 : decide ((9223372036854775808 : Int) ≤ (k : Int)) = false := ge_top hg
    have hz : ((18446744073709551615 : Int) - (k : Int)).toNat = uk k := by unfold uk; rw [if_pos h0]; omega
    have hq : (18446744073709551615 : Int) - (k : Int) = ((uk k : Nat) : Int) := by omega
    clear h0
  all_goals
    have HQ := Lib.hid hq
    clear hq hz hg
    go_enter Try.func29, Try.ntmps29
    go_wp2_with fail
    rw [HQ.out]
    refine (rFloat_c (uk k) hu _).mono ?_
    rintro e w1 ⟨y, rfl, hy, hb1⟩
    have hyl := hy.1
    have hkb := key_back hk hy
    go_wp2_with fail
    refine (rKey_c y hyl _).mono ?_
    rintro e w2 ⟨rfl, rfl⟩
    cases hc : cn (uk k)
    · rw [hc] at hkb
      have hfin : rw' k y = 0 := by unfold rw'; rw [hc]; rfl
      have HF := Lib.hid hfin
      clear hfin
      go_wp2
      go_ret2
      refine ⟨y, hy, ?_, hb1⟩
      rw [HF.out, hc]
      rfl
    · rw [hc] at hkb
      have hfin : rw' k y = y := by unfold rw'; rw [hc]; rfl
      have HF := Lib.hid hfin
      clear hfin
      go_wp2
      go_ret2
      refine ⟨y, hy, ?_, hb1⟩
      rw [HF.out, hc]
      rfl
end Go.Proofs.Ytaahfcljcejemaa
