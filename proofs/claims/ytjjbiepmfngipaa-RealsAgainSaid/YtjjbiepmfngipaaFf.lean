/-
  Plain facts for the statements of layer 1. No Go in it.
-/
import Derived.Test.YtjjbiepmfngipaaFe
namespace Go.Proofs.Ytjjbiepmfngipaa.Fl
open Go

theorem nn_fl {u : Nat} (h : nn u = true) : nn (fl u) = true := by
  unfold fl; rw [if_pos h]; split <;> decide
theorem fl_num {u : Nat} (h : nn u = false) : fl u = u := by unfold fl; rw [h]; rfl
theorem cb_num {u : Nat} (h : nn u = false) : cb u = u := by unfold cb; rw [h]; rfl
theorem cb_nan {u : Nat} (h : nn u = true) : cb u = 9221120237041090560 := by unfold cb; rw [h]; rfl
theorem nn_iff (u : Nat) : nn u = true ↔ 9218868437227405312 < u % 9223372036854775808 := by unfold nn; simp
theorem nn_iff' (u : Nat) : nn u = false ↔ u % 9223372036854775808 ≤ 9218868437227405312 := by unfold nn; simp
theorem cn_iff (u : Nat) (hu : u < 18446744073709551616) : cn u = true ↔ (nn u = false ∨ u = 9221120237041090560) := by
  rw [nn_iff']
  unfold cn
  rw [decide_eq_true_eq]
  omega
theorem cb_fl_cn {u : Nat} (hu : u < 18446744073709551616) (h : cn u = true) : cb (fl u) = u := by
  rcases (cn_iff u hu).1 h with h1 | h1
  · rw [fl_num h1, cb_num h1]
  · subst h1; decide
theorem cb_fl_no {u : Nat} (hu : u < 18446744073709551616) (h : cn u = false) : cb (fl u) = 9221120237041090560 := by
  cases hn : nn u
  · have := (cn_iff u hu).2 (.inl hn)
    rw [h] at this; cases this
  · exact cb_nan (nn_fl hn)
theorem cn_cb {x : Nat} (hx : x < 18446744073709551616) : cn (cb x) = true := by
  rw [cn_iff _ (cb_lt x hx)]
  cases hn : nn x
  · left; rw [cb_num hn]; exact hn
  · right; exact cb_nan hn
theorem nn_fl_cb {x : Nat} : nn (fl (cb x)) = nn x := by
  cases hn : nn x
  · rw [cb_num hn, fl_num hn, hn]
  · rw [cb_nan hn]; decide
/-- 'f == f' -/
theorem o_self' (x : Nat) (hx : x < 18446744073709551616) : (FloatKind.f64.format.order x x == some Ordering.eq) = !nn x := by
  have := o_self x hx
  unfold bne at this
  rw [← this, Bool.not_not]

theorem ng_true {x : Nat} : ng x = true ↔ 9223372036854775808 ≤ x := by unfold ng; simp
theorem ng_false {x : Nat} : ng x = false ↔ x < 9223372036854775808 := by unfold ng; simp
theorem vl_neg {x : Nat} (h : ng x = true) : vl x = -((x : Int) - 9223372036854775808) := by unfold vl; rw [if_pos (ng_true.1 h)]
theorem vl_pos {x : Nat} (h : ng x = false) : vl x = x := by unfold vl; rw [if_neg (by have := ng_false.1 h; omega)]

/-- the minus turned -/
theorem neg_facts (x : Nat) (hx : x < 18446744073709551616) (hn : nn x = false) :
    Op.negFloat .f64 x < 18446744073709551616 ∧ nn (Op.negFloat .f64 x) = false ∧ ng (Op.negFloat .f64 x) = !ng x ∧ bits .xor .u64 (x : Int) 9223372036854775808 = ((Op.negFloat .f64 x : Nat) : Int) := by
  have hxor : bits .xor .u64 (x : Int) 9223372036854775808 = ((Op.negFloat .f64 x : Nat) : Int) := u64_xor_nat x 9223372036854775808 hx (by omega)
  obtain ⟨s, r, hr, rfl⟩ := wd_cases x hx
  rw [neg_eq s r hr] at hxor ⊢
  have hm := (nn_iff' _).1 hn
  rw [wd_mod s r hr] at hm
  refine ⟨?_, ?_, ?_, hxor⟩
  · cases s <;> simp [wd] <;> omega
  · rw [nn_iff', wd_mod _ r hr]; exact hm
  · cases s
    · have h1 : ng (wd (!false) r) = true := by rw [ng_true]; simp [wd]
      have h2 : ng (wd false r) = false := by rw [ng_false]; simp [wd]; omega
      rw [h1, h2]; rfl
    · have h1 : ng (wd (!true) r) = false := by rw [ng_false]; simp [wd]; omega
      have h2 : ng (wd true r) = true := by rw [ng_true]; simp [wd]
      rw [h1, h2]; rfl
end Go.Proofs.Ytjjbiepmfngipaa.Fl
