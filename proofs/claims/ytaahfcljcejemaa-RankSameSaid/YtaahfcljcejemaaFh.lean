/-
  Keys: plain facts. No Go in it.
-/
import Derived.Test.YtaahfcljcejemaaFg
namespace Go.Proofs.Ytaahfcljcejemaa.Fl
open Go

theorem not_max (x : Nat) (h : x < 18446744073709551616) : bits .xor .u64 IntKind.u64.max (x : Int) = ((18446744073709551615 - x : Nat) : Int) := by
  have e : IntKind.u64.max = 18446744073709551615 := by decide
  rw [e]; exact not_u64 x h

theorem ky_pos {x : Nat} (h : ng (cb x) = false) : ky x = cb x + 9223372036854775808 := by unfold ky; rw [if_pos (ng_false.1 h)]
theorem ky_neg {x : Nat} (h : ng (cb x) = true) : ky x = 18446744073709551615 - cb x := by unfold ky; rw [if_neg (by have := ng_true.1 h; omega)]
theorem uk_ky (x : Nat) (hx : x < 18446744073709551616) : uk (ky x) = cb x := by
  have := cb_lt x hx
  unfold uk ky
  by_cases h : cb x < 9223372036854775808
  · rw [if_pos h, if_neg (by omega)]; omega
  · rw [if_neg h, if_pos (by omega)]; omega
theorem uk_inj {a b : Nat} (ha : a < 18446744073709551616) (hb : b < 18446744073709551616) (h : uk a = uk b) : a = b := by
  unfold uk at h
  split at h <;> split at h <;> omega
/-- a number has the key k just if its bits are what k tells -/
theorem ky_iff {x k : Nat} (hx : x < 18446744073709551616) (hk : k < 18446744073709551616) : ky x = k ↔ cb x = uk k := by
  constructor
  · intro h; rw [← h, uk_ky x hx]
  · intro h; exact uk_inj (ky_lt x) hk (by rw [uk_ky x hx, h])

/-- how two numbers stand -/
def cm (a b : Nat) : Int := if a < b then -1 else if b < a then 1 else 0
/-- are two keys two or more apart? -/
def far (a b : Nat) : Bool := decide (2 ≤ max a b - min a b)
/-- the middle of two keys -/
def md (a b : Nat) : Nat := min a b + (max a b - min a b) / 2
theorem md_lt {a b : Nat} (ha : a < 18446744073709551616) (hb : b < 18446744073709551616) : md a b < 18446744073709551616 := by unfold md; omega
/-- the word that Unkey gives -/
def uw (k : Nat) : Nat := if cn (uk k) then fl (uk k) else 0
theorem uw_yes {k : Nat} (h : cn (uk k) = true) : uw k = fl (uk k) := by unfold uw; rw [if_pos h]
theorem uw_no {k : Nat} (h : cn (uk k) = false) : uw k = 0 := by unfold uw; rw [if_neg (by rw [h]; simp)]
end Go.Proofs.Ytaahfcljcejemaa.Fl
