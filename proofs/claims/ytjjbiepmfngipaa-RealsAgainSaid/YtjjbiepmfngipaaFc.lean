/-
  A whole number times a power of two, as a word: 'en m t'; what doubling and halving by powers do to it; the rows of powers. No Go in it.
-/
import Derived.Test.YtjjbiepmfngipaaFb
namespace Go.Proofs.Ytjjbiepmfngipaa.Fl
open Go

/-- the word of m times 2^(t - 1074) -/
def en (m t : Nat) : Nat := enc (m * 2 ^ t)
theorem en_lt (m t : Nat) (hm : m < 9007199254740992) (ht : t ≤ 2045) : en m t < 9218868437227405312 := enc_lt m t hm ht

/-- row k's power -/
def pw (k : Nat) : Int := if k = 0 then 512 else if k = 1 then 256 else if k = 2 then 128 else if k = 3 then 64 else if k = 4 then 32 else if k = 5 then 16 else if k = 6 then 8 else if k = 7 then 4 else if k = 8 then 2 else 1
def pUp (k : Nat) : Nat := (1023 + (pw k).toNat) * 4503599627370496
def pDn (k : Nat) : Nat := (1023 - (pw k).toNat) * 4503599627370496
/-- what the power is below of, at the head of row k -/
def bd (k : Nat) : Int := if k = 0 then 4096 else pw (k - 1)
theorem bd_succ (k : Nat) : bd (k + 1) = pw k := by simp [bd]
theorem pw_bd (k : Nat) : 1 ≤ pw k ∧ pw k ≤ 512 := by unfold pw; repeat' split <;> omega
theorem bd_zero : bd 0 = 4096 := by decide
theorem bd_ten : bd 10 = 1 := by decide

theorem mul_up (m s k : Nat) (hm : m < 9007199254740992) (hs : (s : Int) + pw k ≤ 2045) :
    floatBits .mul .f64 (en m s) (pUp k) = some (en m (s + (pw k).toNat)) := by
  have hp := pw_bd k
  exact mul_enc m s (s + (pw k).toNat) (1023 + (pw k).toNat) hm (by omega) (by omega) (by omega) (by omega) (by omega)
theorem mul_dn (m s k : Nat) (hm : m < 9007199254740992) (hs : s ≤ 2045) (hs2 : pw k ≤ (s : Int)) :
    floatBits .mul .f64 (en m s) (pDn k) = some (en m (s - (pw k).toNat)) := by
  have hp := pw_bd k
  exact mul_enc m s (s - (pw k).toNat) (1023 - (pw k).toNat) hm (by omega) (by omega) (by omega) (by omega) (by omega)
theorem mul_two (m s : Nat) (hm : m < 9007199254740992) (hs : s + 1 ≤ 2045) : floatBits .mul .f64 (en m s) 4611686018427387904 = some (en m (s + 1)) :=
  mul_enc m s (s + 1) 1024 hm (by omega) (by omega) (by omega) (by omega) (by omega)
theorem mul_half (m s : Nat) (hm : m < 9007199254740992) (hs : s + 1 ≤ 2045) : floatBits .mul .f64 (en m (s + 1)) 4602678819172646912 = some (en m s) :=
  mul_enc m (s + 1) s 1022 hm (by omega) (by omega) (by omega) (by omega) (by omega)
end Go.Proofs.Ytjjbiepmfngipaa.Fl
