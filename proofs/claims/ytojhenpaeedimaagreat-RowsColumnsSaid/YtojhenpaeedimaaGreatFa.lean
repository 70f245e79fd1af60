/-
 The mathematics of binary64 words that the proofs of this seat stand on: words and the whole numbers that they stand for; products with powers of two, where the format holds them; order; whole numbers to words and back. No Go in it.
-/
import Derived.Laws.FloatArith
import Derived.Laws.BitsAllLaws
namespace Go.Proofs.YtojhenpaeedimaaGreat.Fl
open Go
/-- mantissa of a rung -/
def man (r : Nat) : Nat := if r < 4503599627370496 then r else 4503599627370496 + r % 4503599627370496
/-- exponent of a rung, above the least place -/
def ex (r : Nat) : Nat := r / 4503599627370496 - 1
/-- size of a rung in units of the least place -/
def siz (r : Nat) : Nat := man r * 2 ^ ex r
def wd (s : Bool) (r : Nat) : Nat := if s then 9223372036854775808 + r else r
theorem binade_eq : Ieee.double.binade = 4503599627370496 := by decide
theorem inf_eq : Ieee.double.infRung = 9218868437227405312 := by decide
theorem sw_eq : Ieee.double.signWeight = 9223372036854775808 := by decide
theorem lp_eq : Ieee.double.leastPlace = -1074 := by decide
theorem fb_eq : Ieee.double.fractionBits = 52 := rfl
theorem word_eq (s : Bool) (r : Nat) : Ieee.double.word s r = wd s r := by
 unfold Ieee.Format.word wd; rw [sw_eq]
theorem wd_mod (s : Bool) (r : Nat) (h : r < 9223372036854775808) : wd s r % 9223372036854775808 = r := by
 unfold wd; split <;> omega
theorem wd_div (s : Bool) (r : Nat) (h : r < 9223372036854775808) : (wd s r / 9223372036854775808 % 2 == 1) = s := by
 unfold wd
 cases s
 ·simp; omega
 ·simp; omega
theorem wd_cases (x : Nat) (h : x < 18446744073709551616) : ∃ s r, r < 9223372036854775808 ∧ x = wd s r := by
 by_cases hx : x < 9223372036854775808
 ·exact ⟨false, x, hx, by simp [wd]⟩
 ·exact ⟨true, x - 9223372036854775808, by omega, by simp [wd]; omega⟩
theorem read_fin (s : Bool) (r : Nat) (h : r < 9218868437227405312) :
  Ieee.double.read (wd s r) = .number s (man r) (-1074 + ((ex r : Nat) : Int)) := by
 unfold Ieee.Format.read
 rw [sw_eq, binade_eq, inf_eq, lp_eq]
 dsimp only
 rw [wd_mod s r (by omega), wd_div s r (by omega)]
 unfold man ex
 by_cases h1 : r < 4503599627370496
 ·rw [if_pos h1, if_pos h1]
  congr 1
  omega
 ·rw [if_neg h1, if_pos h, if_neg h1]
theorem read_inf (s : Bool) : Ieee.double.read (wd s 9218868437227405312) = .infinity s := by cases s <;> decide
theorem read_nan (s : Bool) (r : Nat) (h : 9218868437227405312 < r) (h2 : r < 9223372036854775808) :
  Ieee.double.read (wd s r) = .nan s (r - 9218868437227405312) := by
 unfold Ieee.Format.read
 rw [sw_eq, binade_eq, inf_eq, lp_eq]
 dsimp only
 rw [wd_mod s r (by omega), wd_div s r (by omega)]
 rw [if_neg (by omega), if_neg (by omega), if_neg (by omega)]
theorem man_lt (r : Nat) : man r < 9007199254740992 := by unfold man; split <;> omega
theorem rung_eq (r : Nat) : ex r * 4503599627370496 + man r = r := by
 unfold ex man; split <;> omega
theorem man_zero {r : Nat} (h : man r = 0) : r = 0 := by unfold man at h; split at h <;> omega
theorem siz_pos {r : Nat} (h : 0 < r) : 0 < siz r := by
 unfold siz
 refine Nat.mul_pos ?_ (Nat.two_pow_pos _)
 rcases Nat.eq_zero_or_pos (man r) with h0 | h0
 ·have := man_zero h0; omega
 ·exact h0
theorem siz_zero : siz 0 = 0 := by simp [siz, man]
theorem log2_mul (m a : Nat) (h : 0 < m) : (m * 2 ^ a).log2 = m.log2 + a := by
 have hp : 0 < 2 ^ a := Nat.two_pow_pos a
 rw [Nat.log2_eq_iff (by have := Nat.mul_pos h hp; omega)]
 have h1 := Nat.log2_self_le (n := m) (by omega)
 have h2 := Nat.lt_log2_self (n := m)
 constructor
 ·rw [Nat.pow_add]; exact Nat.mul_le_mul_right _ h1
 ·rw [show m.log2 + a + 1 = (m.log2 + 1) + a from by omega, Nat.pow_add]
  exact Nat.mul_lt_mul_of_pos_right h2 hp
/-- log2 of the mantissa: 52 unless subnormal, where ex is 0 -/
theorem man_log2 (r : Nat) (h : 0 < r) : (4503599627370496 ≤ r ∧ (man r).log2 = 52) ∨ (ex r = 0 ∧ (man r).log2 ≤ 52) := by
 by_cases h1 : r < 4503599627370496
 ·right
  have hm : man r = r := by simp [man, h1]
  refine ⟨by unfold ex; omega, ?_⟩
  rw [hm]
  have := (Nat.log2_lt (n := r) (k := 53) (by omega)).2 (by omega)
  omega
 ·left
  refine ⟨by omega, ?_⟩
  have hm : man r = 4503599627370496 + r % 4503599627370496 := by simp [man, h1]
  rw [hm, Nat.log2_eq_iff (by omega)]
  omega
theorem cut_exact (neg : Bool) (k d : Nat) (h : 0 < k) : Ieee.Toward.even.cut neg (k * 2 ^ d) d = k := by
 unfold Ieee.Toward.cut
 rw [log2_mul k d h, Nat.min_eq_left (by omega)]
 dsimp only
 rw [Nat.one_shiftLeft, Nat.mul_div_cancel _ (Nat.two_pow_pos d), Nat.mul_mod_left]
 have : 0 < 2 ^ d := Nat.two_pow_pos d
 simp
/-- WHAT THE FORMAT HOLDS IS WRITTEN AS IT IS. -/
theorem nearest_exact (neg : Bool) (m : Nat) (place : Int) (r a b : Nat) (hr : r < 9218868437227405312)
  (h : m * 2 ^ a = siz r * 2 ^ b) (hp : place + 1074 = (a : Int) - b) :
  Ieee.double.nearest neg m place = wd neg r := by
 unfold Ieee.Format.nearest
 by_cases hm : m = 0
 ·subst hm
  rw [if_pos rfl, word_eq]
  have : siz r = 0 := by
   rcases Nat.eq_zero_or_pos (siz r) with h0 | h0
   ·exact h0
   ·have := Nat.mul_pos h0 (Nat.two_pow_pos b); omega
  have : r = 0 := by
   rcases Nat.eq_zero_or_pos r with h0 | h0
   ·exact h0
   ·have := siz_pos h0; omega
  rw [this]
 ·rw [if_neg hm]
  have hm0 : 0 < m := by omega
  have hr0 : 0 < r := by
   rcases Nat.eq_zero_or_pos r with h0 | h0
   ·subst h0
    rw [siz_zero] at h
    have := Nat.mul_pos hm0 (Nat.two_pow_pos a); omega
   ·exact h0
  have hman : 0 < man r := by
   rcases Nat.eq_zero_or_pos (man r) with h0 | h0
   ·have := man_zero h0; omega
   ·exact h0
  have hlog : m.log2 + a = (man r).log2 + ex r + b := by
   have e1 := log2_mul m a hm0
   have e2 := log2_mul (man r) (ex r + b) hman
   have : siz r * 2 ^ b = man r * 2 ^ (ex r + b) := by unfold siz; rw [Nat.mul_assoc, ← Nat.pow_add]
   rw [h, this, e2] at e1
   omega
  have hl : max (place + (m.log2 : Int) - (52 : Nat)) (-1074) = -1074 + (ex r : Int) := by
   rcases man_log2 r hr0 with ⟨_, h52⟩ | ⟨h0, h52⟩
   ·omega
   ·omega
  rw [fb_eq, lp_eq, binade_eq, inf_eq]
  dsimp only
  rw [hl, word_eq]
  have key : Ieee.Toward.even.cut neg (m <<< (place - (-1074 + (ex r : Int))).toNat) (-1074 + (ex r : Int) - place).toNat = man r := by
   rw [Nat.shiftLeft_eq]
   have hx : m * 2 ^ a = man r * 2 ^ (ex r + b) := by rw [h]; unfold siz; rw [Nat.mul_assoc, ← Nat.pow_add]
   by_cases hc : ex r + b ≤ a
   ·have e1 : (place - (-1074 + (ex r : Int))).toNat = a - (ex r + b) := by omega
    have e2 : (-1074 + (ex r : Int) - place).toNat = 0 := by omega
    rw [e1, e2]
    have e3 : m * 2 ^ (a - (ex r + b)) = man r := by
     have : m * 2 ^ (a - (ex r + b)) * 2 ^ (ex r + b) = man r * 2 ^ (ex r + b) := by
      rw [Nat.mul_assoc, ← Nat.pow_add, Nat.sub_add_cancel hc, hx]
     exact Nat.eq_of_mul_eq_mul_right (Nat.two_pow_pos _) this
    rw [e3]
    have := cut_exact neg (man r) 0 hman
    simpa using this
   ·have e1 : (place - (-1074 + (ex r : Int))).toNat = 0 := by omega
    have e2 : (-1074 + (ex r : Int) - place).toNat = ex r + b - a := by omega
    rw [e1, e2]
    have e3 : m = man r * 2 ^ (ex r + b - a) := by
     have : m * 2 ^ a = man r * 2 ^ (ex r + b - a) * 2 ^ a := by
      rw [Nat.mul_assoc, ← Nat.pow_add, Nat.sub_add_cancel (by omega), hx]
     exact Nat.eq_of_mul_eq_mul_right (Nat.two_pow_pos _) this
    rw [Nat.pow_zero, Nat.mul_one, e3]
    exact cut_exact neg (man r) _ hman
  rw [key]
  have e : (-1074 + (ex r : Int) - -1074).toNat = ex r := by omega
  rw [e, rung_eq, Nat.min_eq_left (by omega)]
theorem pow_man (k : Nat) (h : 0 < k) : man (k * 4503599627370496) = 4503599627370496 := by
 unfold man; rw [if_neg (by omega)]; omega
theorem pow_ex (k : Nat) : ex (k * 4503599627370496) = k - 1 := by
 unfold ex; rw [Nat.mul_div_cancel _ (by omega)]
/-- TIMES A POWER OF TWO, WHERE THE FORMAT HOLDS THE PRODUCT. 'k' is the field e of the power. -/
theorem mul_pow (s : Bool) (r r' k a b : Nat) (hr : r < 9218868437227405312) (hr' : r' < 9218868437227405312)
  (hk1 : 1 ≤ k) (hk2 : k ≤ 2046) (h : siz r * 2 ^ a = siz r' * 2 ^ b) (hk : k + b = 1023 + a) :
  Ieee.double.mul (wd s r) (k * 4503599627370496) = some (wd s r') := by
 unfold Ieee.Format.mul
 have hy : Ieee.double.read (k * 4503599627370496) = .number false 4503599627370496 (-1074 + ((k - 1 : Nat) : Int)) := by
  have := read_fin false (k * 4503599627370496) (by omega)
  simp only [wd, Bool.false_eq_true, if_false] at this
  rw [this, pow_man k (by omega), pow_ex]
 rw [read_fin s r hr, hy]
 simp only [Ieee.Datum.product, Option.map_some, Ieee.Format.write, Bool.xor_false]
 congr 1
 refine nearest_exact s _ _ r' (ex r + a) (52 + b) hr' ?_ (by omega)
 have e52 : (4503599627370496 : Nat) = 2 ^ 52 := by decide
 rw [e52]
 calc man r * 2 ^ 52 * 2 ^ (ex r + a) = (man r * 2 ^ ex r * 2 ^ a) * 2 ^ 52 := by rw [Nat.pow_add]; ac_rfl
  _ = siz r' * 2 ^ b * 2 ^ 52 := by rw [← h]; rfl
  _ = siz r' * 2 ^ (52 + b) := by rw [Nat.pow_add]; ac_rfl
/-- the rung of m * 2^t -/
def enc (n : Nat) : Nat := (n.log2 - 52) * 4503599627370496 + n / 2 ^ (n.log2 - 52)
theorem enc_spec (m t : Nat) (hm : m < 9007199254740992) (ht : t ≤ 2045) :
  enc (m * 2 ^ t) < 9218868437227405312 ∧ siz (enc (m * 2 ^ t)) = m * 2 ^ t := by
 rcases Nat.eq_zero_or_pos m with h0 | h0
 ·subst h0
  have : enc (0 * 2 ^ t) = 0 := by simp [enc]
  rw [this, siz_zero]; simp
 ·have hL := log2_mul m t h0
  have hm2 : m.log2 ≤ 52 := by
   have := (Nat.log2_lt (n := m) (k := 53) (by omega)).2 (by omega)
   omega
  have hn : 0 < m * 2 ^ t := Nat.mul_pos h0 (Nat.two_pow_pos t)
  generalize hN : m * 2 ^ t = N at *
  have h1 := Nat.log2_self_le (n := N) (by omega)
  have h2 := Nat.lt_log2_self (n := N)
  by_cases hc : N.log2 ≤ 52
  ·have e0 : N.log2 - 52 = 0 := by omega
   have hN2 : N < 9007199254740992 := by
    have := Nat.pow_le_pow_right (n := 2) (by omega) (show N.log2 + 1 ≤ 53 by omega)
    have e53 : (2 : Nat) ^ 53 = 9007199254740992 := by decide
    omega
   have ee : enc N = N := by simp [enc, e0]
   rw [ee]
   refine ⟨by omega, ?_⟩
   unfold siz
   by_cases hs : N < 4503599627370496
   ·have : ex N = 0 := by unfold ex; omega
    rw [this]; simp [man, hs]
   ·have : ex N = 0 := by unfold ex; omega
    rw [this]; simp only [man, if_neg hs]; omega
  ·have hd : N.log2 - 52 ≤ t := by omega
   have hq : N = m * 2 ^ (t - (N.log2 - 52)) * 2 ^ (N.log2 - 52) := by
    rw [Nat.mul_assoc, ← Nat.pow_add, Nat.sub_add_cancel hd, hN]
   generalize hD : N.log2 - 52 = D at *
   generalize hQ : m * 2 ^ (t - D) = Q at *
   have hlog : N.log2 = D + 52 := by omega
   have hQ1 : 4503599627370496 ≤ Q := by
    rw [hlog, Nat.pow_add, hq] at h1
    have e52 : (2 : Nat) ^ 52 = 4503599627370496 := by decide
    rw [e52, Nat.mul_comm] at h1
    exact Nat.le_of_mul_le_mul_right h1 (Nat.two_pow_pos D)
   have hQ2 : Q < 9007199254740992 := by
    rw [hlog, show D + 52 + 1 = D + 53 from by omega, Nat.pow_add, hq] at h2
    have e53 : (2 : Nat) ^ 53 = 9007199254740992 := by decide
    rw [e53, Nat.mul_comm (2 ^ D)] at h2
    exact Nat.lt_of_mul_lt_mul_right h2
   have ee : enc N = D * 4503599627370496 + Q := by
    unfold enc; rw [hD]; congr 1
    rw [hq]; exact Nat.mul_div_cancel _ (Nat.two_pow_pos D)
   rw [ee]
   refine ⟨by omega, ?_⟩
   unfold siz
   have e1 : ex (D * 4503599627370496 + Q) = D := by unfold ex; omega
   have e2 : man (D * 4503599627370496 + Q) = Q := by unfold man; rw [if_neg (by omega)]; omega
   rw [e1, e2, ← hq]
theorem siz_mono {r q : Nat} (h : r < q) : siz r < siz q := by
 unfold siz
 have hr := rung_eq r
 have hq := rung_eq q
 have mr := man_lt r
 have mq := man_lt q
 have hex : ex r ≤ ex q := by unfold ex; omega
 rcases Nat.lt_or_ge (ex r) (ex q) with hlt | hge
 ·have hmq : 4503599627370496 ≤ man q := by
   unfold ex at hlt; unfold man; rw [if_neg (by omega)]; omega
  calc man r * 2 ^ ex r < 9007199254740992 * 2 ^ ex r := Nat.mul_lt_mul_of_pos_right mr (Nat.two_pow_pos _)
   _ = 4503599627370496 * 2 ^ (ex r + 1) := by rw [Nat.pow_succ]; omega
   _ ≤ 4503599627370496 * 2 ^ ex q := Nat.mul_le_mul_left _ (Nat.pow_le_pow_right (by omega) hlt)
   _ ≤ man q * 2 ^ ex q := Nat.mul_le_mul_right _ hmq
 ·have he : ex r = ex q := by omega
  rw [he] at hr ⊢
  exact Nat.mul_lt_mul_of_pos_right (by omega) (Nat.two_pow_pos _)
theorem siz_inj {r q : Nat} (h : siz r = siz q) : r = q := by
 rcases Nat.lt_trichotomy r q with h1 | h1 | h1
 ·have := siz_mono h1; omega
 ·exact h1
 ·have := siz_mono h1; omega
theorem enc_siz (r : Nat) (h : r < 9218868437227405312) : enc (siz r) = r := by
 have := enc_spec (man r) (ex r) (man_lt r) (by unfold ex; omega)
 exact siz_inj this.2
/-- how a word stands, as a number -/
def sgn (s : Bool) (r : Nat) : Int := if s then -(r : Int) else r
theorem compare_mul (x y : Int) (c : Nat) (hc : 0 < c) : compare (x * c) (y * c) = compare x y := by
 have hc' : (0 : Int) < c := by omega
 simp only [compare, compareOfLessAndEq]
 have h1 : (x * c < y * c) ↔ x < y := ⟨fun h => Int.lt_of_mul_lt_mul_right h (by omega), fun h => Int.mul_lt_mul_of_pos_right h hc'⟩
 have h2 : (x * c = y * c) ↔ x = y := ⟨fun h => Int.eq_of_mul_eq_mul_right (by omega) h, fun h => by rw [h]⟩
 simp only [h1, h2]
theorem signed_eq (s : Bool) (m u : Nat) : Ieee.signed s m u = if s then -((m * 2 ^ u : Nat) : Int) else ((m * 2 ^ u : Nat) : Int) := by
 unfold Ieee.signed; rw [Nat.shiftLeft_eq]
theorem siz_cmp (s t : Bool) (r q : Nat) :
  compare (if s then -((siz r : Nat) : Int) else ((siz r : Nat) : Int)) (if t then -((siz q : Nat) : Int) else ((siz q : Nat) : Int)) = compare (sgn s r) (sgn t q) := by
 have h1 : siz r < siz q ↔ r < q := ⟨fun h => by
  rcases Nat.lt_trichotomy r q with h1 | h1 | h1
  ·exact h1
  ·subst h1; omega
  ·have := siz_mono h1; omega, siz_mono⟩
 have h2 : siz r = siz q ↔ r = q := ⟨siz_inj, fun h => by rw [h]⟩
 have h3 : siz r = 0 ↔ r = 0 := ⟨fun h => siz_inj (h.trans siz_zero.symm), fun h => by rw [h, siz_zero]⟩
 have h4 : siz q = 0 ↔ q = 0 := ⟨fun h => siz_inj (h.trans siz_zero.symm), fun h => by rw [h, siz_zero]⟩
 unfold sgn
 simp only [compare, compareOfLessAndEq]
 cases s <;> cases t <;> simp only [Bool.false_eq_true, if_true, if_false]
 ·simp only [Int.ofNat_lt, h1, Int.natCast_inj, h2]
 ·have a1 : ((siz r : Int) < -(siz q : Int)) ↔ ((r : Int) < -(q : Int)) := by omega
  have a2 : ((siz r : Int) = -(siz q : Int)) ↔ ((r : Int) = -(q : Int)) := by omega
  simp only [a1, a2]
 ·have a1 : (-(siz r : Int) < (siz q : Int)) ↔ (-(r : Int) < (q : Int)) := by omega
  have a2 : (-(siz r : Int) = (siz q : Int)) ↔ (-(r : Int) = (q : Int)) := by omega
  simp only [a1, a2]
 ·have h1' : siz q < siz r ↔ q < r := ⟨fun h => by
   rcases Nat.lt_trichotomy r q with h1 | h1 | h1
   ·have := siz_mono h1; omega
   ·subst h1; omega
   ·exact h1, siz_mono⟩
  have a1 : (-(siz r : Int) < -(siz q : Int)) ↔ (-(r : Int) < -(q : Int)) := by omega
  have a2 : (-(siz r : Int) = -(siz q : Int)) ↔ (-(r : Int) = -(q : Int)) := by omega
  simp only [a1, a2]
theorem cmp_lt {x y : Int} (h : x < y) : compare x y = .lt := by simp [compare, compareOfLessAndEq, h]
theorem cmp_gt {x y : Int} (h : y < x) : compare x y = .gt := by
 have h1 : ¬ x < y := by omega
 have h2 : ¬ x = y := by omega
 simp [compare, compareOfLessAndEq, h1, h2]
theorem cmp_inf_r (s t : Bool) (r : Nat) (h : r < 9218868437227405312) : (if t then Ordering.gt else Ordering.lt) = compare (sgn s r) (sgn t 9218868437227405312) := by
 cases t
 ·rw [cmp_lt]; rfl
  unfold sgn; cases s <;> simp <;> omega
 ·rw [cmp_gt]; rfl
  unfold sgn; cases s <;> simp <;> omega
theorem cmp_inf_l (s t : Bool) (q : Nat) (h : q < 9218868437227405312) : (if s then Ordering.lt else Ordering.gt) = compare (sgn s 9218868437227405312) (sgn t q) := by
 cases s
 ·rw [cmp_gt]; rfl
  unfold sgn; cases t <;> simp <;> omega
 ·rw [cmp_lt]; rfl
  unfold sgn; cases t <;> simp <;> omega
/-- HOW TWO STAND, ENDLESS ONES TOO. -/
theorem order_eq (s t : Bool) (r q : Nat) (hr : r ≤ 9218868437227405312) (hq : q ≤ 9218868437227405312) :
  Ieee.double.order (wd s r) (wd t q) = some (compare (sgn s r) (sgn t q)) := by
 unfold Ieee.Format.order
 rcases Nat.lt_or_ge r 9218868437227405312 with hr1 | hr1
 ·rcases Nat.lt_or_ge q 9218868437227405312 with hq1 | hq1
  ·rw [read_fin s r hr1, read_fin t q hq1]
   simp only [Ieee.Datum.order]
   congr 1
   rw [signed_eq, signed_eq, ← siz_cmp]
   generalize hb : min (-1074 + ((ex r : Nat) : Int)) (-1074 + ((ex q : Nat) : Int)) = base
   have hb' : base = -1074 + ((min (ex r) (ex q) : Nat) : Int) := by omega
   generalize hc : min (ex r) (ex q) = c at *
   have e1 : (-1074 + ((ex r : Nat) : Int) - base).toNat = ex r - c := by omega
   have e2 : (-1074 + ((ex q : Nat) : Int) - base).toNat = ex q - c := by omega
   rw [e1, e2]
   rw [← compare_mul _ _ (2 ^ c) (Nat.two_pow_pos c)]
   have f1 : man r * 2 ^ (ex r - c) * 2 ^ c = siz r := by unfold siz; rw [Nat.mul_assoc, ← Nat.pow_add, Nat.sub_add_cancel (by omega)]
   have f2 : man q * 2 ^ (ex q - c) * 2 ^ c = siz q := by unfold siz; rw [Nat.mul_assoc, ← Nat.pow_add, Nat.sub_add_cancel (by omega)]
   rw [← f1, ← f2]
   cases s <;> cases t <;> simp only [Bool.false_eq_true, if_true, if_false, Int.neg_mul, Int.natCast_mul]
  ·have : q = 9218868437227405312 := by omega
   subst this
   rw [read_fin s r hr1, read_inf t]
   simp only [Ieee.Datum.order]
   congr 1
   exact (cmp_inf_r s t r hr1)
 ·have : r = 9218868437227405312 := by omega
  subst this
  rcases Nat.lt_or_ge q 9218868437227405312 with hq1 | hq1
  ·rw [read_inf s, read_fin t q hq1]
   simp only [Ieee.Datum.order]
   congr 1
   exact (cmp_inf_l s t q hq1)
  ·have : q = 9218868437227405312 := by omega
   subst this
   rw [read_inf s, read_inf t]
   cases s <;> cases t <;> decide
theorem order_nan_left (s : Bool) (r y : Nat) (h : 9218868437227405312 < r) (h2 : r < 9223372036854775808) :
  Ieee.double.order (wd s r) y = none := by
 unfold Ieee.Format.order
 rw [read_nan s r h h2]; cases Ieee.double.read y <;> rfl
/-- the least place, turned about -/
def B : Nat := 1074
theorem B_eq : B = 1074 := rfl
theorem cut_exact0 (neg : Bool) (k d : Nat) : Ieee.Toward.zero.cut neg (k * 2 ^ d) d = k := by
 unfold Ieee.Toward.cut
 rcases Nat.eq_zero_or_pos k with h | h
 ·subst h; simp
 ·rw [log2_mul k d h, Nat.min_eq_left (by omega)]
  dsimp only
  rw [Nat.one_shiftLeft, Nat.mul_div_cancel _ (Nat.two_pow_pos d)]
  simp
/-- a whole number's word -/
theorem ofNat_eq (n : Nat) (h : n < 9007199254740992) : floatOfInt .f64 (n : Int) = enc (n * 2 ^ B) := by
 have hs := enc_spec n B h (by rw [B_eq]; omega)
 have : floatOfInt .f64 (n : Int) = Ieee.double.nearest (decide ((n : Int) < 0)) (n : Int).natAbs 0 := rfl
 rw [this, Int.natAbs_natCast]
 rw [nearest_exact _ n 0 (enc (n * 2 ^ B)) B 0 hs.1 (by rw [hs.2, Nat.pow_zero, Nat.mul_one]) (by rw [B_eq]; omega)]
 have : decide ((n : Int) < 0) = false := by simp
 rw [this]; rfl
/-- a word that is a whole number, as one -/
theorem toNat_eq (r n : Nat) (hr : r < 9218868437227405312) (h : siz r = n * 2 ^ B) (hn : n < 18446744073709551616) :
  floatToIntVal .f64 r .u64 = some (n : Int) := by
 have hB := B_eq
 unfold floatToIntVal
 have hd : FloatKind.f64.decode r = Ieee.double.read (wd false r) := rfl
 rw [hd, read_fin false r hr]
 unfold Ieee.Datum.toInt Ieee.Datum.integral
 have key : Ieee.Toward.zero.cut false (man r <<< (-1074 + ((ex r : Nat) : Int)).toNat) (-(-1074 + ((ex r : Nat) : Int))).toNat = n := by
  rw [Nat.shiftLeft_eq]
  unfold siz at h
  by_cases hc : B ≤ ex r
  ·have e1 : (-1074 + ((ex r : Nat) : Int)).toNat = ex r - B := by omega
   have e2 : (-(-1074 + ((ex r : Nat) : Int))).toNat = 0 := by omega
   rw [e1, e2]
   have : man r * 2 ^ (ex r - B) = n := by
    have : man r * 2 ^ (ex r - B) * 2 ^ B = n * 2 ^ B := by
     rw [Nat.mul_assoc, ← Nat.pow_add, Nat.sub_add_cancel hc, h]
    exact Nat.eq_of_mul_eq_mul_right (Nat.two_pow_pos _) this
   rw [this]
   have := cut_exact0 false n 0
   simpa using this
  ·have e1 : (-1074 + ((ex r : Nat) : Int)).toNat = 0 := by omega
   have e2 : (-(-1074 + ((ex r : Nat) : Int))).toNat = B - ex r := by omega
   rw [e1, e2]
   have : man r = n * 2 ^ (B - ex r) := by
    have : man r * 2 ^ ex r = n * 2 ^ (B - ex r) * 2 ^ ex r := by
     rw [Nat.mul_assoc, ← Nat.pow_add, Nat.sub_add_cancel (by omega), h]
    exact Nat.eq_of_mul_eq_mul_right (Nat.two_pow_pos _) this
   rw [this, Nat.pow_zero, Nat.mul_one]
   exact cut_exact0 false n _
 dsimp only
 rw [key]
 have hsig : Ieee.signed false n 0 = (n : Int) := by rw [signed_eq]; simp
 rw [hsig]
 have h1 : IntKind.u64.min = 0 := by decide
 have h2 : IntKind.u64.max = 18446744073709551615 := by decide
 rw [h1, h2]
 exact if_pos (by omega)
theorem xor_top (x : Nat) (hx : x < 9223372036854775808) : x ^^^ 9223372036854775808 = 9223372036854775808 + x := by
 have h63 : (9223372036854775808 : Nat) = 2 ^ 63 := by decide
 rw [h63] at hx ⊢
 apply Nat.eq_of_testBit_eq
 intro i
 rw [Nat.testBit_xor, Nat.testBit_two_pow]
 rcases Nat.lt_trichotomy i 63 with h | h | h
 ·rw [Nat.testBit_two_pow_add_gt h]
  have : decide (63 = i) = false := by simp; omega
  rw [this, Bool.xor_false]
 ·subst h
  rw [Nat.testBit_two_pow_add_eq]; simp
 ·have hle := Nat.pow_le_pow_right (n := 2) (by omega) (show 64 ≤ i by omega)
  have e64 : (2 : Nat) ^ 64 = 2 ^ 63 + 2 ^ 63 := by decide
  rw [Nat.testBit_lt_two_pow (x := x) (by omega), Nat.testBit_lt_two_pow (x := 2 ^ 63 + x) (by omega)]
  have : decide (63 = i) = false := by simp; omega
  rw [this]; rfl
theorem neg_eq (s : Bool) (r : Nat) (h : r < 9223372036854775808) : Op.negFloat .f64 (wd s r) = wd (!s) r := by
 have e : Op.negFloat .f64 (wd s r) = wd s r ^^^ 9223372036854775808 := rfl
 rw [e]
 cases s
 ·exact xor_top r h
 ·show (9223372036854775808 + r) ^^^ 9223372036854775808 = r
  rw [← xor_top r h, Nat.xor_assoc, Nat.xor_self, Nat.xor_zero]
theorem div_one (s : Bool) : Ieee.double.div 4607182418800017408 (wd s 0) = some (wd s 9218868437227405312) := by cases s <;> decide
/-- LESS ONE, of what is from one on and below two -/
theorem sub_one (r : Nat) (h1 : 4607182418800017408 ≤ r) (h2 : r < 4611686018427387904) :
  Ieee.double.sub r 4607182418800017408 = some (enc ((r - 4607182418800017408) * 2 ^ 1022)) := by
 unfold Ieee.Format.sub
 have e1 : Ieee.double.read 4607182418800017408 = .number false 4503599627370496 (-1074 + ((1022 : Nat) : Int)) := by decide
 have e2 : Ieee.double.read r = .number false (4503599627370496 + (r - 4607182418800017408)) (-1074 + ((1022 : Nat) : Int)) := by
  have := read_fin false r (by omega)
  simp only [wd, Bool.false_eq_true, if_false] at this
  rw [this]
  have a1 : man r = 4503599627370496 + (r - 4607182418800017408) := by unfold man; rw [if_neg (by omega)]; omega
  have a2 : ex r = 1022 := by unfold ex; omega
  rw [a1, a2]
 rw [e1, e2]
 generalize hq : r - 4607182418800017408 = q
 have hq2 : q < 4503599627370496 := by omega
 simp only [Ieee.Datum.opposite, Ieee.Datum.sum, Option.map_some, Ieee.Format.write, Bool.not_false]
 refine congrArg some ?_
 have hs := enc_spec q 1022 (by omega) (by omega)
 have hbase : min (-1074 + ((1022 : Nat) : Int)) (-1074 + ((1022 : Nat) : Int)) = -52 := by omega
 have hb2 : (-1074 + ((1022 : Nat) : Int) - -52).toNat = 0 := by omega
 rw [hbase, hb2, signed_eq, signed_eq]
 simp only [Bool.false_eq_true, if_false, if_true, Nat.pow_zero, Nat.mul_one]
 have ht : (((4503599627370496 + q : Nat) : Int) + -((4503599627370496 : Nat) : Int)) = (q : Int) := by omega
 rw [ht]
 have hneg : (if (q : Int) = 0 then false && true else decide ((q : Int) < 0)) = false := by
  by_cases h0 : (q : Int) = 0
  ·rw [if_pos h0]; rfl
  ·rw [if_neg h0]; simp
 rw [hneg, Int.natAbs_natCast]
 rw [nearest_exact false q (-52) (enc (q * 2 ^ 1022)) 1022 0 hs.1 (by rw [hs.2, Nat.pow_zero, Nat.mul_one]) (by omega)]
 rfl
/-- TWICE, of what is too great: endless -/
theorem dbl_big (r : Nat) (h1 : 9214364837600034816 ≤ r) (h2 : r < 9218868437227405312) :
  Ieee.double.mul r 4611686018427387904 = some 9218868437227405312 := by
 unfold Ieee.Format.mul
 have e1 : Ieee.double.read 4611686018427387904 = .number false 4503599627370496 (-1074 + ((1023 : Nat) : Int)) := by decide
 have e2 : Ieee.double.read r = .number false (4503599627370496 + (r - 9214364837600034816)) (-1074 + ((2045 : Nat) : Int)) := by
  have := read_fin false r (by omega)
  simp only [wd, Bool.false_eq_true, if_false] at this
  rw [this]
  have a1 : man r = 4503599627370496 + (r - 9214364837600034816) := by unfold man; rw [if_neg (by omega)]; omega
  have a2 : ex r = 2045 := by unfold ex; omega
  rw [a1, a2]
 rw [e1, e2]
 generalize hq : r - 9214364837600034816 = q
 have hq2 : q < 4503599627370496 := by omega
 simp only [Ieee.Datum.product, Option.map_some, Ieee.Format.write, Bool.xor_false]
 refine congrArg some ?_
 unfold Ieee.Format.nearest
 rw [if_neg (by omega)]
 have hm : ((4503599627370496 + q) * 4503599627370496).log2 = 104 := by
  rw [Nat.log2_eq_iff (by omega)]
  have e104 : (2 : Nat) ^ 104 = 4503599627370496 * 4503599627370496 := by decide
  have e105 : (2 : Nat) ^ (104 + 1) = 9007199254740992 * 4503599627370496 := by decide
  rw [e104, e105]
  exact ⟨Nat.mul_le_mul_right _ (by omega), Nat.mul_lt_mul_of_pos_right (by omega) (by omega)⟩
 rw [fb_eq, lp_eq, binade_eq, inf_eq, hm]
 dsimp only
 have hl : max (-1074 + ((2045 : Nat) : Int) + (-1074 + ((1023 : Nat) : Int)) + ((104 : Nat) : Int) - ((52 : Nat) : Int)) (-1074) = 972 := by omega
 rw [hl, word_eq]
 have hc : ((972 : Int) - -1074).toNat = 2046 := by omega
 rw [hc]
 have e3 : (-1074 + ((2045 : Nat) : Int) + (-1074 + ((1023 : Nat) : Int)) - 972).toNat = 0 := by omega
 have e4 : ((972 : Int) - (-1074 + ((2045 : Nat) : Int) + (-1074 + ((1023 : Nat) : Int)))).toNat = 52 := by omega
 rw [e3, e4, Nat.shiftLeft_eq, Nat.pow_zero, Nat.mul_one]
 have e52 : (4503599627370496 : Nat) = 2 ^ 52 := by decide
 have hk : Ieee.Toward.even.cut false ((4503599627370496 + q) * 4503599627370496) 52 = 4503599627370496 + q := by
  have := cut_exact false (4503599627370496 + q) 52 (by omega)
  rw [← e52] at this
  exact this
 rw [hk, Nat.min_eq_right (by omega)]
 rfl
/-- the word without its minus -/
def mg (x : Nat) : Nat := x % 9223372036854775808
/-- has it a minus? -/
def ng (x : Nat) : Bool := decide (9223372036854775808 ≤ x)
/-- is it no number? -/
def nn (x : Nat) : Bool := decide (9218868437227405312 < x % 9223372036854775808)
/-- how a word stands, as a whole number -/
def vl (x : Nat) : Int := if 9223372036854775808 ≤ x then -((x : Int) - 9223372036854775808) else x
theorem wd_vl (s : Bool) (r : Nat) (h : r < 9223372036854775808) : vl (wd s r) = sgn s r := by
 unfold vl wd sgn
 cases s
 ·simp; omega
 ·simp; omega
theorem order_vl (x y : Nat) (hx : x < 18446744073709551616) (hy : y < 18446744073709551616) (nx : nn x = false) (ny : nn y = false) :
  FloatKind.f64.format.order x y = some (compare (vl x) (vl y)) := by
 obtain ⟨s, r, hr, rfl⟩ := wd_cases x hx
 obtain ⟨t, q, hq, rfl⟩ := wd_cases y hy
 unfold nn at nx ny
 rw [wd_mod s r hr] at nx
 rw [wd_mod t q hq] at ny
 rw [wd_vl s r hr, wd_vl t q hq]
 exact order_eq s t r q (by simpa using nx) (by simpa using ny)
theorem order_nn_left (x y : Nat) (hx : x < 18446744073709551616) (nx : nn x = true) : FloatKind.f64.format.order x y = none := by
 obtain ⟨s, r, hr, rfl⟩ := wd_cases x hx
 unfold nn at nx
 rw [wd_mod s r hr] at nx
 exact order_nan_left s r y (by simpa using nx) hr
theorem cmp_bool (a b : Int) : ((some (compare a b) == some Ordering.lt) = decide (a < b)) ∧ ((some (compare a b) == some Ordering.eq) = decide (a = b)) ∧ ((some (compare a b) == some Ordering.gt) = decide (b < a)) := by
 rcases Int.lt_trichotomy a b with h | h | h
 ·have h1 : ¬ a = b := by omega
  have h2 : ¬ b < a := by omega
  rw [cmp_lt h]; simp [h, h1, h2]
 ·subst h
  have : compare a a = Ordering.eq := by simp [compare, compareOfLessAndEq]
  rw [this]; simp
 ·have h1 : ¬ a = b := by omega
  have h2 : ¬ a < b := by omega
  rw [cmp_gt h]; simp [h, h1, h2]
theorem o_lt (x y : Nat) (hx : x < 18446744073709551616) (hy : y < 18446744073709551616) (nx : nn x = false) (ny : nn y = false) : (FloatKind.f64.format.order x y == some Ordering.lt) = decide (vl x < vl y) := by
 rw [order_vl x y hx hy nx ny]; exact (cmp_bool _ _).1
theorem o_eq (x y : Nat) (hx : x < 18446744073709551616) (hy : y < 18446744073709551616) (nx : nn x = false) (ny : nn y = false) : (FloatKind.f64.format.order x y == some Ordering.eq) = decide (vl x = vl y) := by
 rw [order_vl x y hx hy nx ny]; exact (cmp_bool _ _).2.1
theorem o_ne (x y : Nat) (hx : x < 18446744073709551616) (hy : y < 18446744073709551616) (nx : nn x = false) (ny : nn y = false) : (FloatKind.f64.format.order x y != some Ordering.eq) = decide (vl x ≠ vl y) := by
 unfold bne; rw [o_eq x y hx hy nx ny]; simp
theorem o_gt (x y : Nat) (hx : x < 18446744073709551616) (hy : y < 18446744073709551616) (nx : nn x = false) (ny : nn y = false) : (FloatKind.f64.format.order x y == some Ordering.gt) = decide (vl y < vl x) := by
 rw [order_vl x y hx hy nx ny]; exact (cmp_bool _ _).2.2
theorem o_ge (x y : Nat) (hx : x < 18446744073709551616) (hy : y < 18446744073709551616) (nx : nn x = false) (ny : nn y = false) : (FloatKind.f64.format.order x y == some Ordering.gt || FloatKind.f64.format.order x y == some Ordering.eq) = decide (vl y ≤ vl x) := by
 rw [o_gt x y hx hy nx ny, o_eq x y hx hy nx ny, ← Bool.decide_or]; exact decide_eq_decide.2 (by omega)
/-- 'f != f' -/
theorem o_self (x : Nat) (hx : x < 18446744073709551616) : (FloatKind.f64.format.order x x != some Ordering.eq) = nn x := by
 cases h : nn x
 ·rw [o_ne x x hx hx h h]; simp
 ·rw [order_nn_left x x hx h]; rfl
theorem nn_small (x : Nat) (h : x ≤ 9218868437227405312) : nn x = false := by unfold nn; simp; omega
theorem vl_small (x : Nat) (h : x < 9223372036854775808) : vl x = x := by unfold vl; rw [if_neg (by omega)]
/-- THE BITS that the document asks for -/
def cb (x : Nat) : Nat := if nn x then 9221120237041090560 else x
theorem mul_enc (m t t' k : Nat) (hm : m < 9007199254740992) (ht : t ≤ 2045) (ht' : t' ≤ 2045) (hk1 : 1 ≤ k) (hk2 : k ≤ 2046) (hk : k + t = 1023 + t') :
  FloatKind.f64.format.mul (enc (m * 2 ^ t)) (k * 4503599627370496) = some (enc (m * 2 ^ t')) := by
 have h1 := enc_spec m t hm ht
 have h2 := enc_spec m t' hm ht'
 generalize enc (m * 2 ^ t) = a at *
 generalize enc (m * 2 ^ t') = b at *
 refine mul_pow false a b k t' t h1.1 h2.1 hk1 hk2 ?_ hk
 rw [h1.2, h2.2, Nat.mul_assoc, Nat.mul_assoc, ← Nat.pow_add, ← Nat.pow_add, Nat.add_comm]
theorem enc_lt (m t : Nat) (hm : m < 9007199254740992) (ht : t ≤ 2045) : enc (m * 2 ^ t) < 9218868437227405312 := (enc_spec m t hm ht).1
/-- a rung, as what it is the size of -/
theorem enc_rung (r : Nat) (h : r < 9218868437227405312) : enc (man r * 2 ^ ex r) = r := enc_siz r h
theorem enc_small (m : Nat) (hm : m < 4503599627370496) : enc (m * 2 ^ 0) = m := by
 have := enc_rung m (by omega)
 have h1 : man m = m := by simp [man, hm]
 have h2 : ex m = 0 := by unfold ex; omega
 rw [h1, h2] at this; exact this
theorem enc_norm (m e : Nat) (hm : m < 4503599627370496) (he : 1 ≤ e) (he2 : e ≤ 2046) : enc ((4503599627370496 + m) * 2 ^ (e - 1)) = e * 4503599627370496 + m := by
 have := enc_rung (e * 4503599627370496 + m) (by omega)
 have h1 : man (e * 4503599627370496 + m) = 4503599627370496 + m := by unfold man; rw [if_neg (by omega)]; omega
 have h2 : ex (e * 4503599627370496 + m) = e - 1 := by unfold ex; omega
 rw [h1, h2] at this; exact this
end Go.Proofs.YtojhenpaeedimaaGreat.Fl
