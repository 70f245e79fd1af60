/-
 Plain mathematics of layer 3: what Put, Fixed, Zig and Zag tell, and what is read of bytes. No Go.
-/
namespace Go.Proofs.Ytojhenpaeedimaa.Pk
/-- P3.1: n in groups of seven bits -/
def put (n : Nat) : List UInt8 := if n < 128 then [UInt8.ofNat n] else UInt8.ofNat (n % 128 + 128) :: put (n / 128)
termination_by n
decreasing_by omega
theorem put_lo {n : Nat} (h : n < 128) : put n = [UInt8.ofNat n] := by rw [put, if_pos h]
theorem put_hi {n : Nat} (h : 128 ≤ n) : put n = UInt8.ofNat (n % 128 + 128) :: put (n / 128) := by rw [put, if_neg (by omega)]
theorem put_byte {b : UInt8} (h : b.toNat < 128) : put b.toNat = [b] := by rw [put_lo h]; simp
theorem put_len_pos (n : Nat) : 0 < (put n).length := by
 rw [put]; split <;> simp
theorem put_len (k : Nat) : ∀ n, n < 128 ^ k → 1 ≤ k → (put n).length ≤ k := by
 induction k with
 | zero => intro n _ h; omega
 | succ k ih =>
  intro n h _
  by_cases hn : n < 128
  ·rw [put_lo hn]; simp
  ·rw [put_hi (by omega), List.length_cons]
   have hd : n / 128 < 128 ^ k := by
    rw [Nat.pow_succ] at h
    exact Nat.div_lt_of_lt_mul (by omega)
   cases k with
   | zero => simp at hd; omega
   | succ k => have := ih _ hd (by omega); omega
/-- a number's bytes are ten at most -/
theorem put_len10 {n : Nat} (h : n < 18446744073709551616) : (put n).length ≤ 10 :=
 put_len 10 n (by omega) (by omega)
def fixed : Nat → Nat → List UInt8
 | 0, _ => []
 | k + 1, u => UInt8.ofNat (u % 256) :: fixed k (u / 256)
theorem fixed_len (k : Nat) : ∀ u, (fixed k u).length = k := by
 induction k with
 | zero => intro u; rfl
 | succ k ih => intro u; rw [fixed, List.length_cons, ih]
theorem fixed_snoc (k : Nat) : ∀ u, fixed (k + 1) u = fixed k u ++ [UInt8.ofNat (u / 256 ^ k % 256)] := by
 induction k with
 | zero => intro u; simp [fixed]
 | succ k ih =>
  intro u
  rw [fixed, ih, fixed, List.cons_append, Nat.div_div_eq_div_mul, Nat.pow_succ, Nat.mul_comm]
/-- what is read of bytes: a number and how many bytes it has, or an error -/
inductive Rd where
 | cut | long
 | ok (n : Nat) (used : Nat)
/-- P3.3: bytes are looked at one by one, from the i-th on; acc: what the ones ahead tell -/
def rdAt : Nat → Nat → List UInt8 → Rd
 | _, _, [] => .cut
 | i, acc, b :: l =>
  if (i = 9 ∧ 1 < b.toNat) ∨ (0 < i ∧ b.toNat = 0) then .long
  else if b.toNat < 128 then .ok (acc + b.toNat * 128 ^ i) (i + 1)
  else rdAt (i + 1) (acc + (b.toNat % 128) * 128 ^ i) l
def rd (l : List UInt8) : Rd := rdAt 0 0 l
theorem rdAt_nil (i acc : Nat) : rdAt i acc [] = .cut := by rw [rdAt]
theorem rdAt_long {i acc : Nat} {b : UInt8} {l : List UInt8} (h : (i = 9 ∧ 1 < b.toNat) ∨ (0 < i ∧ b.toNat = 0)) : rdAt i acc (b :: l) = .long := by
 rw [rdAt, if_pos h]
theorem rdAt_ok {i acc : Nat} {b : UInt8} {l : List UInt8} (h : ¬((i = 9 ∧ 1 < b.toNat) ∨ (0 < i ∧ b.toNat = 0))) (hb : b.toNat < 128) :
  rdAt i acc (b :: l) = .ok (acc + b.toNat * 128 ^ i) (i + 1) := by
 rw [rdAt, if_neg h, if_pos hb]
theorem rdAt_more {i acc : Nat} {b : UInt8} {l : List UInt8} (h : ¬((i = 9 ∧ 1 < b.toNat) ∨ (0 < i ∧ b.toNat = 0))) (hb : 128 ≤ b.toNat) :
  rdAt i acc (b :: l) = rdAt (i + 1) (acc + (b.toNat % 128) * 128 ^ i) l := by
 rw [rdAt, if_neg h, if_neg (by omega)]
theorem ofNat_toNat_lt {n : Nat} (h : n < 256) : (UInt8.ofNat n).toNat = n := by
 rw [UInt8.toNat_ofNat']; exact Nat.mod_eq_of_lt h
/-- what is put is read, whatever follows: from the i-th byte on -/
theorem rdAt_put (k : Nat) : ∀ (i n acc : Nat) (l : List UInt8), i + k = 10 → n * 128 ^ i < 18446744073709551616 → (0 < i → 0 < n) →
  rdAt i acc (put n ++ l) = .ok (acc + n * 128 ^ i) (i + (put n).length) := by
 induction k with
 | zero =>
  intro i n acc l hk h1 h2
  obtain rfl : i = 10 := by omega
  have := h2 (by omega)
  have : 128 ^ 10 ≤ n * 128 ^ 10 := Nat.le_mul_of_pos_left _ this
  omega
 | succ k ih =>
  intro i n acc l hk h1 h2
  have hi9 : i = 9 → n < 2 := by
   rintro rfl
   have : n * 9223372036854775808 < 18446744073709551616 := h1
   omega
  by_cases hn : n < 128
  ·rw [put_lo hn, List.singleton_append, rdAt_ok, ofNat_toNat_lt (by omega)]
   ·rfl
   ·rw [ofNat_toNat_lt (by omega)]
    rintro (⟨h, h'⟩ | ⟨h, h'⟩)
    ·have := hi9 h; omega
    ·have := h2 h; omega
   ·rw [ofNat_toNat_lt (by omega)]; exact hn
  ·rw [put_hi (by omega), List.cons_append, rdAt_more]
   ·rw [ofNat_toNat_lt (by omega), ih (i + 1) (n / 128) _ l (by omega)]
    ·have e : (n % 128 + 128) % 128 = n % 128 := by omega
     have hp : acc + n % 128 * 128 ^ i + n / 128 * 128 ^ (i + 1) = acc + n * 128 ^ i := by
      rw [Nat.pow_succ, Nat.mul_comm (128 ^ i) 128, ← Nat.mul_assoc, Nat.add_assoc, ← Nat.add_mul]
      congr 2
      omega
     rw [e, hp, List.length_cons]
     congr 1
     omega
    ·rw [Nat.pow_succ, Nat.mul_comm (128 ^ i) 128, ← Nat.mul_assoc]
     exact Nat.lt_of_le_of_lt (Nat.mul_le_mul_right _ (Nat.div_mul_le_self n 128)) h1
    ·intro _; omega
   ·rw [ofNat_toNat_lt (by omega)]
    rintro (⟨h, h'⟩ | ⟨h, h'⟩)
    ·have := hi9 h; omega
    ·omega
   ·rw [ofNat_toNat_lt (by omega)]; omega
theorem rd_put {n : Nat} (h : n < 18446744073709551616) (l : List UInt8) : rd (put n ++ l) = .ok n (put n).length := by
 have := rdAt_put 10 0 n 0 l (by omega) (by simpa using h) (fun h => absurd h (by omega))
 unfold rd
 rw [this]
 congr 1 <;> omega
/-- what is read was put: from the i-th byte on -/
theorem rdAt_inv (l : List UInt8) : ∀ (i acc n used : Nat), i ≤ 9 → rdAt i acc l = .ok n used → ∃ m rest, l = put m ++ rest ∧ n = acc + m * 128 ^ i ∧ used = i + (put m).length ∧ m * 128 ^ i < 18446744073709551616 ∧ (0 < i → 0 < m) := by
 induction l with
 | nil => intro i acc n used _ h; rw [rdAt_nil] at h; cases h
 | cons b l ih =>
  intro i acc n used hi h
  by_cases hl : (i = 9 ∧ 1 < b.toNat) ∨ (0 < i ∧ b.toNat = 0)
  ·rw [rdAt_long hl] at h; cases h
  ·have hpow : 128 ^ i ≤ 128 ^ 9 := Nat.pow_le_pow_right (by omega) hi
   have h9 : i = 9 → b.toNat ≤ 1 := by intro e; omega
   have h0 : 0 < i → 0 < b.toNat := by intro e; omega
   have h8 : i ≠ 9 → 128 ^ i ≤ 128 ^ 8 := fun e => Nat.pow_le_pow_right (by omega) (by omega)
   have hbb := b.toNat_lt
   by_cases hb : b.toNat < 128
   ·rw [rdAt_ok hl hb] at h
    injection h with e1 e2
    refine ⟨b.toNat, l, ?_, e1.symm, by rw [put_lo hb]; simpa using e2.symm, ?_, h0⟩
    ·rw [put_lo hb]; simp
    ·by_cases e : i = 9
     ·have := h9 e; subst e
      have : b.toNat * 128 ^ 9 ≤ 1 * 128 ^ 9 := Nat.mul_le_mul_right _ this
      omega
     ·have h8' := h8 e
      have : b.toNat * 128 ^ i ≤ 127 * 128 ^ 8 := Nat.mul_le_mul (by omega) h8'
      omega
   ·rw [rdAt_more hl (by omega)] at h
    have hi' : i ≠ 9 := by intro e; have := h9 e; omega
    obtain ⟨m, rest, e1, e2, e3, e4, e5⟩ := ih (i + 1) _ n used (by omega) h
    have hm := e5 (by omega)
    have hd : (b.toNat - 128 + m * 128) / 128 = m := by omega
    have hmod : (b.toNat - 128 + m * 128) % 128 = b.toNat - 128 := by omega
    have hput : put (b.toNat - 128 + m * 128) = b :: put m := by
     have e128 : b.toNat - 128 + 128 = b.toNat := by omega
     have eb : UInt8.ofNat b.toNat = b := by simp
     rw [put_hi (by omega), hd, hmod, e128, eb]
    have hpe : b.toNat % 128 = b.toNat - 128 := by omega
    have hmul : (b.toNat - 128 + m * 128) * 128 ^ i = b.toNat % 128 * 128 ^ i + m * 128 ^ (i + 1) := by
     rw [hpe, Nat.add_mul, Nat.pow_succ, Nat.mul_comm (128 ^ i) 128, ← Nat.mul_assoc]
    refine ⟨b.toNat - 128 + m * 128, rest, ?_, ?_, ?_, ?_, ?_⟩
    ·rw [hput, e1]; rfl
    ·rw [hmul, e2]; omega
    ·rw [hput, List.length_cons, e3]; omega
    ·rw [hmul]
     have hs : 128 ^ (i + 1) ≤ 128 ^ 9 := Nat.pow_le_pow_right (by omega) (by omega)
     by_cases e : i = 8
     ·subst e
      have h9' : (8 : Nat) + 1 = 9 := rfl
      rw [h9'] at e4 ⊢
      have hm1 : m ≤ 1 := by
       rcases Nat.lt_or_ge 1 m with h | h
       ·have : 2 * 128 ^ 9 ≤ m * 128 ^ 9 := Nat.mul_le_mul_right _ h
        omega
       ·exact h
      have q1 : m * 128 ^ 9 ≤ 1 * 128 ^ 9 := Nat.mul_le_mul_right _ hm1
      have q2 : b.toNat % 128 * 128 ^ 8 ≤ 127 * 128 ^ 8 := Nat.mul_le_mul_right _ (by omega)
      have p8 : (127 : Nat) * 128 ^ 8 + 1 * 128 ^ 9 < 18446744073709551616 := by decide
      exact Nat.lt_of_le_of_lt (Nat.add_le_add q2 q1) p8
     ·have q2 : b.toNat % 128 * 128 ^ i < 128 ^ (i + 1) := by
       rw [Nat.pow_succ, Nat.mul_comm]
       exact Nat.mul_lt_mul_of_pos_left (by omega) (Nat.pow_pos (by omega))
      have q3 : (128 : Nat) ^ (i + 1) ∣ 18446744073709551616 := by
       have : (18446744073709551616 : Nat) = 2 ^ 64 := by decide
       rw [this, show (128 : Nat) = 2 ^ 7 from rfl, ← Nat.pow_mul]
       exact Nat.pow_dvd_pow 2 (by omega)
      obtain ⟨q, hq⟩ := q3
      rw [hq] at e4 ⊢
      have : m < q := by
       rw [Nat.mul_comm] at e4
       exact Nat.lt_of_mul_lt_mul_left e4
      calc b.toNat % 128 * 128 ^ i + m * 128 ^ (i + 1) < 128 ^ (i + 1) + m * 128 ^ (i + 1) := by omega
       _ = 128 ^ (i + 1) * (m + 1) := by rw [Nat.mul_add, Nat.mul_one, Nat.mul_comm m]; omega
       _ ≤ 128 ^ (i + 1) * q := Nat.mul_le_mul_left _ this
    ·intro _; omega
theorem rd_inv {l : List UInt8} {n used : Nat} (h : rd l = .ok n used) : l.take used = put n ∧ used = (put n).length ∧ used ≤ l.length ∧ n < 18446744073709551616 ∧ 1 ≤ used ∧ used ≤ 10 := by
 obtain ⟨m, rest, e1, e2, e3, e4, _⟩ := rdAt_inv l 0 0 n used (by omega) h
 obtain rfl : n = m := by rw [e2]; omega
 have h0 : n < 18446744073709551616 := by simpa using e4
 have hu : used = (put n).length := by omega
 have h1 := put_len10 h0
 have h2 := put_len_pos n
 refine ⟨by rw [e1, hu]; simp, hu, by rw [e1, hu]; simp, h0, by omega, by omega⟩
/-- eight bytes as a number, the lowest first -/
def num8 : List UInt8 → Nat
 | [] => 0
 | b :: l => b.toNat + 256 * num8 l
theorem num8_lt (l : List UInt8) : num8 l < 256 ^ l.length := by
 induction l with
 | nil => simp [num8]
 | cons b l ih =>
  rw [num8, List.length_cons, Nat.pow_succ]
  have := b.toNat_lt
  omega
theorem num8_snoc (l : List UInt8) (b : UInt8) : num8 (l ++ [b]) = num8 l + b.toNat * 256 ^ l.length := by
 induction l with
 | nil => simp [num8]
 | cons c l ih =>
  rw [List.cons_append, num8, num8, ih, List.length_cons, Nat.pow_succ, Nat.mul_add, Nat.add_assoc]
  congr 2
  rw [Nat.mul_comm (256 ^ l.length) 256, ← Nat.mul_assoc, ← Nat.mul_assoc, Nat.mul_comm 256]
theorem num8_fixed (k : Nat) : ∀ u, u < 256 ^ k → num8 (fixed k u) = u := by
 induction k with
 | zero => intro u h; simp at h; subst h; rfl
 | succ k ih =>
  intro u h
  rw [fixed, num8, ofNat_toNat_lt (by omega), ih (u / 256) (by rw [Nat.pow_succ] at h; exact Nat.div_lt_of_lt_mul (by omega))]
  omega
theorem fixed_num8 (l : List UInt8) : fixed l.length (num8 l) = l := by
 induction l with
 | nil => rfl
 | cons b l ih =>
  have := b.toNat_lt
  rw [List.length_cons, fixed, num8]
  have h1 : (b.toNat + 256 * num8 l) % 256 = b.toNat := by omega
  have h2 : (b.toNat + 256 * num8 l) / 256 = num8 l := by omega
  rw [h1, h2, ih]
  simp
theorem drop_cons {l : List UInt8} {k : Nat} {b : UInt8} (h : l[k]? = some b) : l.drop k = b :: l.drop (k + 1) := by
 obtain ⟨hk, rfl⟩ := List.getElem?_eq_some_iff.1 h
 exact List.drop_eq_getElem_cons hk
theorem rd_step_cut {l : List UInt8} {k acc : Nat} (hk : l.length ≤ k) (hr : rdAt k acc (l.drop k) = rd l) : rd l = .cut := by
 rw [← hr, List.drop_eq_nil_of_le hk, rdAt_nil]
theorem rd_step_long {l : List UInt8} {k acc : Nat} {b : UInt8} (h : l[k]? = some b) (hr : rdAt k acc (l.drop k) = rd l) (hl : (k = 9 ∧ 1 < b.toNat) ∨ (0 < k ∧ b.toNat = 0)) : rd l = .long := by
 rw [← hr, drop_cons h, rdAt_long hl]
theorem rd_step_ok {l : List UInt8} {k acc : Nat} {b : UInt8} (h : l[k]? = some b) (hr : rdAt k acc (l.drop k) = rd l) (hl : ¬((k = 9 ∧ 1 < b.toNat) ∨ (0 < k ∧ b.toNat = 0))) (hb : b.toNat < 128) : rd l = .ok (acc + b.toNat % 128 * 128 ^ k) (k + 1) := by
 rw [← hr, drop_cons h, rdAt_ok hl hb, Nat.mod_eq_of_lt hb]
theorem rd_step_more {l : List UInt8} {k acc : Nat} {b : UInt8} (h : l[k]? = some b) (hr : rdAt k acc (l.drop k) = rd l) (hl : ¬((k = 9 ∧ 1 < b.toNat) ∨ (0 < k ∧ b.toNat = 0))) (hb : 128 ≤ b.toNat) : rdAt (k + 1) (acc + b.toNat % 128 * 128 ^ k) (l.drop (k + 1)) = rd l := by
 rw [← hr, drop_cons h, rdAt_more hl hb]
/-- groups of seven bits stay within 64 -/
theorem group_lt {acc c k : Nat} (ha : acc < 128 ^ k) (hc : c < 128) : acc + c * 128 ^ k < 128 ^ (k + 1) := by
 have h1 : (c + 1) * 128 ^ k ≤ 128 * 128 ^ k := Nat.mul_le_mul_right _ (by omega)
 rw [Nat.add_mul, Nat.one_mul] at h1
 rw [Nat.pow_succ, Nat.mul_comm (128 ^ k) 128]
 omega
theorem group_bd {c k : Nat} (hk : k ≤ 9) (hc : c < 128) (h9 : k = 9 → c ≤ 1) : c * 128 ^ k < 18446744073709551616 := by
 by_cases h : k = 9
 ·subst h
  exact Nat.lt_of_le_of_lt (Nat.mul_le_mul_right _ (h9 rfl)) (by decide)
 ·have hp : 128 ^ k ≤ 128 ^ 8 := Nat.pow_le_pow_right (by omega) (by omega)
  exact Nat.lt_of_le_of_lt (Nat.mul_le_mul (show c ≤ 127 by omega) hp) (by decide)
theorem take_set_succ {α : Type} (l : List α) (k : Nat) (b : α) (h : k < l.length) : (l.set k b).take (k + 1) = l.take k ++ [b] := by
 rw [List.take_succ_eq_append_getElem (by simpa using h), List.take_set_of_le (Nat.le_refl _)]
 simp
end Go.Proofs.Ytojhenpaeedimaa.Pk
