/-
  Plain mathematics of layer 3: what Put, Fixed, Zig and Zag tell, and what is read of bytes. No Go.
  Plain mathematics of layer 4: signs, one behind the other. No Go.
-/
section
namespace Go.Proofs.Ytfeopchghpihoaa.Pk

/-- P3.1: n in groups of seven bits -/
def put (n : Nat) : List UInt8 := if n < 128 then [UInt8.ofNat n] else UInt8.ofNat (n % 128 + 128) :: put (n / 128)
termination_by n
decreasing_by omega

theorem put_lo {n : Nat} (h : n < 128) : put n = [UInt8.ofNat n] := by rw [put, if_pos h]
theorem put_hi {n : Nat} (h : 128 ≤ n) : put n = UInt8.ofNat (n % 128 + 128) :: put (n / 128) := by rw [put, if_neg (by omega)]

theorem put_byte {b : UInt8} (h : b.toNat < 128) : put b.toNat = [b] := by rw [put_lo h]; simp

theorem put_len_pos (n : Nat) : 0 < (put n).length := by
  rw [put]; split <;> simp

theorem put_len (k : Nat) : ∀ n, n < 128 ^ k → 1 ≤ k → (put n).length ≤ k := by
  induction k with
  | zero => intro n _ h; omega
  | succ k ih =>
    intro n h _
    by_cases hn : n < 128
    · rw [put_lo hn]; simp
    · rw [put_hi (by omega), List.length_cons]
      have hd : n / 128 < 128 ^ k := by
        rw [Nat.pow_succ] at h
        exact Nat.div_lt_of_lt_mul (by omega)
      cases k with
      | zero => simp at hd; omega
      | succ k => have := ih _ hd (by omega); omega

/-- a number's bytes are ten at most -/
theorem put_len10 {n : Nat} (h : n < 18446744073709551616) : (put n).length ≤ 10 :=
  put_len 10 n (by omega) (by omega)

def fixed : Nat → Nat → List UInt8
  | 0, _ => []
  | k + 1, u => UInt8.ofNat (u % 256) :: fixed k (u / 256)

theorem fixed_len (k : Nat) : ∀ u, (fixed k u).length = k := by
  induction k with
  | zero => intro u; rfl
  | succ k ih => intro u; rw [fixed, List.length_cons, ih]

theorem fixed_snoc (k : Nat) : ∀ u, fixed (k + 1) u = fixed k u ++ [UInt8.ofNat (u / 256 ^ k % 256)] := by
  induction k with
  | zero => intro u; simp [fixed]
  | succ k ih =>
    intro u
    rw [fixed, ih, fixed, List.cons_append, Nat.div_div_eq_div_mul, Nat.pow_succ, Nat.mul_comm]

def zig (n : Int) : Nat := if 0 ≤ n then (2 * n).toNat else (2 * (-1 - n) + 1).toNat
def zag (u : Nat) : Int := if u % 2 = 1 then -1 - ((u / 2 : Nat) : Int) else ((u / 2 : Nat) : Int)

theorem zag_zig (n : Int) : zag (zig n) = n := by
  unfold zag zig
  split <;> split <;> omega
theorem zig_zag (u : Nat) : zig (zag u) = u := by
  unfold zag zig
  split <;> split <;> omega
theorem zig_lt {n : Int} (h1 : -9223372036854775808 ≤ n) (h2 : n < 9223372036854775808) : zig n < 18446744073709551616 := by
  unfold zig; split <;> omega
theorem zag_bd {u : Nat} (h : u < 18446744073709551616) : -9223372036854775808 ≤ zag u ∧ zag u < 9223372036854775808 := by
  unfold zag; split <;> omega

/-- what is read of bytes: a number and how many bytes it has, or an error -/
inductive Rd where
  | cut | long
  | ok (n : Nat) (used : Nat)

/-- P3.3: bytes are looked at one by one, from the i-th on; acc: what the ones ahead tell -/
def rdAt : Nat → Nat → List UInt8 → Rd
  | _, _, [] => .cut
  | i, acc, b :: l =>
    if (i = 9 ∧ 1 < b.toNat) ∨ (0 < i ∧ b.toNat = 0) then .long
    else if b.toNat < 128 then .ok (acc + b.toNat * 128 ^ i) (i + 1)
    else rdAt (i + 1) (acc + (b.toNat % 128) * 128 ^ i) l

def rd (l : List UInt8) : Rd := rdAt 0 0 l

theorem rdAt_nil (i acc : Nat) : rdAt i acc [] = .cut := by rw [rdAt]
theorem rdAt_long {i acc : Nat} {b : UInt8} {l : List UInt8} (h : (i = 9 ∧ 1 < b.toNat) ∨ (0 < i ∧ b.toNat = 0)) : rdAt i acc (b :: l) = .long := by
  rw [rdAt, if_pos h]
theorem rdAt_ok {i acc : Nat} {b : UInt8} {l : List UInt8} (h : ¬((i = 9 ∧ 1 < b.toNat) ∨ (0 < i ∧ b.toNat = 0))) (hb : b.toNat < 128) :
    rdAt i acc (b :: l) = .ok (acc + b.toNat * 128 ^ i) (i + 1) := by
  rw [rdAt, if_neg h, if_pos hb]
theorem rdAt_more {i acc : Nat} {b : UInt8} {l : List UInt8} (h : ¬((i = 9 ∧ 1 < b.toNat) ∨ (0 < i ∧ b.toNat = 0))) (hb : 128 ≤ b.toNat) :
    rdAt i acc (b :: l) = rdAt (i + 1) (acc + (b.toNat % 128) * 128 ^ i) l := by
  rw [rdAt, if_neg h, if_neg (by omega)]

theorem ofNat_toNat_lt {n : Nat} (h : n < 256) : (UInt8.ofNat n).toNat = n := by
  rw [UInt8.toNat_ofNat']; exact Nat.mod_eq_of_lt h

/-- what is put is read, whatever follows: from the i-th byte on -/
theorem rdAt_put (k : Nat) : ∀ (i n acc : Nat) (l : List UInt8), i + k = 10 → n * 128 ^ i < 18446744073709551616 → (0 < i → 0 < n) →
    rdAt i acc (put n ++ l) = .ok (acc + n * 128 ^ i) (i + (put n).length) := by
  induction k with
  | zero =>
    intro i n acc l hk h1 h2
    obtain rfl : i = 10 := by omega
    have := h2 (by omega)
    have : 128 ^ 10 ≤ n * 128 ^ 10 := Nat.le_mul_of_pos_left _ this
    omega
  | succ k ih =>
    intro i n acc l hk h1 h2
    have hi9 : i = 9 → n < 2 := by
      rintro rfl
      have : n * 9223372036854775808 < 18446744073709551616 := h1
      omega
    by_cases hn : n < 128
    · rw [put_lo hn, List.singleton_append, rdAt_ok, ofNat_toNat_lt (by omega)]
      · rfl
      · rw [ofNat_toNat_lt (by omega)]
        rintro (⟨h, h'⟩ | ⟨h, h'⟩)
        · have := hi9 h; omega
        · have := h2 h; omega
      · rw [ofNat_toNat_lt (by omega)]; exact hn
    · rw [put_hi (by omega), List.cons_append, rdAt_more]
      · rw [ofNat_toNat_lt (by omega), ih (i + 1) (n / 128) _ l (by omega)]
        · have e : (n % 128 + 128) % 128 = n % 128 := by omega
          have hp : acc + n % 128 * 128 ^ i + n / 128 * 128 ^ (i + 1) = acc + n * 128 ^ i := by
            rw [Nat.pow_succ, Nat.mul_comm (128 ^ i) 128, ← Nat.mul_assoc, Nat.add_assoc, ← Nat.add_mul]
            congr 2
            omega
          rw [e, hp, List.length_cons]
          congr 1
          omega
        · rw [Nat.pow_succ, Nat.mul_comm (128 ^ i) 128, ← Nat.mul_assoc]
          exact Nat.lt_of_le_of_lt (Nat.mul_le_mul_right _ (Nat.div_mul_le_self n 128)) h1
        · intro _; omega
      · rw [ofNat_toNat_lt (by omega)]
        rintro (⟨h, h'⟩ | ⟨h, h'⟩)
        · have := hi9 h; omega
        · omega
      · rw [ofNat_toNat_lt (by omega)]; omega

theorem rd_put {n : Nat} (h : n < 18446744073709551616) (l : List UInt8) : rd (put n ++ l) = .ok n (put n).length := by
  have := rdAt_put 10 0 n 0 l (by omega) (by simpa using h) (fun h => absurd h (by omega))
  unfold rd
  rw [this]
  congr 1 <;> omega

/-- what is read was put: from the i-th byte on -/
theorem rdAt_inv (l : List UInt8) : ∀ (i acc n used : Nat), i ≤ 9 → rdAt i acc l = .ok n used → ∃ m rest, l = put m ++ rest ∧ n = acc + m * 128 ^ i ∧ used = i + (put m).length ∧ m * 128 ^ i < 18446744073709551616 ∧ (0 < i → 0 < m) := by
  induction l with
  | nil => intro i acc n used _ h; rw [rdAt_nil] at h; cases h
  | cons b l ih =>
    intro i acc n used hi h
    by_cases hl : (i = 9 ∧ 1 < b.toNat) ∨ (0 < i ∧ b.toNat = 0)
    · rw [rdAt_long hl] at h; cases h
    · have hpow : 128 ^ i ≤ 128 ^ 9 := Nat.pow_le_pow_right (by omega) hi
      have h9 : i = 9 → b.toNat ≤ 1 := by intro e; omega
      have h0 : 0 < i → 0 < b.toNat := by intro e; omega
      have h8 : i ≠ 9 → 128 ^ i ≤ 128 ^ 8 := fun e => Nat.pow_le_pow_right (by omega) (by omega)
      have hbb := b.toNat_lt
      by_cases hb : b.toNat < 128
      · rw [rdAt_ok hl hb] at h
        injection h with e1 e2
        refine ⟨b.toNat, l, ?_, e1.symm, by rw [put_lo hb]; simpa using e2.symm, ?_, h0⟩
        · rw [put_lo hb]; simp
        · by_cases e : i = 9
          · have := h9 e; subst e
            have : b.toNat * 128 ^ 9 ≤ 1 * 128 ^ 9 := Nat.mul_le_mul_right _ this
            omega
          · have h8' := h8 e
            have : b.toNat * 128 ^ i ≤ 127 * 128 ^ 8 := Nat.mul_le_mul (by omega) h8'
            omega
      · rw [rdAt_more hl (by omega)] at h
        have hi' : i ≠ 9 := by intro e; have := h9 e; omega
        obtain ⟨m, rest, e1, e2, e3, e4, e5⟩ := ih (i + 1) _ n used (by omega) h
        have hm := e5 (by omega)
        have hd : (b.toNat - 128 + m * 128) / 128 = m := by omega
        have hmod : (b.toNat - 128 + m * 128) % 128 = b.toNat - 128 := by omega
        have hput : put (b.toNat - 128 + m * 128) = b :: put m := by
          have e128 : b.toNat - 128 + 128 = b.toNat := by omega
          have eb : UInt8.ofNat b.toNat = b := by simp
          rw [put_hi (by omega), hd, hmod, e128, eb]
        have hpe : b.toNat % 128 = b.toNat - 128 := by omega
        have hmul : (b.toNat - 128 + m * 128) * 128 ^ i = b.toNat % 128 * 128 ^ i + m * 128 ^ (i + 1) := by
          rw [hpe, Nat.add_mul, Nat.pow_succ, Nat.mul_comm (128 ^ i) 128, ← Nat.mul_assoc]
        refine ⟨b.toNat - 128 + m * 128, rest, ?_, ?_, ?_, ?_, ?_⟩
        · rw [hput, e1]; rfl
        · rw [hmul, e2]; omega
        · rw [hput, List.length_cons, e3]; omega
        · rw [hmul]
          have hs : 128 ^ (i + 1) ≤ 128 ^ 9 := Nat.pow_le_pow_right (by omega) (by omega)
          by_cases e : i = 8
          · subst e
            have h9' : (8 : Nat) + 1 = 9 := rfl
            rw [h9'] at e4 ⊢
            have hm1 : m ≤ 1 := by
              rcases Nat.lt_or_ge 1 m with h | h
              · have : 2 * 128 ^ 9 ≤ m * 128 ^ 9 := Nat.mul_le_mul_right _ h
                omega
              · exact h
            have q1 : m * 128 ^ 9 ≤ 1 * 128 ^ 9 := Nat.mul_le_mul_right _ hm1
            have q2 : b.toNat % 128 * 128 ^ 8 ≤ 127 * 128 ^ 8 := Nat.mul_le_mul_right _ (by omega)
            have p8 : (127 : Nat) * 128 ^ 8 + 1 * 128 ^ 9 < 18446744073709551616 := by decide
            exact Nat.lt_of_le_of_lt (Nat.add_le_add q2 q1) p8
          · have q2 : b.toNat % 128 * 128 ^ i < 128 ^ (i + 1) := by
              rw [Nat.pow_succ, Nat.mul_comm]
              exact Nat.mul_lt_mul_of_pos_left (by omega) (Nat.pow_pos (by omega))
            have q3 : (128 : Nat) ^ (i + 1) ∣ 18446744073709551616 := by
              have : (18446744073709551616 : Nat) = 2 ^ 64 := by decide
              rw [this, show (128 : Nat) = 2 ^ 7 from rfl, ← Nat.pow_mul]
              exact Nat.pow_dvd_pow 2 (by omega)
            obtain ⟨q, hq⟩ := q3
            rw [hq] at e4 ⊢
            have : m < q := by
              rw [Nat.mul_comm] at e4
              exact Nat.lt_of_mul_lt_mul_left e4
            calc b.toNat % 128 * 128 ^ i + m * 128 ^ (i + 1) < 128 ^ (i + 1) + m * 128 ^ (i + 1) := by omega
              _ = 128 ^ (i + 1) * (m + 1) := by rw [Nat.mul_add, Nat.mul_one, Nat.mul_comm m]; omega
              _ ≤ 128 ^ (i + 1) * q := Nat.mul_le_mul_left _ this
        · intro _; omega

theorem rd_inv {l : List UInt8} {n used : Nat} (h : rd l = .ok n used) : l.take used = put n ∧ used = (put n).length ∧ used ≤ l.length ∧ n < 18446744073709551616 ∧ 1 ≤ used ∧ used ≤ 10 := by
  obtain ⟨m, rest, e1, e2, e3, e4, _⟩ := rdAt_inv l 0 0 n used (by omega) h
  obtain rfl : n = m := by rw [e2]; omega
  have h0 : n < 18446744073709551616 := by simpa using e4
  have hu : used = (put n).length := by omega
  have h1 := put_len10 h0
  have h2 := put_len_pos n
  refine ⟨by rw [e1, hu]; simp, hu, by rw [e1, hu]; simp, h0, by omega, by omega⟩

/-- eight bytes as a number, the lowest first -/
def num8 : List UInt8 → Nat
  | [] => 0
  | b :: l => b.toNat + 256 * num8 l

theorem num8_lt (l : List UInt8) : num8 l < 256 ^ l.length := by
  induction l with
  | nil => simp [num8]
  | cons b l ih =>
    rw [num8, List.length_cons, Nat.pow_succ]
    have := b.toNat_lt
    omega
theorem num8_snoc (l : List UInt8) (b : UInt8) : num8 (l ++ [b]) = num8 l + b.toNat * 256 ^ l.length := by
  induction l with
  | nil => simp [num8]
  | cons c l ih =>
    rw [List.cons_append, num8, num8, ih, List.length_cons, Nat.pow_succ, Nat.mul_add, Nat.add_assoc]
    congr 2
    rw [Nat.mul_comm (256 ^ l.length) 256, ← Nat.mul_assoc, ← Nat.mul_assoc, Nat.mul_comm 256]
theorem num8_fixed (k : Nat) : ∀ u, u < 256 ^ k → num8 (fixed k u) = u := by
  induction k with
  | zero => intro u h; simp at h; subst h; rfl
  | succ k ih =>
    intro u h
    rw [fixed, num8, ofNat_toNat_lt (by omega), ih (u / 256) (by rw [Nat.pow_succ] at h; exact Nat.div_lt_of_lt_mul (by omega))]
    omega
theorem fixed_num8 (l : List UInt8) : fixed l.length (num8 l) = l := by
  induction l with
  | nil => rfl
  | cons b l ih =>
    have := b.toNat_lt
    rw [List.length_cons, fixed, num8]
    have h1 : (b.toNat + 256 * num8 l) % 256 = b.toNat := by omega
    have h2 : (b.toNat + 256 * num8 l) / 256 = num8 l := by omega
    rw [h1, h2, ih]
    simp

theorem drop_cons {l : List UInt8} {k : Nat} {b : UInt8} (h : l[k]? = some b) : l.drop k = b :: l.drop (k + 1) := by
  obtain ⟨hk, rfl⟩ := List.getElem?_eq_some_iff.1 h
  exact List.drop_eq_getElem_cons hk
theorem rd_step_cut {l : List UInt8} {k acc : Nat} (hk : l.length ≤ k) (hr : rdAt k acc (l.drop k) = rd l) : rd l = .cut := by
  rw [← hr, List.drop_eq_nil_of_le hk, rdAt_nil]
theorem rd_step_long {l : List UInt8} {k acc : Nat} {b : UInt8} (h : l[k]? = some b) (hr : rdAt k acc (l.drop k) = rd l) (hl : (k = 9 ∧ 1 < b.toNat) ∨ (0 < k ∧ b.toNat = 0)) : rd l = .long := by
  rw [← hr, drop_cons h, rdAt_long hl]
theorem rd_step_ok {l : List UInt8} {k acc : Nat} {b : UInt8} (h : l[k]? = some b) (hr : rdAt k acc (l.drop k) = rd l) (hl : ¬((k = 9 ∧ 1 < b.toNat) ∨ (0 < k ∧ b.toNat = 0))) (hb : b.toNat < 128) : rd l = .ok (acc + b.toNat % 128 * 128 ^ k) (k + 1) := by
  rw [← hr, drop_cons h, rdAt_ok hl hb, Nat.mod_eq_of_lt hb]
theorem rd_step_more {l : List UInt8} {k acc : Nat} {b : UInt8} (h : l[k]? = some b) (hr : rdAt k acc (l.drop k) = rd l) (hl : ¬((k = 9 ∧ 1 < b.toNat) ∨ (0 < k ∧ b.toNat = 0))) (hb : 128 ≤ b.toNat) : rdAt (k + 1) (acc + b.toNat % 128 * 128 ^ k) (l.drop (k + 1)) = rd l := by
  rw [← hr, drop_cons h, rdAt_more hl hb]
/-- groups of seven bits stay within 64 -/
theorem group_lt {acc c k : Nat} (ha : acc < 128 ^ k) (hc : c < 128) : acc + c * 128 ^ k < 128 ^ (k + 1) := by
  have h1 : (c + 1) * 128 ^ k ≤ 128 * 128 ^ k := Nat.mul_le_mul_right _ (by omega)
  rw [Nat.add_mul, Nat.one_mul] at h1
  rw [Nat.pow_succ, Nat.mul_comm (128 ^ k) 128]
  omega
theorem group_bd {c k : Nat} (hk : k ≤ 9) (hc : c < 128) (h9 : k = 9 → c ≤ 1) : c * 128 ^ k < 18446744073709551616 := by
  by_cases h : k = 9
  · subst h
    exact Nat.lt_of_le_of_lt (Nat.mul_le_mul_right _ (h9 rfl)) (by decide)
  · have hp : 128 ^ k ≤ 128 ^ 8 := Nat.pow_le_pow_right (by omega) (by omega)
    exact Nat.lt_of_le_of_lt (Nat.mul_le_mul (show c ≤ 127 by omega) hp) (by decide)

theorem take_set_succ {α : Type} (l : List α) (k : Nat) (b : α) (h : k < l.length) : (l.set k b).take (k + 1) = l.take k ++ [b] := by
  rw [List.take_succ_eq_append_getElem (by simpa using h), List.take_set_of_le (Nat.le_refl _)]
  simp
end Go.Proofs.Ytfeopchghpihoaa.Pk
end

section
namespace Go.Proofs.Ytfeopchghpihoaa.Wd

/-- is there a byte from lo to hi at a place? -/
def inr (l : List UInt8) (k lo hi : Nat) : Bool := match l[k]? with | some b => decide (lo ≤ b.toNat) && decide (b.toNat ≤ hi) | none => false

theorem inr_none {l : List UInt8} {k lo hi : Nat} (h : l[k]? = none) : inr l k lo hi = false := by unfold inr; rw [h]
theorem inr_some {l : List UInt8} {k lo hi : Nat} {b : UInt8} (h : l[k]? = some b) : inr l k lo hi = (decide (lo ≤ b.toNat) && decide (b.toNat ≤ hi)) := by unfold inr; rw [h]
theorem inr_iff {l : List UInt8} {k lo hi : Nat} : inr l k lo hi = true ↔ ∃ b, l[k]? = some b ∧ lo ≤ b.toNat ∧ b.toNat ≤ hi := by
  cases h : l[k]? with
  | none => rw [inr_none h]; simp
  | some b => rw [inr_some h]; simp
theorem inr_lt {l : List UInt8} {k lo hi : Nat} (h : inr l k lo hi = true) : k < l.length := by
  obtain ⟨b, hb, _⟩ := inr_iff.1 h
  exact (List.getElem?_eq_some_iff.1 hb).1
theorem inr_app {a b : List UInt8} {k lo hi : Nat} (h : k < a.length) : inr (a ++ b) k lo hi = inr a k lo hi := by
  unfold inr; rw [List.getElem?_append_left h]
theorem inr_drop {l : List UInt8} {k j lo hi : Nat} : inr (l.drop k) j lo hi = inr l (k + j) lo hi := by
  unfold inr; rw [List.getElem?_drop]

/-- the sign that the bytes begin with: how many bytes it has; 0: none does -/
def sgn (l : List UInt8) : Nat :=
  if inr l 0 0 127 then 1
  else if inr l 0 194 223 && inr l 1 128 191 then 2
  else if inr l 2 128 191 && ((inr l 0 224 224 && inr l 1 160 191) || (inr l 0 225 236 && inr l 1 128 191) || (inr l 0 238 239 && inr l 1 128 191) || (inr l 0 237 237 && inr l 1 128 159)) then 3
  else if inr l 2 128 191 && inr l 3 128 191 && ((inr l 0 240 240 && inr l 1 144 191) || (inr l 0 241 243 && inr l 1 128 191) || (inr l 0 244 244 && inr l 1 128 143)) then 4
  else 0

/-- which of the signs' forms the bytes begin with -/
inductive Sg (l : List UInt8) : Nat → Prop where
  | one : inr l 0 0 127 = true → Sg l 1
  | two : inr l 0 194 223 = true → inr l 1 128 191 = true → Sg l 2
  | three (a b c d : Nat) : inr l 2 128 191 = true → inr l 0 a b = true → inr l 1 c d = true → (a, b, c, d) ∈ [(224, 224, 160, 191), (225, 236, 128, 191), (238, 239, 128, 191), (237, 237, 128, 159)] → Sg l 3
  | four (a b c d : Nat) : inr l 2 128 191 = true → inr l 3 128 191 = true → inr l 0 a b = true → inr l 1 c d = true → (a, b, c, d) ∈ [(240, 240, 144, 191), (241, 243, 128, 191), (244, 244, 128, 143)] → Sg l 4

theorem sgn_cases (l : List UInt8) : sgn l = 0 ∨ Sg l (sgn l) := by
  unfold sgn
  by_cases h1 : inr l 0 0 127 = true
  · rw [if_pos h1]; exact .inr (.one h1)
  · rw [if_neg h1]
    by_cases h2 : (inr l 0 194 223 && inr l 1 128 191) = true
    · rw [if_pos h2]
      simp only [Bool.and_eq_true] at h2
      exact .inr (.two h2.1 h2.2)
    · rw [if_neg h2]
      by_cases h3 : (inr l 2 128 191 && ((inr l 0 224 224 && inr l 1 160 191) || (inr l 0 225 236 && inr l 1 128 191) || (inr l 0 238 239 && inr l 1 128 191) || (inr l 0 237 237 && inr l 1 128 159))) = true
      · rw [if_pos h3]
        simp only [Bool.and_eq_true, Bool.or_eq_true] at h3
        obtain ⟨ha, ((hb | hb) | hb) | hb⟩ := h3
        · exact .inr (.three 224 224 160 191 ha hb.1 hb.2 (by simp))
        · exact .inr (.three 225 236 128 191 ha hb.1 hb.2 (by simp))
        · exact .inr (.three 238 239 128 191 ha hb.1 hb.2 (by simp))
        · exact .inr (.three 237 237 128 159 ha hb.1 hb.2 (by simp))
      · rw [if_neg h3]
        by_cases h4 : (inr l 2 128 191 && inr l 3 128 191 && ((inr l 0 240 240 && inr l 1 144 191) || (inr l 0 241 243 && inr l 1 128 191) || (inr l 0 244 244 && inr l 1 128 143))) = true
        · rw [if_pos h4]
          simp only [Bool.and_eq_true, Bool.or_eq_true] at h4
          obtain ⟨⟨ha, ha2⟩, (hb | hb) | hb⟩ := h4
          · exact .inr (.four 240 240 144 191 ha ha2 hb.1 hb.2 (by simp))
          · exact .inr (.four 241 243 128 191 ha ha2 hb.1 hb.2 (by simp))
          · exact .inr (.four 244 244 128 143 ha ha2 hb.1 hb.2 (by simp))
        · rw [if_neg h4]; exact .inl rfl

/-- a byte that is within one row of bounds is within no other that does not meet it -/
theorem inr_off {l : List UInt8} {k a b c d : Nat} (h : inr l k a b = true) (hd : b < c ∨ d < a) : inr l k c d = false := by
  obtain ⟨x, hx, h1, h2⟩ := inr_iff.1 h
  rw [inr_some hx]
  rw [Bool.and_eq_false_iff, decide_eq_false_iff_not, decide_eq_false_iff_not]
  omega

theorem sgn_of {l : List UInt8} {n : Nat} (h : Sg l n) : sgn l = n := by
  cases h with
  | one h => unfold sgn; rw [if_pos h]
  | two h1 h2 =>
    unfold sgn
    have e0 := inr_off (c := 0) (d := 127) h1 (by omega)
    simp [e0, h1, h2]
  | three a b c d h2 h0 h1 hm =>
    unfold sgn
    simp only [List.mem_cons, Prod.mk.injEq, List.not_mem_nil, or_false] at hm
    rcases hm with ⟨rfl, rfl, rfl, rfl⟩ | ⟨rfl, rfl, rfl, rfl⟩ | ⟨rfl, rfl, rfl, rfl⟩ | ⟨rfl, rfl, rfl, rfl⟩
    all_goals
      have e0 := inr_off (c := 0) (d := 127) h0 (by omega)
      have e1 := inr_off (c := 194) (d := 223) h0 (by omega)
      simp [e0, e1, h0, h1, h2]
  | four a b c d h2 h3 h0 h1 hm =>
    unfold sgn
    simp only [List.mem_cons, Prod.mk.injEq, List.not_mem_nil, or_false] at hm
    rcases hm with ⟨rfl, rfl, rfl, rfl⟩ | ⟨rfl, rfl, rfl, rfl⟩ | ⟨rfl, rfl, rfl, rfl⟩
    all_goals
      have e0 := inr_off (c := 0) (d := 127) h0 (by omega)
      have e1 := inr_off (c := 194) (d := 223) h0 (by omega)
      have e2 := inr_off (c := 224) (d := 224) h0 (by omega)
      have e3 := inr_off (c := 225) (d := 236) h0 (by omega)
      have e4 := inr_off (c := 238) (d := 239) h0 (by omega)
      have e5 := inr_off (c := 237) (d := 237) h0 (by omega)
      simp [e0, e1, e2, e3, e4, e5, h0, h1, h2, h3]

theorem sg_len {l : List UInt8} {n : Nat} (h : Sg l n) : 1 ≤ n ∧ n ≤ 4 ∧ n ≤ l.length := by
  cases h with
  | one h => have := inr_lt h; omega
  | two _ h => have := inr_lt h; omega
  | three _ _ _ _ h => have := inr_lt h; omega
  | four _ _ _ _ _ h => have := inr_lt h; omega
theorem sgn_le (l : List UInt8) : sgn l ≤ l.length ∧ sgn l ≤ 4 := by
  rcases sgn_cases l with h | h
  · omega
  · have := sg_len h; omega

/-- a sign is one whatever follows it -/
theorem sg_app {a : List UInt8} {n : Nat} (h : Sg a n) (b : List UInt8) : Sg (a ++ b) n := by
  cases h with
  | one h => exact .one (by rw [inr_app (inr_lt h)]; exact h)
  | two h1 h2 => exact .two (by rw [inr_app (inr_lt h1)]; exact h1) (by rw [inr_app (inr_lt h2)]; exact h2)
  | three p q r s h2 h0 h1 hm => exact .three p q r s (by rw [inr_app (inr_lt h2)]; exact h2) (by rw [inr_app (inr_lt h0)]; exact h0) (by rw [inr_app (inr_lt h1)]; exact h1) hm
  | four p q r s h2 h3 h0 h1 hm => exact .four p q r s (by rw [inr_app (inr_lt h2)]; exact h2) (by rw [inr_app (inr_lt h3)]; exact h3) (by rw [inr_app (inr_lt h0)]; exact h0) (by rw [inr_app (inr_lt h1)]; exact h1) hm
/-- and of its own bytes alone -/
theorem inr_take {l : List UInt8} {k n lo hi : Nat} (h : k < n) : inr (l.take n) k lo hi = inr l k lo hi := by
  unfold inr; rw [List.getElem?_take_of_lt h]
theorem sg_take {l : List UInt8} {n m : Nat} (h : Sg l n) (hnm : n ≤ m) : Sg (l.take m) n := by
  cases h with
  | one h => exact .one (by rw [inr_take (by omega)]; exact h)
  | two h1 h2 => exact .two (by rw [inr_take (by omega)]; exact h1) (by rw [inr_take (by omega)]; exact h2)
  | three p q r s h2 h0 h1 hm => exact .three p q r s (by rw [inr_take (by omega)]; exact h2) (by rw [inr_take (by omega)]; exact h0) (by rw [inr_take (by omega)]; exact h1) hm
  | four p q r s h2 h3 h0 h1 hm => exact .four p q r s (by rw [inr_take (by omega)]; exact h2) (by rw [inr_take (by omega)]; exact h3) (by rw [inr_take (by omega)]; exact h0) (by rw [inr_take (by omega)]; exact h1) hm

theorem sgn_pos {l : List UInt8} (h : 0 < sgn l) : Sg l (sgn l) := by
  rcases sgn_cases l with h0 | h0
  · omega
  · exact h0
theorem sgn_nil : sgn [] = 0 := by decide

/-- how many bytes are signs, one behind the other, and how many signs -/
def ends (l : List UInt8) : Nat := if _h : 0 < sgn l then sgn l + ends (l.drop (sgn l)) else 0
termination_by l.length
decreasing_by rw [List.length_drop]; have := sgn_le l; omega
def cnt (l : List UInt8) : Nat := if _h : 0 < sgn l then 1 + cnt (l.drop (sgn l)) else 0
termination_by l.length
decreasing_by rw [List.length_drop]; have := sgn_le l; omega

theorem ends_stop {l : List UInt8} (h : sgn l = 0) : ends l = 0 ∧ cnt l = 0 := by
  rw [ends, cnt, dif_neg (by omega), dif_neg (by omega)]; exact ⟨rfl, rfl⟩
theorem ends_step {l : List UInt8} {n : Nat} (h : sgn l = n) (hn : 0 < n) : ends l = n + ends (l.drop n) ∧ cnt l = 1 + cnt (l.drop n) := by
  subst h
  constructor
  · rw [ends, dif_pos hn]
  · rw [cnt, dif_pos hn]
theorem ends_nil : ends [] = 0 := (ends_stop sgn_nil).1

/-- an induction over signs -/
theorem sign_ind {P : List UInt8 → Prop} (h0 : ∀ l, sgn l = 0 → P l) (h1 : ∀ l, 0 < sgn l → P (l.drop (sgn l)) → P l) (l : List UInt8) : P l := by
  induction hn : l.length using Nat.strongRecOn generalizing l with
  | _ n ih =>
    by_cases h : 0 < sgn l
    · refine h1 l h (ih _ ?_ _ rfl)
      have := sgn_le l
      rw [List.length_drop]
      omega
    · exact h0 l (by omega)

theorem ends_le (l : List UInt8) : ends l ≤ l.length ∧ cnt l ≤ ends l := by
  induction l using sign_ind with
  | h0 l h => obtain ⟨a, b⟩ := ends_stop h; omega
  | h1 l h ih =>
    obtain ⟨a, b⟩ := ends_step rfl h
    have := sgn_le l
    rw [List.length_drop] at ih
    omega

def valid (l : List UInt8) : Bool := decide (ends l = l.length)
theorem valid_iff {l : List UInt8} : valid l = true ↔ ends l = l.length := by simp [valid]

/-- two texts, of which the one ahead is valid -/
theorem ends_app (a : List UInt8) : ∀ b, ends a = a.length → ends (a ++ b) = a.length + ends b ∧ cnt (a ++ b) = cnt a + cnt b := by
  induction a using sign_ind with
  | h0 l h =>
    intro b hv
    have : l = [] := List.eq_nil_of_length_eq_zero (by rw [← hv]; exact (ends_stop h).1)
    subst this
    simp [(ends_stop sgn_nil).2]
  | h1 l h ih =>
    intro b hv
    have hle := sgn_le l
    have hs : sgn (l ++ b) = sgn l := sgn_of (sg_app (sgn_pos h) b)
    obtain ⟨e1, e2⟩ := ends_step (l := l ++ b) hs h
    obtain ⟨f1, f2⟩ := ends_step (l := l) rfl h
    have hd : (l ++ b).drop (sgn l) = l.drop (sgn l) ++ b := List.drop_append_of_le_length hle.1
    obtain ⟨i1, i2⟩ := ih b (by rw [List.length_drop]; omega)
    rw [hd] at e1 e2
    rw [List.length_drop] at i1
    omega
theorem valid_app {a : List UInt8} (h : valid a = true) (b : List UInt8) : valid (a ++ b) = valid b := by
  have hv := valid_iff.1 h
  have := (ends_app a b hv).1
  unfold valid
  rw [this, List.length_append]
  exact decide_eq_decide.2 (by omega)

/-- what is signs is valid; and no begin that is valid is longer -/
theorem ends_take (l : List UInt8) : ends (l.take (ends l)) = ends l := by
  induction l using sign_ind with
  | h0 l h => rw [(ends_stop h).1]; exact ends_nil
  | h1 l h ih =>
    obtain ⟨e1, _⟩ := ends_step (l := l) rfl h
    have hs : sgn (l.take (ends l)) = sgn l := sgn_of (sg_take (sgn_pos h) (by omega))
    obtain ⟨f1, _⟩ := ends_step (l := l.take (ends l)) hs h
    rw [f1, List.drop_take, e1, Nat.add_sub_cancel_left, ih]
theorem valid_take (l : List UInt8) : valid (l.take (ends l)) = true := by
  rw [valid_iff, ends_take, List.length_take]
  have := (ends_le l).1
  omega
theorem valid_most {l : List UInt8} {n : Nat} (hn : n ≤ l.length) (h : valid (l.take n) = true) : n ≤ ends l := by
  have hv := valid_iff.1 h
  have := (ends_app (l.take n) (l.drop n) hv).1
  rw [List.take_append_drop, List.length_take] at this
  omega

/-- the bytes from the j-th to the more-th, the first of them within others than the rest -/
def chk (l : List UInt8) (lo hi : Nat) : Nat → Nat → Bool
  | _, 0 => true
  | j, k + 1 => inr l j lo hi && chk l 128 191 (j + 1) k

/-- a sign by its first byte: how many follow, and within which bounds the next one lies -/
def Lead (x more lo hi : Nat) : Prop :=
  (194 ≤ x ∧ x ≤ 223 ∧ more = 1 ∧ lo = 128 ∧ hi = 191) ∨ (x = 224 ∧ more = 2 ∧ lo = 160 ∧ hi = 191) ∨ (x = 237 ∧ more = 2 ∧ lo = 128 ∧ hi = 159) ∨
  (225 ≤ x ∧ x ≤ 239 ∧ x ≠ 237 ∧ more = 2 ∧ lo = 128 ∧ hi = 191) ∨ (x = 240 ∧ more = 3 ∧ lo = 144 ∧ hi = 191) ∨ (241 ≤ x ∧ x ≤ 243 ∧ more = 3 ∧ lo = 128 ∧ hi = 191) ∨ (x = 244 ∧ more = 3 ∧ lo = 128 ∧ hi = 143)

theorem sgn_ascii {l : List UInt8} {b : UInt8} (h : l[0]? = some b) (hb : b.toNat ≤ 127) : sgn l = 1 :=
  sgn_of (.one (inr_iff.2 ⟨b, h, by omega, hb⟩))
theorem sgn_bad {l : List UInt8} {b : UInt8} (h : l[0]? = some b) (h1 : (128 ≤ b.toNat ∧ b.toNat ≤ 193) ∨ 245 ≤ b.toNat) : sgn l = 0 := by
  have off : ∀ c d, (d < 128 ∨ (194 ≤ c ∧ d ≤ 244)) → inr l 0 c d = false := by
    intro c d hcd
    rw [inr_some h, Bool.and_eq_false_iff, decide_eq_false_iff_not, decide_eq_false_iff_not]
    omega
  unfold sgn
  simp [off 0 127, off 194 223, off 224 224, off 225 236, off 238 239, off 237 237, off 240 240, off 241 243, off 244 244]
theorem chk1 {l : List UInt8} {lo hi : Nat} : chk l lo hi 1 1 = inr l 1 lo hi := by simp [chk]
theorem chk2 {l : List UInt8} {lo hi : Nat} : chk l lo hi 1 2 = (inr l 1 lo hi && inr l 2 128 191) := by simp [chk]
theorem chk3 {l : List UInt8} {lo hi : Nat} : chk l lo hi 1 3 = (inr l 1 lo hi && (inr l 2 128 191 && inr l 3 128 191)) := by simp [chk]
theorem sgn_lead {l : List UInt8} {b : UInt8} {more lo hi : Nat} (h : l[0]? = some b) (hl : Lead b.toNat more lo hi) : sgn l = if chk l lo hi 1 more then more + 1 else 0 := by
  have on : ∀ c d, c ≤ b.toNat ∧ b.toNat ≤ d → inr l 0 c d = true := by
    intro c d hcd
    exact inr_iff.2 ⟨b, h, hcd.1, hcd.2⟩
  have off : ∀ c d, (d < b.toNat ∨ b.toNat < c) → inr l 0 c d = false := by
    intro c d hcd
    rw [inr_some h, Bool.and_eq_false_iff, decide_eq_false_iff_not, decide_eq_false_iff_not]
    omega
  rcases hl with ⟨h1, h2, rfl, rfl, rfl⟩ | ⟨h1, rfl, rfl, rfl⟩ | ⟨h1, rfl, rfl, rfl⟩ | ⟨h1, h2, h3, rfl, rfl, rfl⟩ | ⟨h1, rfl, rfl, rfl⟩ | ⟨h1, h2, rfl, rfl, rfl⟩ | ⟨h1, rfl, rfl, rfl⟩
  · rw [chk1]
    unfold sgn
    simp only [off 0 127 (by omega), on 194 223 (by omega), off 224 224 (by omega), off 225 236 (by omega), off 238 239 (by omega), off 237 237 (by omega), off 240 240 (by omega), off 241 243 (by omega), off 244 244 (by omega)]
    cases inr l 1 128 191 <;> simp
  · rw [chk2]
    unfold sgn
    simp only [off 0 127 (by omega), off 194 223 (by omega), on 224 224 (by omega), off 225 236 (by omega), off 238 239 (by omega), off 237 237 (by omega), off 240 240 (by omega), off 241 243 (by omega), off 244 244 (by omega)]
    cases inr l 1 160 191 <;> cases inr l 2 128 191 <;> simp
  · rw [chk2]
    unfold sgn
    simp only [off 0 127 (by omega), off 194 223 (by omega), off 224 224 (by omega), off 225 236 (by omega), off 238 239 (by omega), on 237 237 (by omega), off 240 240 (by omega), off 241 243 (by omega), off 244 244 (by omega)]
    cases inr l 1 128 159 <;> cases inr l 2 128 191 <;> simp
  · rw [chk2]
    unfold sgn
    rcases Nat.lt_or_ge b.toNat 237 with hq | hq
    · simp only [off 0 127 (by omega), off 194 223 (by omega), off 224 224 (by omega), on 225 236 (by omega), off 238 239 (by omega), off 237 237 (by omega), off 240 240 (by omega), off 241 243 (by omega), off 244 244 (by omega)]
      cases inr l 1 128 191 <;> cases inr l 2 128 191 <;> simp
    · simp only [off 0 127 (by omega), off 194 223 (by omega), off 224 224 (by omega), off 225 236 (by omega), on 238 239 (by omega), off 237 237 (by omega), off 240 240 (by omega), off 241 243 (by omega), off 244 244 (by omega)]
      cases inr l 1 128 191 <;> cases inr l 2 128 191 <;> simp
  · rw [chk3]
    unfold sgn
    simp only [off 0 127 (by omega), off 194 223 (by omega), off 224 224 (by omega), off 225 236 (by omega), off 238 239 (by omega), off 237 237 (by omega), on 240 240 (by omega), off 241 243 (by omega), off 244 244 (by omega)]
    cases inr l 1 144 191 <;> cases inr l 2 128 191 <;> cases inr l 3 128 191 <;> simp
  · rw [chk3]
    unfold sgn
    simp only [off 0 127 (by omega), off 194 223 (by omega), off 224 224 (by omega), off 225 236 (by omega), off 238 239 (by omega), off 237 237 (by omega), off 240 240 (by omega), on 241 243 (by omega), off 244 244 (by omega)]
    cases inr l 1 128 191 <;> cases inr l 2 128 191 <;> cases inr l 3 128 191 <;> simp
  · rw [chk3]
    unfold sgn
    simp only [off 0 127 (by omega), off 194 223 (by omega), off 224 224 (by omega), off 225 236 (by omega), off 238 239 (by omega), off 237 237 (by omega), off 240 240 (by omega), off 241 243 (by omega), on 244 244 (by omega)]
    cases inr l 1 128 143 <;> cases inr l 2 128 191 <;> cases inr l 3 128 191 <;> simp
end Go.Proofs.Ytfeopchghpihoaa.Wd
end
