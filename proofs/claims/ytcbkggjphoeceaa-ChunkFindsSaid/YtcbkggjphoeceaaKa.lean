/-
  Plain facts on the sum of bytes: a step is linear, and none but 0 goes to 0. No Go in it.
-/
namespace Go.Proofs.Ytcbkggjphoeceaa.Cr

/-- the polynomial -/
def P32 : Nat := 3988292384
/-- all bits -/
def M32 : Nat := 4294967295
/-- half a number, XOR the polynomial if it is odd -/
def h1 (x : Nat) : Nat := if x % 2 = 1 then (x / 2) ^^^ P32 else x / 2
def hn : Nat → Nat → Nat
  | 0, x => x
  | k + 1, x => hn k (h1 x)
/-- stepped by a byte -/
def st (c b : Nat) : Nat := hn 8 (c ^^^ b)
/-- stepped by bytes -/
def mr (c : Nat) (l : List Nat) : Nat := l.foldl st c
/-- the sum, gone on -/
def more (a : Nat) (l : List Nat) : Nat := mr (a ^^^ M32) l ^^^ M32
/-- stepped by n noughts -/
def zr : Nat → Nat → Nat
  | 0, c => c
  | n + 1, c => zr n (st c 0)

theorem w32 : (4294967296 : Nat) = 2 ^ 32 := by decide
theorem xor_lt {x y : Nat} (hx : x < 4294967296) (hy : y < 4294967296) : x ^^^ y < 4294967296 := by
  rw [w32] at *; exact Nat.xor_lt_two_pow hx hy
theorem h1_lt {x : Nat} (hx : x < 4294967296) : h1 x < 4294967296 := by
  unfold h1; split
  · exact xor_lt (by omega) (by decide)
  · omega
theorem hn_lt {k x : Nat} (hx : x < 4294967296) : hn k x < 4294967296 := by
  induction k generalizing x with
  | zero => exact hx
  | succ k ih => exact ih (h1_lt hx)
theorem st_lt {c b : Nat} (hc : c < 4294967296) (hb : b < 256) : st c b < 4294967296 := hn_lt (xor_lt hc (by omega))
theorem mr_lt {c : Nat} {l : List Nat} (hc : c < 4294967296) (hl : ∀ b ∈ l, b < 256) : mr c l < 4294967296 := by
  induction l generalizing c with
  | nil => exact hc
  | cons b l ih => exact ih (st_lt hc (hl b (by simp))) (fun x hx => hl x (by simp [hx]))
theorem more_lt {c : Nat} {l : List Nat} (hc : c < 4294967296) (hl : ∀ b ∈ l, b < 256) : more c l < 4294967296 := xor_lt (mr_lt (xor_lt hc (by decide)) hl) (by decide)
theorem zr_lt {n c : Nat} (hc : c < 4294967296) : zr n c < 4294967296 := by
  induction n generalizing c with
  | zero => exact hc
  | succ n ih => exact ih (st_lt hc (by decide))

theorem xor_mod2 (x y : Nat) : (x ^^^ y) % 2 = (x % 2 + y % 2) % 2 := by
  have h := Nat.xor_mod_two_pow (a := x) (b := y) (n := 1)
  rw [Nat.pow_one] at h; rw [h]
  rcases Nat.mod_two_eq_zero_or_one x with a | a <;> rcases Nat.mod_two_eq_zero_or_one y with b | b <;> rw [a, b] <;> rfl
theorem xor_div2 (x y : Nat) : (x ^^^ y) / 2 = (x / 2) ^^^ (y / 2) := by
  have h := Nat.shiftRight_xor_distrib (a := x) (b := y) (i := 1)
  simpa [Nat.shiftRight_eq_div_pow] using h
theorem h1_xor (x y : Nat) : h1 (x ^^^ y) = h1 x ^^^ h1 y := by
  unfold h1; rw [xor_mod2, xor_div2]
  rcases Nat.mod_two_eq_zero_or_one x with a | a <;> rcases Nat.mod_two_eq_zero_or_one y with b | b <;> rw [a, b] <;> simp
  · exact Nat.xor_assoc _ _ _
  · rw [Nat.xor_assoc, Nat.xor_comm (y / 2) P32, ← Nat.xor_assoc]
  · rw [Nat.xor_assoc (x / 2) P32, ← Nat.xor_assoc P32, Nat.xor_comm P32 (y / 2), Nat.xor_assoc (y / 2), Nat.xor_self, Nat.xor_zero]
theorem hn_xor (k x y : Nat) : hn k (x ^^^ y) = hn k x ^^^ hn k y := by
  induction k generalizing x y with
  | zero => rfl
  | succ k ih => show hn k (h1 (x ^^^ y)) = _; rw [h1_xor]; exact ih _ _
theorem hn_add (j k x : Nat) : hn (j + k) x = hn k (hn j x) := by
  induction j generalizing x with
  | zero => rw [Nat.zero_add]; rfl
  | succ j ih => rw [Nat.add_right_comm]; exact ih _
theorem hn_zero (k : Nat) : hn k 0 = 0 := by
  induction k with
  | zero => rfl
  | succ k ih => exact ih
theorem h1_eq_zero {x : Nat} (hx : x < 4294967296) (h : h1 x = 0) : x = 0 := by
  unfold h1 at h; split at h
  · exfalso
    have e : x / 2 = P32 := by
      have := congrArg (· ^^^ P32) h
      simpa [Nat.xor_assoc, Nat.xor_self] using this
    unfold P32 at e; omega
  · omega
theorem hn_eq_zero {k x : Nat} (hx : x < 4294967296) (h : hn k x = 0) : x = 0 := by
  induction k generalizing x with
  | zero => exact h
  | succ k ih => exact h1_eq_zero hx (ih (h1_lt hx) h)
theorem xor_eq_zero' {x y : Nat} (h : x ^^^ y = 0) : x = y := by
  have := congrArg (· ^^^ y) h
  simpa [Nat.xor_assoc, Nat.xor_self] using this
theorem st_xor (c d b e : Nat) : st (c ^^^ d) (b ^^^ e) = st c b ^^^ st d e := by
  unfold st; rw [← hn_xor]; congr 1
  rw [Nat.xor_assoc, ← Nat.xor_assoc d, Nat.xor_comm d b, Nat.xor_assoc b, ← Nat.xor_assoc c]
theorem mr_nil (c : Nat) : mr c [] = c := rfl
theorem mr_cons (c b : Nat) (l : List Nat) : mr c (b :: l) = mr (st c b) l := rfl
theorem mr_append (c : Nat) (l m : List Nat) : mr c (l ++ m) = mr (mr c l) m := List.foldl_append
theorem mr_xor (c d : Nat) (l m : List Nat) (h : l.length = m.length) : mr (c ^^^ d) (List.zipWith (· ^^^ ·) l m) = mr c l ^^^ mr d m := by
  induction l generalizing c d m with
  | nil => cases m with
    | nil => rfl
    | cons b m => simp at h
  | cons a l ih => cases m with
    | nil => simp at h
    | cons b m => show mr (st (c ^^^ d) (a ^^^ b)) _ = mr (st c a) l ^^^ mr (st d b) m; rw [st_xor]; exact ih _ _ _ (by simpa using h)
theorem zr_add (m n c : Nat) : zr (m + n) c = zr n (zr m c) := by
  induction m generalizing c with
  | zero => rw [Nat.zero_add]; rfl
  | succ m ih => rw [Nat.add_right_comm]; exact ih _
theorem zr_xor (n c d : Nat) : zr n (c ^^^ d) = zr n c ^^^ zr n d := by
  induction n generalizing c d with
  | zero => rfl
  | succ n ih => show zr n (st (c ^^^ d) 0) = _; rw [show (0 : Nat) = 0 ^^^ 0 from rfl, st_xor]; exact ih _ _
theorem zr_zero (n : Nat) : zr n 0 = 0 := by
  induction n with
  | zero => rfl
  | succ n ih => show zr n (st 0 0) = 0; rw [show st 0 0 = 0 from hn_zero 8]; exact ih
theorem zr_eq_zero {n c : Nat} (hc : c < 4294967296) (h : zr n c = 0) : c = 0 := by
  induction n generalizing c with
  | zero => exact h
  | succ n ih =>
    have := ih (st_lt hc (by decide)) h
    unfold st at this
    rw [Nat.xor_zero] at this
    exact hn_eq_zero hc this
theorem zr_inj {n c d : Nat} (hc : c < 4294967296) (hd : d < 4294967296) (h : zr n c = zr n d) : c = d := by
  apply xor_eq_zero'
  refine zr_eq_zero (n := n) (xor_lt hc hd) ?_
  rw [zr_xor, h, Nat.xor_self]
theorem mr_zeros (n c : Nat) : mr c (List.replicate n 0) = zr n c := by
  induction n generalizing c with
  | zero => rfl
  | succ n ih => exact ih _
theorem zip_zeros (l : List Nat) : List.zipWith (· ^^^ ·) (List.replicate l.length 0) l = l := by
  induction l with
  | nil => rfl
  | cons a l ih => show (0 ^^^ a) :: List.zipWith _ (List.replicate l.length 0) l = _; rw [ih, Nat.zero_xor]
/-- a sum that goes on is told by noughts and a sum of its own -/
theorem mr_split (c d : Nat) (l : List Nat) : mr (c ^^^ d) l = zr l.length c ^^^ mr d l := by
  have := mr_xor c d (List.replicate l.length 0) l (by simp)
  rw [zip_zeros, mr_zeros] at this
  exact this
theorem xor_back (a b : Nat) : a ^^^ b ^^^ b = a := by rw [Nat.xor_assoc, Nat.xor_self, Nat.xor_zero]
/-- the sum of two texts goes on -/
theorem more_more (a : Nat) (l m : List Nat) : more (more a l) m = more a (l ++ m) := by
  unfold more; rw [xor_back, mr_append]
/-- and is combined -/
theorem more_combine (l m : List Nat) : more 0 (l ++ m) = zr m.length (more 0 l) ^^^ more 0 m := by
  unfold more
  rw [Nat.zero_xor, mr_append]
  have := mr_split (mr M32 l ^^^ M32) M32 m
  rw [xor_back] at this
  rw [this, Nat.xor_assoc]

/-- eight half steps take a byte off -/
theorem hn_div (k x : Nat) (h : x % 2 ^ k = 0) : hn k x = x / 2 ^ k := by
  induction k generalizing x with
  | zero => simp [hn]
  | succ k ih =>
    have h2 : x % 2 = 0 := by
      have : 2 ∣ x := Nat.dvd_trans (Nat.dvd_mul_left 2 (2 ^ k)) (by rw [← Nat.pow_succ]; exact Nat.dvd_of_mod_eq_zero h)
      omega
    have e : h1 x = x / 2 := by unfold h1; rw [if_neg (by omega)]
    show hn k (h1 x) = _
    rw [e, ih (x / 2) (by
      obtain ⟨y, rfl⟩ := Nat.dvd_of_mod_eq_zero h
      rw [Nat.pow_succ, Nat.mul_assoc, Nat.mul_comm 2 y, ← Nat.mul_assoc, Nat.mul_div_cancel _ (by decide), Nat.mul_mod_right])]
    rw [Nat.div_div_eq_div_mul, Nat.pow_succ, Nat.mul_comm]
theorem hn8_shift (m : Nat) : hn 8 (m * 256) = m := by
  rw [hn_div 8 (m * 256) (by show m * 256 % 256 = 0; exact Nat.mul_mod_left _ _)]
  show m * 256 / 256 = m
  exact Nat.mul_div_cancel _ (by decide)
/-- a number's bytes, the lowest first, step as the number does -/
theorem hn_byte (k c m : Nat) : hn k (hn 8 c ^^^ m) = hn (8 + k) (c ^^^ m * 256) := by
  rw [hn_add, hn_xor 8, hn8_shift]
theorem xor_assoc4 (c a b : Nat) : c ^^^ a ^^^ b * 256 = c ^^^ (a ^^^ b * 256) := Nat.xor_assoc _ _ _
theorem mul_xor (a b : Nat) : (a ^^^ b) * 256 = a * 256 ^^^ b * 256 := by
  have h := Nat.shiftLeft_xor_distrib (a := a) (b := b) (i := 8)
  simpa [Nat.shiftLeft_eq] using h
theorem mr4 (c a0 a1 a2 a3 : Nat) : mr c [a0, a1, a2, a3] = hn 32 (c ^^^ (a0 ^^^ (a1 ^^^ (a2 ^^^ a3 * 256) * 256) * 256)) := by
  show hn 8 (hn 8 (hn 8 (hn 8 (c ^^^ a0) ^^^ a1) ^^^ a2) ^^^ a3) = _
  have e1 : hn 8 (hn 8 (hn 8 (hn 8 (c ^^^ a0) ^^^ a1) ^^^ a2) ^^^ a3) = hn 16 (hn 8 (hn 8 (c ^^^ a0) ^^^ a1) ^^^ (a2 ^^^ a3 * 256)) := by
    rw [hn_byte 8 (hn 8 (hn 8 (c ^^^ a0) ^^^ a1) ^^^ a2) a3, Nat.xor_assoc]
  rw [e1, hn_byte 16, Nat.xor_assoc, hn_byte 24, Nat.xor_assoc]
/-- a text with its sum behind it has one sum -/
theorem mr_seal (r : Nat) (c0 c1 c2 c3 : Nat) (hc : c0 ^^^ (c1 ^^^ (c2 ^^^ c3 * 256) * 256) * 256 = r ^^^ M32) : mr r [c0, c1, c2, c3] = 3736805603 := by
  rw [mr4, hc, ← Nat.xor_assoc, Nat.xor_self, Nat.zero_xor]
  decide
theorem xor_bytes (x y : Nat) (hx : x < 256) : x ^^^ y * 256 = y * 256 + x := by
  rw [Nat.xor_comm]
  have h : y * 256 ^^^ x = y * 2 ^ 8 ||| x := by
    apply Nat.eq_of_testBit_eq
    intro i
    have hx' : x < 2 ^ 8 := hx
    rw [Nat.testBit_xor, Nat.testBit_or]
    by_cases hi : i < 8
    · have : (y * 256).testBit i = false := by
        rw [show (256 : Nat) = 2 ^ 8 by decide, ← Nat.shiftLeft_eq, Nat.testBit_shiftLeft]; simp; omega
      rw [show y * 2 ^ 8 = y * 256 from rfl, this]; simp
    · have : x.testBit i = false := Nat.testBit_lt_two_pow (Nat.lt_of_lt_of_le hx' (Nat.pow_le_pow_right (by decide) (by omega)))
      rw [this]; simp
  rw [h, Nat.mul_comm y, ← Nat.two_pow_add_eq_or_of_lt (i := 8) hx]
theorem bytes4 (c : Nat) (hc : c < 4294967296) : (c % 256) ^^^ ((c / 256 % 256) ^^^ ((c / 65536 % 256) ^^^ (c / 16777216) * 256) * 256) * 256 = c := by
  rw [xor_bytes (c / 65536 % 256) _ (by omega), xor_bytes (c / 256 % 256) _ (by omega), xor_bytes (c % 256) _ (by omega)]
  omega
theorem sealed_more (c : Nat) (h : c < 4294967296) : more c [c % 256, c / 256 % 256, c / 65536 % 256, c / 16777216] = 558161692 := by
  unfold more
  rw [mr_seal (c ^^^ M32) _ _ _ _ (by rw [bytes4 c h, xor_back])]
  decide
theorem sealed (l : List Nat) (h : more 0 l < 4294967296) : more 0 (l ++ [more 0 l % 256, more 0 l / 256 % 256, more 0 l / 65536 % 256, more 0 l / 16777216]) = 558161692 := by
  rw [← more_more]
  exact sealed_more _ h

/-! ### spoilt bytes -/
theorem xor_place (i x y : Nat) (hx : x < 2 ^ i) : x ^^^ y * 2 ^ i = y * 2 ^ i + x := by
  have h : x ^^^ y * 2 ^ i = y * 2 ^ i ||| x := by
    apply Nat.eq_of_testBit_eq
    intro j
    rw [Nat.testBit_xor, Nat.testBit_or]
    by_cases hj : j < i
    · have : (y * 2 ^ i).testBit j = false := by
        rw [← Nat.shiftLeft_eq, Nat.testBit_shiftLeft]; simp; omega
      rw [this]; simp
    · have : x.testBit j = false := Nat.testBit_lt_two_pow (Nat.lt_of_lt_of_le hx (Nat.pow_le_pow_right (by decide) (by omega)))
      rw [this]; simp
  rw [h, Nat.mul_comm y, ← Nat.two_pow_add_eq_or_of_lt hx]
theorem mr4_zero {a0 a1 a2 a3 : Nat} (h0 : a0 < 256) (h1 : a1 < 256) (h2 : a2 < 256) (h3 : a3 < 256) (h : mr 0 [a0, a1, a2, a3] = 0) : a0 = 0 ∧ a1 = 0 ∧ a2 = 0 ∧ a3 = 0 := by
  rw [mr4, Nat.zero_xor, xor_bytes a2 _ h2, xor_bytes a1 _ h1, xor_bytes a0 _ h0] at h
  have := hn_eq_zero (by omega) h
  omega
theorem mr_pad (ms : List Nat) (k : Nat) (h : mr 0 ms = 0) : mr 0 (ms ++ List.replicate k 0) = 0 := by rw [mr_append, h, mr_zeros, zr_zero]
theorem mr_few {ms : List Nat} (hl : ms.length ≤ 4) (hb : ∀ b ∈ ms, b < 256) (h : mr 0 ms = 0) : ∀ b ∈ ms, b = 0 := by
  have hp := mr_pad ms (4 - ms.length) h
  match ms, hl, hb, hp with
  | [], _, _, _ => simp
  | [a], _, hb, hp => have := mr4_zero (hb a (by simp)) (by decide) (by decide) (by decide) hp; simp [this.1]
  | [a, b], _, hb, hp => have := mr4_zero (hb a (by simp)) (hb b (by simp)) (by decide) (by decide) hp; simp [this.1, this.2.1]
  | [a, b, c], _, hb, hp => have := mr4_zero (hb a (by simp)) (hb b (by simp)) (hb c (by simp)) (by decide) hp; simp [this.1, this.2.1, this.2.2.1]
  | [a, b, c, d], _, hb, hp => have := mr4_zero (hb a (by simp)) (hb b (by simp)) (hb c (by simp)) (hb d (by simp)) hp; simp [this.1, this.2.1, this.2.2.1, this.2.2.2]
/-- masks at a place -/
def mask (at_ : Nat) (ms : List Nat) (rest : Nat) : List Nat := List.replicate at_ 0 ++ ms ++ List.replicate rest 0
theorem mr_mask (at_ rest : Nat) (ms : List Nat) (h : mr 0 (mask at_ ms rest) = 0) (hb : ∀ b ∈ ms, b < 256) : mr 0 ms = 0 := by
  unfold mask at h
  rw [mr_append, mr_append, mr_zeros, mr_zeros, zr_zero] at h
  exact zr_eq_zero (mr_lt (by decide) hb) h
/-- two texts that are unlike in up to four bytes have unlike sums -/
theorem spoilt (l : List Nat) (at_ rest : Nat) (ms : List Nat) (hn : l.length = at_ + ms.length + rest) (hl : ms.length ≤ 4) (hb : ∀ b ∈ ms, b < 256) :
    more 0 l = more 0 (List.zipWith (· ^^^ ·) l (mask at_ ms rest)) ↔ ∀ b ∈ ms, b = 0 := by
  have hlen : l.length = (mask at_ ms rest).length := by unfold mask; simp; omega
  have hx := mr_xor M32 0 l (mask at_ ms rest) hlen
  rw [Nat.xor_zero] at hx
  unfold more
  rw [Nat.zero_xor, hx]
  constructor
  · intro h
    have h2 : mr M32 l = mr M32 l ^^^ mr 0 (mask at_ ms rest) := by
      have := congrArg (· ^^^ M32) h
      simpa only [xor_back] using this
    have h3 : mr 0 (mask at_ ms rest) = 0 := by
      have := congrArg (mr M32 l ^^^ ·) h2
      simpa only [← Nat.xor_assoc, Nat.xor_self, Nat.zero_xor] using this.symm
    exact mr_few hl hb (mr_mask _ _ _ h3 hb)
  · intro h
    have h1 : ms = List.replicate ms.length 0 := List.eq_replicate_iff.2 ⟨rfl, h⟩
    have h3 : mr 0 (mask at_ ms rest) = 0 := by
      unfold mask; rw [h1, mr_append, mr_append, mr_zeros, mr_zeros, mr_zeros, zr_zero, zr_zero, zr_zero]
    rw [h3, Nat.xor_zero]

/-! ### tables -/
/-- what each bit is stepped to -/
def tb (k : Nat) : List Nat := (List.range 32).map fun i => zr k (2 ^ i)
theorem tb_len (k : Nat) : (tb k).length = 32 := by simp [tb]
theorem tb_get (k i : Nat) (hi : i < 32) : (tb k)[i]? = some (zr k (2 ^ i)) := by simp [tb, hi]
theorem mod_next (c i : Nat) : c % 2 ^ (i + 1) = if c / 2 ^ i % 2 = 1 then c % 2 ^ i ^^^ 2 ^ i else c % 2 ^ i := by
  have hlt : c % 2 ^ i < 2 ^ i := Nat.mod_lt _ (Nat.two_pow_pos i)
  have hm : c % 2 ^ (i + 1) = c % 2 ^ i + 2 ^ i * (c / 2 ^ i % 2) := by rw [Nat.pow_succ, Nat.mod_mul]
  split
  · rename_i h
    have := xor_place i (c % 2 ^ i) 1 hlt
    rw [Nat.one_mul] at this
    rw [this, hm, h]; omega
  · rename_i h
    have h0 : c / 2 ^ i % 2 = 0 := by omega
    rw [hm, h0]; omega
/-- a table's step, as far as bit i -/
theorem tb_step (k c i : Nat) : zr k (c % 2 ^ (i + 1)) = if c / 2 ^ i % 2 = 1 then zr k (c % 2 ^ i) ^^^ zr k (2 ^ i) else zr k (c % 2 ^ i) := by
  rw [mod_next]; split
  · rw [zr_xor]
  · rfl
/-- the doubled count -/
theorem zr_half (k m c : Nat) : zr (2 * k * (m / 2)) (if m % 2 = 1 then zr k c else c) = zr (k * m) c := by
  have hm : m = 2 * (m / 2) + m % 2 := by omega
  have e : k * m = (k * (m % 2)) + 2 * k * (m / 2) := by
    conv => lhs; rw [hm]
    rw [Nat.mul_add, Nat.add_comm, ← Nat.mul_assoc, Nat.mul_comm k 2]
  rw [e, zr_add]
  split
  · rename_i h; rw [h, Nat.mul_one]
  · rename_i h; have : m % 2 = 0 := by omega
    rw [this, Nat.mul_zero]; rfl
end Go.Proofs.Ytcbkggjphoeceaa.Cr
