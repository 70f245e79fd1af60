/-
 Plain mathematics of layer 9: numbers the other way about; lists of bits and their bytes. No Go.
 Plain mathematics of layer 9: what lists of bits encode to, and what bytes decode to. No Go.
 Contracts of the Readers' Done; of Swap, the program's and the document's; of the two closures that keep the word ahead.
-/
import Derived.Test.YtojhenpaeedimaaGreatMg
import Derived.Test.YtojhenpaeedimaaGreatNb
import Derived.Test.YtojhenpaeedimaaGreatDg
section
namespace Go.Proofs.YtojhenpaeedimaaGreat.Re
open Pk
/-- the number whose eight bytes are those of u, in the other order -/
def sw (u : Nat) : Nat := u % 256 * 72057594037927936 + u / 256 % 256 * 281474976710656 + u / 65536 % 256 * 1099511627776 + u / 16777216 % 256 * 4294967296 + u / 4294967296 % 256 * 16777216 + u / 1099511627776 % 256 * 65536 + u / 281474976710656 % 256 * 256 + u / 72057594037927936 % 256
theorem sw_lt (u : Nat) : sw u < 18446744073709551616 := by unfold sw; omega
theorem sw_digits {u b0 b1 b2 b3 b4 b5 b6 b7 : Nat} (h0 : b0 < 256) (h1 : b1 < 256) (h2 : b2 < 256) (h3 : b3 < 256) (h4 : b4 < 256) (h5 : b5 < 256) (h6 : b6 < 256) (h7 : b7 < 256)
  (h : u = b0 + 256 * b1 + 65536 * b2 + 16777216 * b3 + 4294967296 * b4 + 1099511627776 * b5 + 281474976710656 * b6 + 72057594037927936 * b7) :
  sw u = b7 + 256 * b6 + 65536 * b5 + 16777216 * b4 + 4294967296 * b3 + 1099511627776 * b2 + 281474976710656 * b1 + 72057594037927936 * b0 := by
 have e0 : u % 256 = b0 := by omega
 have e1 : u / 256 % 256 = b1 := by omega
 have e2 : u / 65536 % 256 = b2 := by omega
 have e3 : u / 16777216 % 256 = b3 := by omega
 have e4 : u / 4294967296 % 256 = b4 := by omega
 have e5 : u / 1099511627776 % 256 = b5 := by omega
 have e6 : u / 281474976710656 % 256 = b6 := by omega
 have e7 : u / 72057594037927936 % 256 = b7 := by omega
 unfold sw
 rw [e0, e1, e2, e3, e4, e5, e6, e7]
 omega
theorem digits (u : Nat) (hu : u < 18446744073709551616) : ∃ b0 b1 b2 b3 b4 b5 b6 b7 : Nat, b0 < 256 ∧ b1 < 256 ∧ b2 < 256 ∧ b3 < 256 ∧ b4 < 256 ∧ b5 < 256 ∧ b6 < 256 ∧ b7 < 256 ∧
  u = b0 + 256 * b1 + 65536 * b2 + 16777216 * b3 + 4294967296 * b4 + 1099511627776 * b5 + 281474976710656 * b6 + 72057594037927936 * b7 :=
 ⟨u % 256, u / 256 % 256, u / 65536 % 256, u / 16777216 % 256, u / 4294967296 % 256, u / 1099511627776 % 256, u / 281474976710656 % 256, u / 72057594037927936 % 256, by omega, by omega, by omega, by omega, by omega, by omega, by omega, by omega, by omega⟩
theorem sw_sw (u : Nat) (hu : u < 18446744073709551616) : sw (sw u) = u := by
 obtain ⟨b0, b1, b2, b3, b4, b5, b6, b7, h0, h1, h2, h3, h4, h5, h6, h7, h⟩ := digits u hu
 have e := sw_digits h0 h1 h2 h3 h4 h5 h6 h7 h
 have e2 := sw_digits h7 h6 h5 h4 h3 h2 h1 h0 e
 rw [e2, h]
theorem and_split (k x y m n : Nat) (hx : x < 2 ^ k) (hm : m < 2 ^ k) : (2 ^ k * y + x) &&& (2 ^ k * n + m) = 2 ^ k * (y &&& n) + (x &&& m) := by
 have hxm : x &&& m < 2 ^ k := Nat.and_lt_two_pow _ hm
 apply Nat.eq_of_testBit_eq
 intro i
 rw [Nat.testBit_and, Nat.testBit_two_pow_mul_add _ hx, Nat.testBit_two_pow_mul_add _ hm, Nat.testBit_two_pow_mul_add _ hxm]
 split
 ·rw [Nat.testBit_and]
 ·rw [Nat.testBit_and]
theorem or_split (k x y m n : Nat) (hx : x < 2 ^ k) (hm : m < 2 ^ k) : (2 ^ k * y + x) ||| (2 ^ k * n + m) = 2 ^ k * (y ||| n) + (x ||| m) := by
 have hxm : x ||| m < 2 ^ k := Nat.or_lt_two_pow hx hm
 apply Nat.eq_of_testBit_eq
 intro i
 rw [Nat.testBit_or, Nat.testBit_two_pow_mul_add _ hx, Nat.testBit_two_pow_mul_add _ hm, Nat.testBit_two_pow_mul_add _ hxm]
 split
 ·rw [Nat.testBit_or]
 ·rw [Nat.testBit_or]
theorem or_disj (k x y : Nat) (hx : x < 2 ^ k) : x ||| 2 ^ k * y = 2 ^ k * y + x := by
 have := Nat.two_pow_add_eq_or_of_lt hx y
 rw [Nat.or_comm]; exact this.symm
/-- eight bits of each sixteen -/
theorem and8 (a b c d x y z v : Nat) (ha : a < 256) (hb : b < 256) (hc : c < 256) (hd : d < 256) (hx : x < 256) (hy : y < 256) (hz : z < 256) :
  (a + 256 * x + 65536 * (b + 256 * y + 65536 * (c + 256 * z + 65536 * (d + 256 * v)))) &&& 71777214294589695 = a + 65536 * (b + 65536 * (c + 65536 * d)) := by
 have m8 : ∀ p q : Nat, p < 256 → (p + 256 * q) &&& 255 = p := fun p q hp => by
  rw [show (255 : Nat) = 2 ^ 8 - 1 by decide, Nat.and_two_pow_sub_one_eq_mod]; omega
 have s1 := and_split 16 (a + 256 * x) (b + 256 * y + 65536 * (c + 256 * z + 65536 * (d + 256 * v))) 255 1095233372415 (by omega) (by omega)
 have s2 := and_split 16 (b + 256 * y) (c + 256 * z + 65536 * (d + 256 * v)) 255 16711935 (by omega) (by omega)
 have s3 := and_split 16 (c + 256 * z) (d + 256 * v) 255 255 (by omega) (by omega)
 have e1 : a + 256 * x + 65536 * (b + 256 * y + 65536 * (c + 256 * z + 65536 * (d + 256 * v))) = 2 ^ 16 * (b + 256 * y + 65536 * (c + 256 * z + 65536 * (d + 256 * v))) + (a + 256 * x) := by omega
 have e2 : b + 256 * y + 65536 * (c + 256 * z + 65536 * (d + 256 * v)) = 2 ^ 16 * (c + 256 * z + 65536 * (d + 256 * v)) + (b + 256 * y) := by omega
 have e3 : c + 256 * z + 65536 * (d + 256 * v) = 2 ^ 16 * (d + 256 * v) + (c + 256 * z) := by omega
 rw [e1, show (71777214294589695 : Nat) = 2 ^ 16 * 1095233372415 + 255 by decide, s1, e2, show (1095233372415 : Nat) = 2 ^ 16 * 16711935 + 255 by decide, s2, e3, show (16711935 : Nat) = 2 ^ 16 * 255 + 255 by decide, s3,
  m8 a x ha, m8 b y hb, m8 c z hc, m8 d v hd]
 omega
/-- each two bytes the other way about -/
theorem rev8 {u b0 b1 b2 b3 b4 b5 b6 b7 : Nat} (h0 : b0 < 256) (h1 : b1 < 256) (h2 : b2 < 256) (h3 : b3 < 256) (h4 : b4 < 256) (h5 : b5 < 256) (h6 : b6 < 256) (h7 : b7 < 256)
  (h : u = b0 + 256 * b1 + 65536 * b2 + 16777216 * b3 + 4294967296 * b4 + 1099511627776 * b5 + 281474976710656 * b6 + 72057594037927936 * b7) :
  ((u / 256) &&& 71777214294589695) ||| ((u &&& 71777214294589695) * 256) = b1 + 256 * b0 + 65536 * b3 + 16777216 * b2 + 4294967296 * b5 + 1099511627776 * b4 + 281474976710656 * b7 + 72057594037927936 * b6 := by
 have f1 : (u / 256) &&& 71777214294589695 = b1 + 65536 * (b3 + 65536 * (b5 + 65536 * b7)) := by
  have := and8 b1 b3 b5 b7 b2 b4 b6 0 h1 h3 h5 h7 h2 h4 h6
  rw [← this]; congr 1; omega
 have f2 : u &&& 71777214294589695 = b0 + 65536 * (b2 + 65536 * (b4 + 65536 * b6)) := by
  have := and8 b0 b2 b4 b6 b1 b3 b5 b7 h0 h2 h4 h6 h1 h3 h5
  rw [← this]; congr 1; omega
 have o8 : ∀ p q : Nat, p < 256 → p ||| q * 256 = p + 256 * q := fun p q hp => by
  have := or_disj 8 p q hp
  rw [show q * 256 = 2 ^ 8 * q by omega, this]; omega
 have s1 := or_split 16 b1 (b3 + 65536 * (b5 + 65536 * b7)) (b0 * 256) (b2 * 256 + 65536 * (b4 * 256 + 65536 * (b6 * 256))) (by omega) (by omega)
 have s2 := or_split 16 b3 (b5 + 65536 * b7) (b2 * 256) (b4 * 256 + 65536 * (b6 * 256)) (by omega) (by omega)
 have s3 := or_split 16 b5 b7 (b4 * 256) (b6 * 256) (by omega) (by omega)
 rw [f1, f2, show b1 + 65536 * (b3 + 65536 * (b5 + 65536 * b7)) = 2 ^ 16 * (b3 + 65536 * (b5 + 65536 * b7)) + b1 by omega,
  show (b0 + 65536 * (b2 + 65536 * (b4 + 65536 * b6))) * 256 = 2 ^ 16 * (b2 * 256 + 65536 * (b4 * 256 + 65536 * (b6 * 256))) + b0 * 256 by omega, s1,
  show b3 + 65536 * (b5 + 65536 * b7) = 2 ^ 16 * (b5 + 65536 * b7) + b3 by omega, show b2 * 256 + 65536 * (b4 * 256 + 65536 * (b6 * 256)) = 2 ^ 16 * (b4 * 256 + 65536 * (b6 * 256)) + b2 * 256 by omega, s2,
  show b5 + 65536 * b7 = 2 ^ 16 * b7 + b5 by omega, show b4 * 256 + 65536 * (b6 * 256) = 2 ^ 16 * (b6 * 256) + b4 * 256 by omega, s3, o8 b1 b0 h1, o8 b3 b2 h3, o8 b5 b4 h5, o8 b7 b6 h7]
 omega
theorem and16 (a b c d : Nat) (ha : a < 65536) (hb : b < 65536) (hc : c < 65536) : (a + 65536 * b + 4294967296 * (c + 65536 * d)) &&& 281470681808895 = a + 4294967296 * (c + 65536 * d) % 281474976710656 := by
 have m16 : ∀ p q : Nat, p < 65536 → (p + 65536 * q) &&& 65535 = p := fun p q hp => by
  rw [show (65535 : Nat) = 2 ^ 16 - 1 by decide, Nat.and_two_pow_sub_one_eq_mod]; omega
 have s1 := and_split 32 (a + 65536 * b) (c + 65536 * d) 65535 65535 (by omega) (by omega)
 rw [show a + 65536 * b + 4294967296 * (c + 65536 * d) = 2 ^ 32 * (c + 65536 * d) + (a + 65536 * b) by omega, show (281470681808895 : Nat) = 2 ^ 32 * 65535 + 65535 by decide, s1, m16 a b ha, m16 c d hc]
 omega
theorem rev16 {u a b c d : Nat} (ha : a < 65536) (hb : b < 65536) (hc : c < 65536) (hd : d < 65536) (h : u = a + 65536 * b + 4294967296 * c + 281474976710656 * d) :
  ((u / 65536) &&& 281470681808895) ||| ((u &&& 281470681808895) * 65536) = b + 65536 * a + 4294967296 * d + 281474976710656 * c := by
 have f1 : (u / 65536) &&& 281470681808895 = b + 4294967296 * d := by
  have := and16 b c d 0 hb hc hd
  rw [show u / 65536 = b + 65536 * c + 4294967296 * (d + 65536 * 0) by omega, this]; omega
 have f2 : u &&& 281470681808895 = a + 4294967296 * c := by
  have := and16 a b c d ha hb hc
  rw [show u = a + 65536 * b + 4294967296 * (c + 65536 * d) by omega, this]; omega
 have o16 : ∀ p q : Nat, p < 65536 → p ||| q * 65536 = p + 65536 * q := fun p q hp => by
  have := or_disj 16 p q hp
  rw [show q * 65536 = 2 ^ 16 * q by omega, this]; omega
 have s1 := or_split 32 b d (a * 65536) (c * 65536) (by omega) (by omega)
 rw [f1, f2, show b + 4294967296 * d = 2 ^ 32 * d + b by omega, show (a + 4294967296 * c) * 65536 = 2 ^ 32 * (c * 65536) + a * 65536 by omega, s1, o16 b a hb, o16 d c hd]
 omega
theorem rev32 {u a b : Nat} (ha : a < 4294967296) (hb : b < 4294967296) (h : u = a + 4294967296 * b) : (u / 4294967296) ||| (u % 4294967296 * 4294967296) = b + 4294967296 * a := by
 have := or_disj 32 b a hb
 rw [show u / 4294967296 = b by omega, show u % 4294967296 * 4294967296 = 2 ^ 32 * a by omega, this]; omega
set_option maxHeartbeats 4000000 in
/-- math/bits' way -/
theorem rev64 (u x y : Nat) (hu : u < 18446744073709551616) (hx : x = ((u / 256) &&& 71777214294589695) ||| ((u &&& 71777214294589695) * 256)) (hy : y = ((x / 65536) &&& 281470681808895) ||| ((x &&& 281470681808895) * 65536)) :
  x < 18446744073709551616 ∧ y < 18446744073709551616 ∧ (y / 4294967296) ||| (y % 4294967296 * 4294967296) = sw u := by
 obtain ⟨b0, b1, b2, b3, b4, b5, b6, b7, h0, h1, h2, h3, h4, h5, h6, h7, h⟩ := digits u hu
 have e := sw_digits h0 h1 h2 h3 h4 h5 h6 h7 h
 have hx' := hx.trans (rev8 h0 h1 h2 h3 h4 h5 h6 h7 h)
 obtain ⟨p, hp⟩ : ∃ p, p = b1 + 256 * b0 := ⟨_, rfl⟩
 obtain ⟨q, hq⟩ : ∃ q, q = b3 + 256 * b2 := ⟨_, rfl⟩
 obtain ⟨r, hr⟩ : ∃ r, r = b5 + 256 * b4 := ⟨_, rfl⟩
 obtain ⟨t, ht⟩ : ∃ t, t = b7 + 256 * b6 := ⟨_, rfl⟩
 have kx : x = p + 65536 * q + 4294967296 * r + 281474976710656 * t := by rw [hx', hp, hq, hr, ht]; clear hx hy hx' e h hu; omega
 clear hx hx'
 have hy' := hy.trans (rev16 (by clear hy; omega) (by clear hy; omega) (by clear hy; omega) (by clear hy; omega) kx)
 clear hy
 have k3 := rev32 (u := y) (a := q + 65536 * p) (b := t + 65536 * r) (by omega) (by omega) (by rw [hy']; clear hy' kx e h; omega)
 refine ⟨by omega, by omega, ?_⟩
 rw [k3, e, hp, hq, hr, ht]
 clear k3 e h hy' kx hp hq hr ht
 omega
end Go.Proofs.YtojhenpaeedimaaGreat.Re
end
section
namespace Go.Proofs.YtojhenpaeedimaaGreat.Re
open Pk Fl
/-- where each is unlike the one ahead -/
def dx : Nat → List Nat → List Nat
 | _, [] => []
 | p, u :: us => (u ^^^ p) :: dx u us
/-- words that are put, each the other way about -/
def encS (d : List Nat) : List UInt8 := d.flatMap fun x => put (sw x)
def encR (us : List Nat) : List UInt8 := encS (dx 0 us)
/-- the last one, p if there is none -/
def lst : Nat → List Nat → Nat
 | p, [] => p
 | _, u :: us => lst u us
def Words (us : List Nat) : Prop := ∀ u ∈ us, u < 18446744073709551616
theorem w64 : (18446744073709551616 : Nat) = 2 ^ 64 := by decide
theorem xor_lt {x y : Nat} (hx : x < 18446744073709551616) (hy : y < 18446744073709551616) : x ^^^ y < 18446744073709551616 := by
 rw [w64] at *; exact Nat.xor_lt_two_pow hx hy
theorem dx_len (us : List Nat) : ∀ p, (dx p us).length = us.length := by
 induction us with
 | nil => intro p; rfl
 | cons u us ih => intro p; simp [dx, ih]
theorem dx_app (us vs : List Nat) : ∀ p, dx p (us ++ vs) = dx p us ++ dx (lst p us) vs := by
 induction us with
 | nil => intro p; rfl
 | cons u us ih =>
  intro p
  show (u ^^^ p) :: dx u (us ++ vs) = _
  rw [ih]
  rfl
theorem lst_cons (p u : Nat) (us : List Nat) : lst p (u :: us) = lst u us := rfl
theorem lst_snoc (u : Nat) (us : List Nat) : ∀ p, lst p (us ++ [u]) = u := by
 induction us with
 | nil => intro p; rfl
 | cons v us ih => intro p; exact ih v
theorem encS_app (a b : List Nat) : encS (a ++ b) = encS a ++ encS b := by simp [encS]
theorem encS_cons (x : Nat) (d : List Nat) : encS (x :: d) = put (sw x) ++ encS d := rfl
theorem encS_len (d : List Nat) : d.length ≤ (encS d).length ∧ (encS d).length ≤ 10 * d.length := by
 induction d with
 | nil => simp [encS]
 | cons x d ih =>
  have h3 := put_len10 (sw_lt x)
  have h4 := put_len_pos (sw x)
  rw [encS_cons, List.length_append, List.length_cons]
  omega
theorem encR_len (us : List Nat) : us.length ≤ (encR us).length ∧ (encR us).length ≤ 10 * us.length := by
 have := encS_len (dx 0 us)
 rw [dx_len] at this
 exact this
/-- n words more of a Reader, behind p; out: those that were -/
def fR : Nat → Nat → St → List Nat → List Nat × Int
 | 0, _, s, out => if doneV s = 0 then (out, 0) else ([], doneV s)
 | n + 1, p, s, out => if (numS s).e = 0 then (if cn (sw (numV s) ^^^ p) = true then fR n (sw (numV s) ^^^ p) (numS s) (out ++ [sw (numV s) ^^^ p]) else ([], 5)) else ([], (numS s).e)
def decR (l : List UInt8) (n : Int) : List Nat × Int := if n < 0 then ([], 1) else if (l.length : Int) < n then ([], 2) else fR n.toNat 0 ⟨l, 0⟩ []
theorem fR_err {n p : Nat} {s : St} {out : List Nat} (h : (numS s).e ≠ 0) : fR (n + 1) p s out = ([], (numS s).e) := by rw [fR, if_neg h]
theorem fR_form {n p : Nat} {s : St} {out : List Nat} (h : (numS s).e = 0) (hc : cn (sw (numV s) ^^^ p) = false) : fR (n + 1) p s out = ([], 5) := by rw [fR, if_pos h, if_neg (by rw [hc]; decide)]
theorem fR_go {n p : Nat} {s : St} {out : List Nat} (h : (numS s).e = 0) (hc : cn (sw (numV s) ^^^ p) = true) : fR (n + 1) p s out = fR n (sw (numV s) ^^^ p) (numS s) (out ++ [sw (numV s) ^^^ p]) := by rw [fR, if_pos h, if_pos hc]
theorem fR_done {p : Nat} {s : St} {out : List Nat} (h : doneV s = 0) : fR 0 p s out = (out, 0) := by rw [fR, if_pos h]
theorem fR_left {p : Nat} {s : St} {out : List Nat} (h : doneV s ≠ 0) : fR 0 p s out = ([], doneV s) := by rw [fR, if_neg h]
theorem decR_neg {l : List UInt8} {n : Int} (h : n < 0) : decR l n = ([], 1) := by rw [decR, if_pos h]
theorem decR_far {l : List UInt8} {n : Int} (h0 : 0 ≤ n) (h : (l.length : Int) < n) : decR l n = ([], 2) := by rw [decR, if_neg (by omega), if_pos h]
theorem decR_in {l : List UInt8} {n : Nat} (h : n ≤ l.length) : decR l (n : Int) = fR n 0 ⟨l, 0⟩ [] := by rw [decR, if_neg (by omega), if_neg (by omega), Int.toNat_natCast]
/-- all that come out are words that may be -/
def Good (us : List Nat) : Prop := ∀ u ∈ us, u < 18446744073709551616 ∧ cn u = true
theorem good_nil : Good [] := fun u hu => by simp at hu
theorem good_snoc {us : List Nat} {u : Nat} (h : Good us) (hu : u < 18446744073709551616) (hc : cn u = true) : Good (us ++ [u]) := fun v hv => by
 rcases List.mem_append.1 hv with h1 | h1
 ·exact h v h1
 ·rw [List.mem_singleton.1 h1]; exact ⟨hu, hc⟩
theorem fR_good (n : Nat) : ∀ p s out, p < 18446744073709551616 → Good out → Good (fR n p s out).1 := by
 induction n with
 | zero => intro p s out _ h; rw [fR]; split; exact h; exact good_nil
 | succ n ih =>
  intro p s out hp h
  rw [fR]; split
  ·split
   ·rename_i hc; exact ih _ _ _ (xor_lt (sw_lt _) hp) (good_snoc h (xor_lt (sw_lt _) hp) hc)
   ·exact good_nil
  ·exact good_nil
theorem decR_good (l : List UInt8) (n : Int) : Good (decR l n).1 := by
 unfold decR; split
 ·exact good_nil
 ·split
  ·exact good_nil
  ·exact fR_good _ _ _ _ (by decide) good_nil
theorem xor_back (a b : Nat) : a ^^^ b ^^^ b = a := by rw [Nat.xor_assoc, Nat.xor_self, Nat.xor_zero]
theorem lst_lt {p : Nat} {us : List Nat} (hp : p < 18446744073709551616) (h : Words us) : lst p us < 18446744073709551616 := by
 induction us generalizing p with
 | nil => exact hp
 | cons u us ih => rw [lst_cons]; exact ih (h u (by simp)) (fun v hv => h v (by simp [hv]))
/-- what was encoded is decoded -/
theorem fR_enc (us : List Nat) : ∀ p R out, p < 18446744073709551616 → Good us → fR us.length p ⟨encS (dx p us) ++ R, 0⟩ out = fR 0 (lst p us) ⟨R, 0⟩ (out ++ us) := by
 induction us with
 | nil => intro p R out _ _; rw [List.append_nil]; rfl
 | cons u us ih =>
  intro p R out hp h
  obtain ⟨hu, hc⟩ := h u (by simp)
  obtain ⟨e1, e2⟩ := num_put (sw_lt (u ^^^ p)) (encS (dx u us) ++ R)
  have e3 : sw (sw (u ^^^ p)) ^^^ p = u := by rw [sw_sw _ (xor_lt hu hp), xor_back]
  have e4 : (⟨encS (dx p (u :: us)) ++ R, 0⟩ : St) = ⟨put (sw (u ^^^ p)) ++ (encS (dx u us) ++ R), 0⟩ := by
   rw [dx, encS_cons, List.append_assoc]
  rw [e4, List.length_cons, fR_go (by rw [e2]) (by rw [e1, e3]; exact hc), e1, e2, e3, ih u R _ hu (fun v hv => h v (by simp [hv])), lst_cons, List.append_assoc]
  rfl
theorem decR_enc (us : List Nat) (h : Good us) : decR (encR us) (us.length : Int) = (us, 0) := by
 have hl := (encR_len us).1
 rw [decR_in hl]
 have := fR_enc us 0 [] [] (by decide) h
 rw [List.append_nil] at this
 rw [encR, this, List.nil_append, fR_done (by rfl)]
/-- what was read was put -/
theorem num_front {l : List UInt8} (h : (numS ⟨l, 0⟩).e = 0) : l = put (numV ⟨l, 0⟩) ++ (numS ⟨l, 0⟩).l := by
 obtain ⟨f1, f2, f3⟩ := num_read h
 have h3 : (numS ⟨l, 0⟩).l = l.drop (l.length - (numS ⟨l, 0⟩).l.length) := by
  revert h
  unfold numS
  simp only [if_true]
  cases hr : rd l with
  | ok n u =>
   intro _
   simp only
   rw [List.length_drop]
   by_cases hu : u ≤ l.length
   ·rw [show l.length - (l.length - u) = u by omega]
   ·rw [List.drop_of_length_le (show l.length ≤ u by omega), List.drop_of_length_le (by omega)]
  | cut => intro h; simp at h
  | long => intro h; simp at h
 conv => lhs; rw [← List.take_append_drop (l.length - (numS ⟨l, 0⟩).l.length) l]
 rw [f1, ← h3]
/-- what was decoded was encoded -/
theorem enc_fR (n : Nat) : ∀ p l out us, p < 18446744073709551616 → fR n p ⟨l, 0⟩ out = (us, 0) → ∃ vs, us = out ++ vs ∧ vs.length = n ∧ encS (dx p vs) = l := by
 induction n with
 | zero =>
  intro p l out us _ h
  rw [fR] at h
  split at h <;> rename_i hd
  ·injection h with h1 h2
   subst h1
   refine ⟨[], by simp, rfl, ?_⟩
   unfold doneV at hd
   simp at hd
   cases l with
   | nil => rfl
   | cons a l => simp at hd
  ·injection h with h1 h2
   exact absurd h2 hd
 | succ n ih =>
  intro p l out us hp h
  by_cases he : (numS ⟨l, 0⟩).e = 0
  ·cases hc : cn (sw (numV ⟨l, 0⟩) ^^^ p)
   ·rw [fR_form he hc] at h; injection h with _ h2; cases h2
   ·rw [fR_go he hc] at h
    have hf := num_front he
    have hv := numV_lt ⟨l, 0⟩
    obtain ⟨s, hs⟩ : ∃ s, s = numS ⟨l, 0⟩ := ⟨_, rfl⟩
    obtain ⟨v, hve⟩ : ∃ v, v = numV ⟨l, 0⟩ := ⟨_, rfl⟩
    rw [← hs, ← hve] at h hf
    rw [← hs] at he
    rw [← hve] at hv
    obtain ⟨s, e⟩ := s
    simp only at he hf
    subst he
    obtain ⟨vs, h1, h2, h3⟩ := ih _ _ _ _ (xor_lt (sw_lt _) hp) h
    refine ⟨(sw v ^^^ p) :: vs, by rw [h1, List.append_assoc]; rfl, by simp [h2], ?_⟩
    rw [dx, encS_cons, h3, xor_back, sw_sw v hv]
    exact hf.symm
  ·rw [fR_err he] at h; injection h with _ h2; exact absurd h2 he
theorem enc_decR {l : List UInt8} {n : Int} (h : (decR l n).2 = 0) : ((decR l n).1.length : Int) = n ∧ encR (decR l n).1 = l := by
 have h' : decR l n = ((decR l n).1, 0) := by rw [← h]
 obtain ⟨us, hu⟩ : ∃ us, us = (decR l n).1 := ⟨_, rfl⟩
 rw [← hu] at h' ⊢
 unfold decR at h'
 split at h' <;> rename_i h1
 ·injection h' with _ h2; cases h2
 ·split at h' <;> rename_i h2
  ·injection h' with _ h2; cases h2
  ·obtain ⟨vs, g1, g2, g3⟩ := enc_fR _ _ _ _ _ (by decide) h'
   rw [List.nil_append] at g1
   subst g1
   exact ⟨by omega, g3⟩
end Go.Proofs.YtojhenpaeedimaaGreat.Re
end
section
namespace Go.Proofs.YtojhenpaeedimaaGreat
open Dl
namespace Rl
open Go.RowKit
open Pk
set_option maxRecDepth 100000
theorem done_c (g : Nat) (s : St) (w : World) (h : Rdr w g s) :
  Calls Tryz.prog 91 #[.pointer (some ⟨g, 0, none⟩)] w fun e w' => e = .returned (.int .i64 (doneV s)) ∧ w = w' := by
 by_cases he : s.e = 0
 ·have hd : (s.e != 0) = false := by rw [he]; rfl
  by_cases hp : 0 < s.l.length
  ·have HV : Hid (doneV s = 5) := by unfold Hid doneV; rw [if_pos he, if_pos hp]
   clear he
   go_enter Tryz.func91, Tryz.ntmps91
   go_wp2_with (first
    | (go_at_call 54; refine (err_c g s _ h).mono ?_; rintro e wz ⟨rfl, rfl⟩)
    | (go_at_call 53; refine (left_c g s _ h).mono ?_; rintro e wz ⟨rfl, rfl⟩))
   go_ret
   exact ⟨ret_int HV.out.symm, rfl⟩
  ·have HV : Hid (doneV s = 0) := by unfold Hid doneV; rw [if_pos he, if_neg hp]
   clear he
   go_enter Tryz.func91, Tryz.ntmps91
   go_wp2_with (first
    | (go_at_call 54; refine (err_c g s _ h).mono ?_; rintro e wz ⟨rfl, rfl⟩)
    | (go_at_call 53; refine (left_c g s _ h).mono ?_; rintro e wz ⟨rfl, rfl⟩))
   go_ret
   exact ⟨ret_int HV.out.symm, rfl⟩
 ·have hd : (s.e != 0) = true := by simpa using he
  have HV : Hid (doneV s = s.e) := by unfold Hid doneV; rw [if_neg he]
  clear he
  go_enter Tryz.func91, Tryz.ntmps91
  go_wp2_with (go_at_call 54; refine (err_c g s _ h).mono ?_; rintro e wz ⟨rfl, rfl⟩)
  go_ret
  exact ⟨ret_int HV.out.symm, rfl⟩
theorem rev_c (u : Nat) (hu : u < 18446744073709551616) (w : World) :
  Calls Tryz.prog 174 #[.int .u64 (u : Int)] w fun e w' => e = .returned (.int .u64 (Re.sw u : Nat)) ∧ w = w' := by
 obtain ⟨x, hx⟩ : ∃ x, x = ((u / 256) &&& 71777214294589695) ||| ((u &&& 71777214294589695) * 256) := ⟨_, rfl⟩
 obtain ⟨y, hy⟩ : ∃ y, y = ((x / 65536) &&& 281470681808895) ||| ((x &&& 281470681808895) * 65536) := ⟨_, rfl⟩
 obtain ⟨hxl, hyl, hr⟩ := Re.rev64 u x y hu hx hy
 have m8 : ∀ z : Nat, z &&& 71777214294589695 < 72057594037927936 := fun z => Nat.lt_of_le_of_lt Nat.and_le_right (by decide)
 have m16 : ∀ z : Nat, z &&& 281470681808895 < 281474976710656 := fun z => Nat.lt_of_le_of_lt Nat.and_le_right (by decide)
 have a1 : bits .and .u64 ((u : Int) / 256) 71777214294589695 = (((u / 256) &&& 71777214294589695 : Nat) : Int) := u64_and_nat (u / 256) 71777214294589695 (by omega) (by decide)
 have a2 : bits .and .u64 (u : Int) 71777214294589695 = ((u &&& 71777214294589695 : Nat) : Int) := u64_and_nat u 71777214294589695 hu (by decide)
 have k1 := m8 (u / 256)
 have k2 := m8 u
 obtain ⟨p, hp⟩ : ∃ p, p = (u / 256) &&& 71777214294589695 := ⟨_, rfl⟩
 obtain ⟨q, hq⟩ : ∃ q, q = u &&& 71777214294589695 := ⟨_, rfl⟩
 rw [← hp] at a1 k1
 rw [← hq] at a2 k2
 have a3 : bits .or .u64 (p : Int) ((q : Int) * 256) = (x : Int) := by
  rw [hx, ← hp, ← hq]; exact u64_or_nat p (q * 256) (by omega) (by omega)
 have w1 : IntKind.u64.wrap ((q : Int) * 256) = (q : Int) * 256 := by rw [IntKind.wrap_u64]; omega
 have b1 : bits .and .u64 ((x : Int) / 65536) 281470681808895 = (((x / 65536) &&& 281470681808895 : Nat) : Int) := u64_and_nat (x / 65536) 281470681808895 (by omega) (by decide)
 have b2 : bits .and .u64 (x : Int) 281470681808895 = ((x &&& 281470681808895 : Nat) : Int) := u64_and_nat x 281470681808895 hxl (by decide)
 have k3 := m16 (x / 65536)
 have k4 := m16 x
 obtain ⟨r, hr1⟩ : ∃ r, r = (x / 65536) &&& 281470681808895 := ⟨_, rfl⟩
 obtain ⟨t, ht⟩ : ∃ t, t = x &&& 281470681808895 := ⟨_, rfl⟩
 rw [← hr1] at b1 k3
 rw [← ht] at b2 k4
 have b3 : bits .or .u64 (r : Int) ((t : Int) * 65536) = (y : Int) := by
  rw [hy, ← hr1, ← ht]; exact u64_or_nat r (t * 65536) (by omega) (by omega)
 have w2 : IntKind.u64.wrap ((t : Int) * 65536) = (t : Int) * 65536 := by rw [IntKind.wrap_u64]; omega
 have c3 : bits .or .u64 ((y : Int) / 4294967296) ((y : Int) % 4294967296 * 4294967296) = (Re.sw u : Nat) := by
  rw [← hr]; exact u64_or_nat (y / 4294967296) (y % 4294967296 * 4294967296) (by omega) (by omega)
 have w3 : IntKind.u64.wrap ((y : Int) * 4294967296) = (y : Int) % 4294967296 * 4294967296 := by rw [IntKind.wrap_u64]; omega
 have HH := Lib.hid hr
 clear hx hy hp hq hr1 ht m8 m16 hr
 go_enter Tryz.func174, Tryz.ntmps174
 go_wp2
 go_ret
 exact ⟨rfl, rfl⟩
theorem swap_c (u : Nat) (hu : u < 18446744073709551616) (w : World) :
  Calls Tryz.prog 113 #[.int .u64 (u : Int)] w fun e w' => e = .returned (.int .u64 (Re.sw u : Nat)) ∧ w = w' := by
 go_enter Tryz.func113, Tryz.ntmps113
 go_wp2_with fail
 refine (rev_c u hu _).mono ?_
 rintro e wz ⟨rfl, rfl⟩
 go_wp2
 go_ret
 exact ⟨rfl, rfl⟩
theorem grown_set (w : World) (b : Nat) (u : Value) : w.grownBy (w.setCell ⟨b, 0, none⟩ u) (some b) :=
 ⟨rfl, rfl, rfl, by simp [World.setCell], fun k _ hk => Below.heap_setCell _ _ _ _ (fun e => hk (by simp [e]))⟩
/-- block b keeps the word p -/
def Keeps (w : World) (b : Nat) (p : Nat) : Prop := Is w b 62 [.int .u64 (p : Int)]
theorem xor_u64 (x y : Nat) (hx : x < 18446744073709551616) (hy : y < 18446744073709551616) : bits .xor .u64 (x : Int) (y : Int) = ((x ^^^ y : Nat) : Int) := u64_xor_nat x y hx hy
theorem unlike_c (w : World) : Calls Tryz.prog 112 #[] w fun e w' =>
  e = .returned (.func (.func 173) #[] #[.pointer (some ⟨w.heap.size, 0, none⟩)]) ∧ Keeps w' w.heap.size 0 ∧ Below w.heap.size w w' ∧ w.heap.size < w'.heap.size := by
 have hmf : ∀ (fn : Fn) (first cap : Array Value) (w : World), (Instr.makeFunc fn first cap).run Tryz.prog w = .ok (.func fn first cap) w := fun _ _ _ _ => rfl
 go_enter Tryz.func112, Tryz.ntmps112
 go_wp2
 go_ret
 refine ⟨rfl, ?_, ?_, ?_⟩
 ·first | exact is_new w 62 [.int .u64 0] | exact is_set (is_new w 62 [.int .u64 0]) 0 (.int .u64 0)
 ·first | exact (Below.refl _ _).alloc (Nat.le_refl _) _ | exact Below.setCell ((Below.refl _ _).alloc (Nat.le_refl _) _) (p := ⟨w.heap.size, 0, none⟩) (Nat.le_refl _) _
 ·simp
theorem whole_c (w : World) : Calls Tryz.prog 189 #[] w fun e w' =>
  e = .returned (.func (.func 214) #[] #[.pointer (some ⟨w.heap.size, 0, none⟩)]) ∧ Keeps w' w.heap.size 0 ∧ Below w.heap.size w w' ∧ w.heap.size < w'.heap.size := by
 have hmf : ∀ (fn : Fn) (first cap : Array Value) (w : World), (Instr.makeFunc fn first cap).run Tryz.prog w = .ok (.func fn first cap) w := fun _ _ _ _ => rfl
 go_enter Tryz.func189, Tryz.ntmps189
 go_wp2
 go_ret
 refine ⟨rfl, ?_, ?_, ?_⟩
 ·first | exact is_new w 62 [.int .u64 0] | exact is_set (is_new w 62 [.int .u64 0]) 0 (.int .u64 0)
 ·first | exact (Below.refl _ _).alloc (Nat.le_refl _) _ | exact Below.setCell ((Below.refl _ _).alloc (Nat.le_refl _) _) (p := ⟨w.heap.size, 0, none⟩) (Nat.le_refl _) _
 ·simp
theorem unlike1_c (b u p : Nat) (hu : u < 18446744073709551616) (hp : p < 18446744073709551616) (w : World) (h : Keeps w b p) : Calls Tryz.prog 173 #[.int .u64 (u : Int), .pointer (some ⟨b, 0, none⟩)] w fun e w' =>
  e = .returned (.int .u64 (u ^^^ p : Nat)) ∧ Keeps w' b u ∧ w.grownBy w' (some b) := by
 have hc := is_cell h 0
 have hf := is_free h 0
 have hlt := is_lt h
 have hset := is_set h 0 (.int .u64 (u : Int))
 have hg := grown_set w b (.int .u64 (u : Int))
 simp only [List.getElem?_cons_zero, List.set_cons_zero] at hc hset
 have hx := xor_u64 u p hu hp
 clear h
 go_enter Tryz.func173, Tryz.ntmps173
 go_wp2
 go_ret
 exact ⟨rfl, hset, hg⟩
theorem whole1_c (b x p : Nat) (hx : x < 18446744073709551616) (hp : p < 18446744073709551616) (w : World) (h : Keeps w b p) : Calls Tryz.prog 214 #[.int .u64 (x : Int), .pointer (some ⟨b, 0, none⟩)] w fun e w' =>
  e = .returned (.int .u64 (x ^^^ p : Nat)) ∧ Keeps w' b (x ^^^ p) ∧ w.grownBy w' (some b) := by
 have hc := is_cell h 0
 have hf := is_free h 0
 have hlt := is_lt h
 have hset := is_set h 0 (.int .u64 (x ^^^ p : Nat))
 have hg := grown_set w b (.int .u64 (x ^^^ p : Nat))
 simp only [List.getElem?_cons_zero, List.set_cons_zero] at hc hset
 have hxx : bits .xor .u64 (p : Int) (x : Int) = ((x ^^^ p : Nat) : Int) := by rw [Nat.xor_comm]; exact xor_u64 p x hp hx
 clear h
 go_enter Tryz.func214, Tryz.ntmps214
 go_wp2
 go_ret
 exact ⟨rfl, hset, hg⟩
end Rl
end Go.Proofs.YtojhenpaeedimaaGreat
end
