/-
 Plain mathematics of layer 3: what Put, Fixed, Zig and Zag tell, and what is read of bytes. No Go.
 Words for bytes: a string of a list of bytes, its cells; rows of bytes that the call owns, as strings.
 Contracts of Put.
 Contracts of Fixed, Zig, Zag.
-/
import Derived.Test.YtojhenpaeedimaaGreatRows
import Derived.WalkKit
import Derived.WalkLawsBesides
import Derived.WalkSpells
import Derived.Lib.Hide
import Derived.Outline
import Derived.Laws.IdiomStrings
import Derived.Laws.BytesArg
import Derived.Deep.DeepFit
import Derived.Laws.BitsAllLaws
import Derived.Laws.Rows
import Derived.Deep.Draws
import Derived.WalkSmall
section
namespace Go.Proofs.YtojhenpaeedimaaGreat.Pk
/-- P3.1: n in groups of seven bits -/
def put (n : Nat) : List UInt8 := if n < 128 then [UInt8.ofNat n] else UInt8.ofNat (n % 128 + 128) :: put (n / 128)
termination_by n
decreasing_by omega
theorem put_lo {n : Nat} (h : n < 128) : put n = [UInt8.ofNat n] := by rw [put, if_pos h]
theorem put_hi {n : Nat} (h : 128 ≤ n) : put n = UInt8.ofNat (n % 128 + 128) :: put (n / 128) := by rw [put, if_neg (by omega)]
theorem put_byte {b : UInt8} (h : b.toNat < 128) : put b.toNat = [b] := by rw [put_lo h]; simp
theorem put_len_pos (n : Nat) : 0 < (put n).length := by
 rw [put]; split <;> simp
theorem put_len (k : Nat) : ∀ n, n < 128 ^ k → 1 ≤ k → (put n).length ≤ k := by
 induction k with
 | zero => intro n _ h; omega
 | succ k ih =>
  intro n h _
  by_cases hn : n < 128
  ·rw [put_lo hn]; simp
  ·rw [put_hi (by omega), List.length_cons]
   have hd : n / 128 < 128 ^ k := by
    rw [Nat.pow_succ] at h
    exact Nat.div_lt_of_lt_mul (by omega)
   cases k with
   | zero => simp at hd; omega
   | succ k => have := ih _ hd (by omega); omega
/-- a number's bytes are ten at most -/
theorem put_len10 {n : Nat} (h : n < 18446744073709551616) : (put n).length ≤ 10 :=
 put_len 10 n (by omega) (by omega)
def fixed : Nat → Nat → List UInt8
 | 0, _ => []
 | k + 1, u => UInt8.ofNat (u % 256) :: fixed k (u / 256)
theorem fixed_len (k : Nat) : ∀ u, (fixed k u).length = k := by
 induction k with
 | zero => intro u; rfl
 | succ k ih => intro u; rw [fixed, List.length_cons, ih]
theorem fixed_snoc (k : Nat) : ∀ u, fixed (k + 1) u = fixed k u ++ [UInt8.ofNat (u / 256 ^ k % 256)] := by
 induction k with
 | zero => intro u; simp [fixed]
 | succ k ih =>
  intro u
  rw [fixed, ih, fixed, List.cons_append, Nat.div_div_eq_div_mul, Nat.pow_succ, Nat.mul_comm]
def zig (n : Int) : Nat := if 0 ≤ n then (2 * n).toNat else (2 * (-1 - n) + 1).toNat
def zag (u : Nat) : Int := if u % 2 = 1 then -1 - ((u / 2 : Nat) : Int) else ((u / 2 : Nat) : Int)
theorem zag_zig (n : Int) : zag (zig n) = n := by
 unfold zag zig
 split <;> split <;> omega
theorem zig_zag (u : Nat) : zig (zag u) = u := by
 unfold zag zig
 split <;> split <;> omega
theorem zig_lt {n : Int} (h1 : -9223372036854775808 ≤ n) (h2 : n < 9223372036854775808) : zig n < 18446744073709551616 := by
 unfold zig; split <;> omega
theorem zag_bd {u : Nat} (h : u < 18446744073709551616) : -9223372036854775808 ≤ zag u ∧ zag u < 9223372036854775808 := by
 unfold zag; split <;> omega
/-- what is read of bytes: a number and how many bytes it has, or an error -/
inductive Rd where
 | cut | long
 | ok (n : Nat) (used : Nat)
/-- P3.3: bytes are looked at one by one, from the i-th on; acc: what the ones ahead tell -/
def rdAt : Nat → Nat → List UInt8 → Rd
 | _, _, [] => .cut
 | i, acc, b :: l =>
  if (i = 9 ∧ 1 < b.toNat) ∨ (0 < i ∧ b.toNat = 0) then .long
  else if b.toNat < 128 then .ok (acc + b.toNat * 128 ^ i) (i + 1)
  else rdAt (i + 1) (acc + (b.toNat % 128) * 128 ^ i) l
def rd (l : List UInt8) : Rd := rdAt 0 0 l
theorem rdAt_nil (i acc : Nat) : rdAt i acc [] = .cut := by rw [rdAt]
theorem rdAt_long {i acc : Nat} {b : UInt8} {l : List UInt8} (h : (i = 9 ∧ 1 < b.toNat) ∨ (0 < i ∧ b.toNat = 0)) : rdAt i acc (b :: l) = .long := by
 rw [rdAt, if_pos h]
theorem rdAt_ok {i acc : Nat} {b : UInt8} {l : List UInt8} (h : ¬((i = 9 ∧ 1 < b.toNat) ∨ (0 < i ∧ b.toNat = 0))) (hb : b.toNat < 128) :
  rdAt i acc (b :: l) = .ok (acc + b.toNat * 128 ^ i) (i + 1) := by
 rw [rdAt, if_neg h, if_pos hb]
theorem rdAt_more {i acc : Nat} {b : UInt8} {l : List UInt8} (h : ¬((i = 9 ∧ 1 < b.toNat) ∨ (0 < i ∧ b.toNat = 0))) (hb : 128 ≤ b.toNat) :
  rdAt i acc (b :: l) = rdAt (i + 1) (acc + (b.toNat % 128) * 128 ^ i) l := by
 rw [rdAt, if_neg h, if_neg (by omega)]
theorem ofNat_toNat_lt {n : Nat} (h : n < 256) : (UInt8.ofNat n).toNat = n := by
 rw [UInt8.toNat_ofNat']; exact Nat.mod_eq_of_lt h
/-- what is put is read, whatever follows: from the i-th byte on -/
theorem rdAt_put (k : Nat) : ∀ (i n acc : Nat) (l : List UInt8), i + k = 10 → n * 128 ^ i < 18446744073709551616 → (0 < i → 0 < n) →
  rdAt i acc (put n ++ l) = .ok (acc + n * 128 ^ i) (i + (put n).length) := by
 induction k with
 | zero =>
  intro i n acc l hk h1 h2
  obtain rfl : i = 10 := by omega
  have := h2 (by omega)
  have : 128 ^ 10 ≤ n * 128 ^ 10 := Nat.le_mul_of_pos_left _ this
  omega
 | succ k ih =>
  intro i n acc l hk h1 h2
  have hi9 : i = 9 → n < 2 := by
   rintro rfl
   have : n * 9223372036854775808 < 18446744073709551616 := h1
   omega
  by_cases hn : n < 128
  ·rw [put_lo hn, List.singleton_append, rdAt_ok, ofNat_toNat_lt (by omega)]
   ·rfl
   ·rw [ofNat_toNat_lt (by omega)]
    rintro (⟨h, h'⟩ | ⟨h, h'⟩)
    ·have := hi9 h; omega
    ·have := h2 h; omega
   ·rw [ofNat_toNat_lt (by omega)]; exact hn
  ·rw [put_hi (by omega), List.cons_append, rdAt_more]
   ·rw [ofNat_toNat_lt (by omega), ih (i + 1) (n / 128) _ l (by omega)]
    ·have e : (n % 128 + 128) % 128 = n % 128 := by omega
     have hp : acc + n % 128 * 128 ^ i + n / 128 * 128 ^ (i + 1) = acc + n * 128 ^ i := by
      rw [Nat.pow_succ, Nat.mul_comm (128 ^ i) 128, ← Nat.mul_assoc, Nat.add_assoc, ← Nat.add_mul]
      congr 2
      omega
     rw [e, hp, List.length_cons]
     congr 1
     omega
    ·rw [Nat.pow_succ, Nat.mul_comm (128 ^ i) 128, ← Nat.mul_assoc]
     exact Nat.lt_of_le_of_lt (Nat.mul_le_mul_right _ (Nat.div_mul_le_self n 128)) h1
    ·intro _; omega
   ·rw [ofNat_toNat_lt (by omega)]
    rintro (⟨h, h'⟩ | ⟨h, h'⟩)
    ·have := hi9 h; omega
    ·omega
   ·rw [ofNat_toNat_lt (by omega)]; omega
theorem rd_put {n : Nat} (h : n < 18446744073709551616) (l : List UInt8) : rd (put n ++ l) = .ok n (put n).length := by
 have := rdAt_put 10 0 n 0 l (by omega) (by simpa using h) (fun h => absurd h (by omega))
 unfold rd
 rw [this]
 congr 1 <;> omega
/-- what is read was put: from the i-th byte on -/
theorem rdAt_inv (l : List UInt8) : ∀ (i acc n used : Nat), i ≤ 9 → rdAt i acc l = .ok n used → ∃ m rest, l = put m ++ rest ∧ n = acc + m * 128 ^ i ∧ used = i + (put m).length ∧ m * 128 ^ i < 18446744073709551616 ∧ (0 < i → 0 < m) := by
 induction l with
 | nil => intro i acc n used _ h; rw [rdAt_nil] at h; cases h
 | cons b l ih =>
  intro i acc n used hi h
  by_cases hl : (i = 9 ∧ 1 < b.toNat) ∨ (0 < i ∧ b.toNat = 0)
  ·rw [rdAt_long hl] at h; cases h
  ·have hpow : 128 ^ i ≤ 128 ^ 9 := Nat.pow_le_pow_right (by omega) hi
   have h9 : i = 9 → b.toNat ≤ 1 := by intro e; omega
   have h0 : 0 < i → 0 < b.toNat := by intro e; omega
   have h8 : i ≠ 9 → 128 ^ i ≤ 128 ^ 8 := fun e => Nat.pow_le_pow_right (by omega) (by omega)
   have hbb := b.toNat_lt
   by_cases hb : b.toNat < 128
   ·rw [rdAt_ok hl hb] at h
    injection h with e1 e2
    refine ⟨b.toNat, l, ?_, e1.symm, by rw [put_lo hb]; simpa using e2.symm, ?_, h0⟩
    ·rw [put_lo hb]; simp
    ·by_cases e : i = 9
     ·have := h9 e; subst e
      have : b.toNat * 128 ^ 9 ≤ 1 * 128 ^ 9 := Nat.mul_le_mul_right _ this
      omega
     ·have h8' := h8 e
      have : b.toNat * 128 ^ i ≤ 127 * 128 ^ 8 := Nat.mul_le_mul (by omega) h8'
      omega
   ·rw [rdAt_more hl (by omega)] at h
    have hi' : i ≠ 9 := by intro e; have := h9 e; omega
    obtain ⟨m, rest, e1, e2, e3, e4, e5⟩ := ih (i + 1) _ n used (by omega) h
    have hm := e5 (by omega)
    have hd : (b.toNat - 128 + m * 128) / 128 = m := by omega
    have hmod : (b.toNat - 128 + m * 128) % 128 = b.toNat - 128 := by omega
    have hput : put (b.toNat - 128 + m * 128) = b :: put m := by
     have e128 : b.toNat - 128 + 128 = b.toNat := by omega
     have eb : UInt8.ofNat b.toNat = b := by simp
     rw [put_hi (by omega), hd, hmod, e128, eb]
    have hpe : b.toNat % 128 = b.toNat - 128 := by omega
    have hmul : (b.toNat - 128 + m * 128) * 128 ^ i = b.toNat % 128 * 128 ^ i + m * 128 ^ (i + 1) := by
     rw [hpe, Nat.add_mul, Nat.pow_succ, Nat.mul_comm (128 ^ i) 128, ← Nat.mul_assoc]
    refine ⟨b.toNat - 128 + m * 128, rest, ?_, ?_, ?_, ?_, ?_⟩
    ·rw [hput, e1]; rfl
    ·rw [hmul, e2]; omega
    ·rw [hput, List.length_cons, e3]; omega
    ·rw [hmul]
     have hs : 128 ^ (i + 1) ≤ 128 ^ 9 := Nat.pow_le_pow_right (by omega) (by omega)
     by_cases e : i = 8
     ·subst e
      have h9' : (8 : Nat) + 1 = 9 := rfl
      rw [h9'] at e4 ⊢
      have hm1 : m ≤ 1 := by
       rcases Nat.lt_or_ge 1 m with h | h
       ·have : 2 * 128 ^ 9 ≤ m * 128 ^ 9 := Nat.mul_le_mul_right _ h
        omega
       ·exact h
      have q1 : m * 128 ^ 9 ≤ 1 * 128 ^ 9 := Nat.mul_le_mul_right _ hm1
      have q2 : b.toNat % 128 * 128 ^ 8 ≤ 127 * 128 ^ 8 := Nat.mul_le_mul_right _ (by omega)
      have p8 : (127 : Nat) * 128 ^ 8 + 1 * 128 ^ 9 < 18446744073709551616 := by decide
      exact Nat.lt_of_le_of_lt (Nat.add_le_add q2 q1) p8
     ·have q2 : b.toNat % 128 * 128 ^ i < 128 ^ (i + 1) := by
       rw [Nat.pow_succ, Nat.mul_comm]
       exact Nat.mul_lt_mul_of_pos_left (by omega) (Nat.pow_pos (by omega))
      have q3 : (128 : Nat) ^ (i + 1) ∣ 18446744073709551616 := by
       have : (18446744073709551616 : Nat) = 2 ^ 64 := by decide
       rw [this, show (128 : Nat) = 2 ^ 7 from rfl, ← Nat.pow_mul]
       exact Nat.pow_dvd_pow 2 (by omega)
      obtain ⟨q, hq⟩ := q3
      rw [hq] at e4 ⊢
      have : m < q := by
       rw [Nat.mul_comm] at e4
       exact Nat.lt_of_mul_lt_mul_left e4
      calc b.toNat % 128 * 128 ^ i + m * 128 ^ (i + 1) < 128 ^ (i + 1) + m * 128 ^ (i + 1) := by omega
       _ = 128 ^ (i + 1) * (m + 1) := by rw [Nat.mul_add, Nat.mul_one, Nat.mul_comm m]; omega
       _ ≤ 128 ^ (i + 1) * q := Nat.mul_le_mul_left _ this
    ·intro _; omega
theorem rd_inv {l : List UInt8} {n used : Nat} (h : rd l = .ok n used) : l.take used = put n ∧ used = (put n).length ∧ used ≤ l.length ∧ n < 18446744073709551616 ∧ 1 ≤ used ∧ used ≤ 10 := by
 obtain ⟨m, rest, e1, e2, e3, e4, _⟩ := rdAt_inv l 0 0 n used (by omega) h
 obtain rfl : n = m := by rw [e2]; omega
 have h0 : n < 18446744073709551616 := by simpa using e4
 have hu : used = (put n).length := by omega
 have h1 := put_len10 h0
 have h2 := put_len_pos n
 refine ⟨by rw [e1, hu]; simp, hu, by rw [e1, hu]; simp, h0, by omega, by omega⟩
/-- eight bytes as a number, the lowest first -/
def num8 : List UInt8 → Nat
 | [] => 0
 | b :: l => b.toNat + 256 * num8 l
theorem num8_lt (l : List UInt8) : num8 l < 256 ^ l.length := by
 induction l with
 | nil => simp [num8]
 | cons b l ih =>
  rw [num8, List.length_cons, Nat.pow_succ]
  have := b.toNat_lt
  omega
theorem num8_snoc (l : List UInt8) (b : UInt8) : num8 (l ++ [b]) = num8 l + b.toNat * 256 ^ l.length := by
 induction l with
 | nil => simp [num8]
 | cons c l ih =>
  rw [List.cons_append, num8, num8, ih, List.length_cons, Nat.pow_succ, Nat.mul_add, Nat.add_assoc]
  congr 2
  rw [Nat.mul_comm (256 ^ l.length) 256, ← Nat.mul_assoc, ← Nat.mul_assoc, Nat.mul_comm 256]
theorem num8_fixed (k : Nat) : ∀ u, u < 256 ^ k → num8 (fixed k u) = u := by
 induction k with
 | zero => intro u h; simp at h; subst h; rfl
 | succ k ih =>
  intro u h
  rw [fixed, num8, ofNat_toNat_lt (by omega), ih (u / 256) (by rw [Nat.pow_succ] at h; exact Nat.div_lt_of_lt_mul (by omega))]
  omega
theorem fixed_num8 (l : List UInt8) : fixed l.length (num8 l) = l := by
 induction l with
 | nil => rfl
 | cons b l ih =>
  have := b.toNat_lt
  rw [List.length_cons, fixed, num8]
  have h1 : (b.toNat + 256 * num8 l) % 256 = b.toNat := by omega
  have h2 : (b.toNat + 256 * num8 l) / 256 = num8 l := by omega
  rw [h1, h2, ih]
  simp
theorem drop_cons {l : List UInt8} {k : Nat} {b : UInt8} (h : l[k]? = some b) : l.drop k = b :: l.drop (k + 1) := by
 obtain ⟨hk, rfl⟩ := List.getElem?_eq_some_iff.1 h
 exact List.drop_eq_getElem_cons hk
theorem rd_step_cut {l : List UInt8} {k acc : Nat} (hk : l.length ≤ k) (hr : rdAt k acc (l.drop k) = rd l) : rd l = .cut := by
 rw [← hr, List.drop_eq_nil_of_le hk, rdAt_nil]
theorem rd_step_long {l : List UInt8} {k acc : Nat} {b : UInt8} (h : l[k]? = some b) (hr : rdAt k acc (l.drop k) = rd l) (hl : (k = 9 ∧ 1 < b.toNat) ∨ (0 < k ∧ b.toNat = 0)) : rd l = .long := by
 rw [← hr, drop_cons h, rdAt_long hl]
theorem rd_step_ok {l : List UInt8} {k acc : Nat} {b : UInt8} (h : l[k]? = some b) (hr : rdAt k acc (l.drop k) = rd l) (hl : ¬((k = 9 ∧ 1 < b.toNat) ∨ (0 < k ∧ b.toNat = 0))) (hb : b.toNat < 128) : rd l = .ok (acc + b.toNat % 128 * 128 ^ k) (k + 1) := by
 rw [← hr, drop_cons h, rdAt_ok hl hb, Nat.mod_eq_of_lt hb]
theorem rd_step_more {l : List UInt8} {k acc : Nat} {b : UInt8} (h : l[k]? = some b) (hr : rdAt k acc (l.drop k) = rd l) (hl : ¬((k = 9 ∧ 1 < b.toNat) ∨ (0 < k ∧ b.toNat = 0))) (hb : 128 ≤ b.toNat) : rdAt (k + 1) (acc + b.toNat % 128 * 128 ^ k) (l.drop (k + 1)) = rd l := by
 rw [← hr, drop_cons h, rdAt_more hl hb]
/-- groups of seven bits stay within 64 -/
theorem group_lt {acc c k : Nat} (ha : acc < 128 ^ k) (hc : c < 128) : acc + c * 128 ^ k < 128 ^ (k + 1) := by
 have h1 : (c + 1) * 128 ^ k ≤ 128 * 128 ^ k := Nat.mul_le_mul_right _ (by omega)
 rw [Nat.add_mul, Nat.one_mul] at h1
 rw [Nat.pow_succ, Nat.mul_comm (128 ^ k) 128]
 omega
theorem group_bd {c k : Nat} (hk : k ≤ 9) (hc : c < 128) (h9 : k = 9 → c ≤ 1) : c * 128 ^ k < 18446744073709551616 := by
 by_cases h : k = 9
 ·subst h
  exact Nat.lt_of_le_of_lt (Nat.mul_le_mul_right _ (h9 rfl)) (by decide)
 ·have hp : 128 ^ k ≤ 128 ^ 8 := Nat.pow_le_pow_right (by omega) (by omega)
  exact Nat.lt_of_le_of_lt (Nat.mul_le_mul (show c ≤ 127 by omega) hp) (by decide)
theorem take_set_succ {α : Type} (l : List α) (k : Nat) (b : α) (h : k < l.length) : (l.set k b).take (k + 1) = l.take k ++ [b] := by
 rw [List.take_succ_eq_append_getElem (by simpa using h), List.take_set_of_le (Nat.le_refl _)]
 simp
end Go.Proofs.YtojhenpaeedimaaGreat.Pk
end
section
namespace Go.Proofs.YtojhenpaeedimaaGreat
open Go.RowKit
open Pk
set_option maxRecDepth 100000
/-- a list of bytes as a string -/
def ba (l : List UInt8) : ByteArray := ⟨l.toArray⟩
theorem ba_size (l : List UInt8) : (ba l).size = l.length := by simp [ba, ByteArray.size]
theorem ba_list (l : List UInt8) : (ba l).data.toList = l := rfl
theorem ba_of (s : ByteArray) : ba s.data.toList = s := by cases s; simp [ba]
theorem ba_get {l : List UInt8} {k : Nat} {b : UInt8} (h : l[k]? = some b) (hk : k < (ba l).size) : (ba l)[k] = b := by
 have h1 : (ba l)[k] = l[k]'(by simpa [ba_size] using hk) := rfl
 rw [h1]
 exact (List.getElem_eq_iff _).2 h
/-- a byte of a string -/
theorem index_ba {l : List UInt8} {k : Nat} {b : UInt8} (h : l[k]? = some b) (i : Int) (hi : i = (k : Int)) (wx : World) : (Instr.index 9 (.string (ba l)) (.int .i64 i)).run Tryz.prog wx = .ok (.int .u8 (b.toNat : Int)) wx := by
 subst hi
 have hk : k < l.length := (List.getElem?_eq_some_iff.1 h).1
 have hk2 : k < (ba l).size := by rw [ba_size]; exact hk
 have hg := ba_get h hk2
 rw [run_index_string wx 9 (ba l) .i64 (k : Int) Tryz.underlying9]
 simp [hk2, hg]
theorem ret_str {a b : ByteArray} (h : a = b) : Ending.returned (.string a) = .returned (.string b) := by rw [h]
theorem ret_int {k : IntKind} {a b : Int} (h : a = b) : Ending.returned (.int k a) = .returned (.int k b) := by rw [h]
theorem ret_bool {a b : Bool} (h : a = b) : Ending.returned (.bool a) = .returned (.bool b) := by rw [h]
/-- a byte as a cell -/
def bc (b : UInt8) : Value := .int .u8 (b.toNat : Int)
def bcs (l : List UInt8) : List Value := l.map bc
theorem bcs_len (l : List UInt8) : (bcs l).length = l.length := by simp [bcs]
theorem bcs_snoc (l : List UInt8) (b : UInt8) : bcs (l ++ [b]) = bcs l ++ [bc b] := by simp [bcs]
/-- a row of bytes of the call's own, as a string -/
theorem run_own_string {w : World} {base : Nat} {v : Value} {l : List UInt8} (hown : w.ownsRow base 5 1 v l.length (bcs l)) :
  (convert 109 9 v).run Tryz.prog w = .ok (.string (ba l)) w := by
 rcases hown.2 with ⟨rfl, h0⟩ | ⟨g, cap, cur, rfl, hg, hh, hn, hm, hs, hx⟩
 ·have : l = [] := List.eq_nil_of_length_eq_zero h0
  subst this
  exact run_convert_bytes_nil w 109 5 Tryz.underlying109 Tryz.underlying5 0 0 9 Tryz.underlying9
 ·refine run_convert_bytes_back w 109 9 5 ⟨g, 0, none⟩ cap l Tryz.underlying109 Tryz.underlying5 Tryz.underlying9 fun j hj => ?_
  have := hown.cells (g := g) rfl j (bc l[j]) (by simp [bcs, hj])
  exact this
theorem Tryz.info5 : (Tryz.prog.info? 5).map (fun i => (i.zero, i.size, i.bytes)) = some (some (.int .u8 0), 1, 1) := by kernel_rfl
/-- a byte of a number, with its highest bit -/
theorem bits_or128 : ∀ x : Nat, x < 256 → bits BinOp.or IntKind.u8 (x : Int) 128 = ((x % 128 + 128 : Nat) : Int) := by decide +kernel
theorem or128 (k : Nat) (b : UInt8) (h : b = UInt8.ofNat (k % 128 + 128)) : bits BinOp.or IntKind.u8 ((k : Int) % 256) 128 = (b.toNat : Int) := by
 subst h
 rw [Pk.ofNat_toNat_lt (by omega)]
 have e : ((k : Int) % 256) = ((k % 256 : Nat) : Int) := by omega
 rw [e, bits_or128 _ (by omega)]
 congr 2
 omega
theorem add_head (g j : Nat) : (⟨g, 0, none⟩ : Addr).add j = ⟨g, j, none⟩ := by unfold Addr.add; split <;> simp_all
/-- the one cell of a new block -/
theorem cell_one (w : World) (b : UInt8) (t : TypeId) : ∀ (j : Nat) (u : Value), [bc b][j]? = some u → (w.alloc (.cells #[.int .u8 (b.toNat : Int)] t)).cell? ((⟨w.heap.size, 0, none⟩ : Addr).add j) = some u := by
 intro j u hj
 match j, hj with
 | 0, hj =>
  simp at hj
  subst hj
  simp [Addr.add, bc]
theorem one_cell (b : UInt8) : ∀ u ∈ [bc b], u.oneCell' = true := by
 intro u hu
 simp at hu
 subst hu
 rfl
/-- a byte more -/
theorem own_snoc {w : World} {base : Nat} {v : Value} {xs : List UInt8} {b : UInt8} (h : w.ownsRow base 5 1 v (xs.length + 1) (bcs xs ++ [bc b])) :
  w.ownsRow base 5 1 v (xs ++ [b]).length (bcs (xs ++ [b])) := by
 rw [bcs_snoc, List.length_append]
 exact h
theorem below_grown_own {B : Nat} {w w1 w2 : World} {v : Value} {o : Obj} {n : Nat} {xs : List Value} (hb : Below B w w1) (hB : B ≤ w1.heap.size) (hown : w1.ownsRow B 5 1 v n xs) (hg : (w1.alloc o).grownBy w2 v.ownBlock) : Below B w w2 :=
 (hb.alloc hB o).grown hg (by simp; omega) (fun k hk => (hown.lt k hk).1)
/-- block g is whole the list l, of type t -/
def Is (w : World) (g : Nat) (t : TypeId) (l : List Value) : Prop := w.heap[g]? = some (.cells l.toArray t (0, 0))
theorem is_lt {w : World} {g : Nat} {t : TypeId} {l : List Value} (h : Is w g t l) : g < w.heap.size := by
 unfold Is at h
 exact (Array.getElem?_eq_some_iff.1 h).1
theorem is_cell {w : World} {g : Nat} {t : TypeId} {l : List Value} (h : Is w g t l) (i : Nat) : w.cell? ⟨g, i, none⟩ = l[i]? := by
 have := cell_of_row w g i l.toArray t (0, 0) h
 simpa using this
theorem is_at {w : World} {g : Nat} {t : TypeId} {l : List Value} (h : Is w g t l) {i : Nat} (hi : i < l.length) : ∃ u, w.cell? ⟨g, i, none⟩ = some u :=
 ⟨l[i], by rw [is_cell h, List.getElem?_eq_getElem hi]⟩
theorem is_free {w : World} {g : Nat} {t : TypeId} {l : List Value} (h : Is w g t l) (i : Nat) : w.frozen? ⟨g, i, none⟩ = false := by
 unfold Is at h
 simp [World.frozen?, h]
theorem is_new (w : World) (t : TypeId) (l : List Value) : Is (w.alloc (.cells l.toArray t)) w.heap.size t l := heap_alloc_new w _
theorem is_set {w : World} {g : Nat} {t : TypeId} {l : List Value} (h : Is w g t l) (i : Nat) (u : Value) : Is (w.setCell ⟨g, i, none⟩ u) g t (l.set i u) := by
 have := heap_setCell_same w g i l.toArray t u h
 simpa [Is] using this
theorem is_far {w : World} {g : Nat} {t : TypeId} {l : List Value} (h : Is w g t l) (a : Addr) (hne : g ≠ a.block) (u : Value) : Is (w.setCell a u) g t l :=
 (heap_setCell_other w a g u hne).trans h
theorem is_alloc {w : World} {g : Nat} {t : TypeId} {l : List Value} (h : Is w g t l) (o : Obj) : Is (w.alloc o) g t l :=
 (Below.heap_alloc w o g (is_lt h)).trans h
theorem is_drew {w : World} {g : Nat} {t : TypeId} {l : List Value} (h : Is w g t l) : Is w.drew g t l := h
theorem is_below {B : Nat} {w w' : World} {g : Nat} {t : TypeId} {l : List Value} (h : Is w g t l) (hb : Below B w w') (hg : g < B) : Is w' g t l := (hb.block g hg).trans h
theorem is_grown {w w' : World} {g : Nat} {t : TypeId} {l : List Value} {row : Option Nat} (h : Is w g t l) (hb : w.grownBy w' row) (hg : some g ≠ row) : Is w' g t l := (hb.block g (is_lt h) hg).trans h
theorem shr8 (n k : Nat) (b : UInt8) (h : b = UInt8.ofNat (n / 256 ^ k % 256)) : (n : Int) / 2 ^ (8 * k) % 256 = (b.toNat : Int) := by
 subst h
 rw [Pk.ofNat_toNat_lt (by omega)]
 have e : ((2 : Int) ^ (8 * k)) = ((256 ^ k : Nat) : Int) := by
  have h2 : (2 : Nat) ^ (8 * k) = 256 ^ k := by rw [Nat.pow_mul]
  rw [← h2]; simp
 rw [e]
 omega
theorem or_add {y x k : Nat} (hy : y < 2 ^ k) : y ||| (x * 2 ^ k) = y + x * 2 ^ k := by
 have h := Nat.two_pow_add_eq_or_of_lt hy x
 rw [Nat.or_comm, Nat.mul_comm, ← h, Nat.add_comm]
end Go.Proofs.YtojhenpaeedimaaGreat
end
section
namespace Go.Proofs.YtojhenpaeedimaaGreat
open Go.RowKit
open Pk
set_option maxRecDepth 100000
theorem put_c (n : Nat) (hn : n < 18446744073709551616) (w : World) :
  Calls Tryz.prog 42 #[.int .u64 (n : Int)] w fun e w' => e = .returned (.string (ba (put n))) ∧ Below w.heap.size w w' := by
 obtain ⟨i0, hi, hz0, hz1, hz2⟩ := info_parts Tryz.info5
 have hlen := put_len10 hn
 go_enter Tryz.func42, Tryz.ntmps42
 go_wp2
 go_loopw [0, 3] (fun m v wr => ∃ (k : Nat) (xs : List UInt8), m = .int .u64 (k : Int) ∧ k ≤ n ∧ wr.ownsRow w.heap.size 5 1 v xs.length (bcs xs) ∧ xs ++ put k = put n ∧ Below w.heap.size w wr)
  (fun m _ _ => (Go.RowKit.intOf m).toNat)
 case atStart => exact ⟨n, [], rfl, Nat.le_refl _, World.ownsRow_nil _ _ _ _, rfl, Below.refl _ _⟩
 case round =>
  obtain ⟨k, xs, rfl, hk, hown, hput, hb⟩ := hrel
  have hb0 := hb.size
  have hx := congrArg List.length hput
  rw [List.length_append] at hx
  have hx1 := put_len_pos k
  have HP := Lib.hid hput
  have hxl : xs.length ≤ 10 := by omega
  clear hput hx hx1 hlen
  by_cases hlt : k < 128
  ·obtain ⟨b, rfl⟩ : ∃ b : UInt8, k = b.toNat := ⟨UInt8.ofNat k, (ofNat_toNat_lt (by omega)).symm⟩
   go_wp2_with (at_builtin; refine wpList_append_own _ rfl (.tmp 14) (.tmp 17) 109 rfl w.heap.size 5 i0 (.int .u8 0) 1 1 Tryz.underlying109 hi hz0 hz1 hz2 rfl (by decide) _ _ _ rfl (hown.alloc _) ⟨wr.heap.size, 0, none⟩ 1 1 [bc b] rfl rfl (cell_one _ _ _) (one_cell b) ?c3 ?c4 ?c5 ?_)
   case c3 => unfold maxLen; omega
   case c4 => omega
   case c5 => simp; omega
   intro v' w1 hown' hgrow _
   have hb1 := below_grown_own hb hb0 hown hgrow
   have hstr := run_own_string (own_snoc hown')
   have e1 : put n = xs ++ [b] := by rw [← HP.out, put_byte hlt]
   have HE := Lib.hid e1
   clear hown hown' hgrow e1 hb
   go_wp2
   go_ret
   exact ⟨ret_str (by rw [HE.out]), hb1⟩
  ·obtain ⟨b, hbe⟩ : ∃ b : UInt8, b = UInt8.ofNat (k % 128 + 128) := ⟨_, rfl⟩
   have hcv := or128 k b hbe
   have HBE := Lib.hid hbe
   clear hbe
   go_wp2_with (at_builtin; refine wpList_append_own _ rfl (.tmp 6) (.tmp 10) 109 rfl w.heap.size 5 i0 (.int .u8 0) 1 1 Tryz.underlying109 hi hz0 hz1 hz2 rfl (by decide) _ _ _ rfl (hown.alloc _) ⟨wr.heap.size, 0, none⟩ 1 1 [bc b] rfl rfl (cell_one _ _ _) (one_cell b) ?c3 ?c4 ?c5 ?_)
   case c3 => unfold maxLen; omega
   case c4 => omega
   case c5 => simp; omega
   intro v' w1 hown' hgrow _
   have hb1 := below_grown_own hb hb0 hown hgrow
   have ho1 := own_snoc hown'
   have e1 : (xs ++ [b]) ++ put (k / 128) = put n := by rw [← HP.out, put_hi (n := k) (by omega), HBE.out, List.append_assoc]; rfl
   have HE := Lib.hid e1
   clear hcv hown hown' hgrow e1 hb
   go_wp2
   go_roundw
   case rel => exact ⟨k / 128, xs ++ [b], by go_num, by omega, ho1, HE.out, hb1⟩
   case measure => simp [Go.RowKit.intOf]; omega
end Go.Proofs.YtojhenpaeedimaaGreat
end
section
namespace Go.Proofs.YtojhenpaeedimaaGreat
open Go.RowKit
open Pk
set_option maxRecDepth 100000
theorem fixed_c (n : Nat) (_hn : n < 18446744073709551616) (w : World) :
  Calls Tryz.prog 150 #[.int .u64 (n : Int)] w fun e w' => e = .returned (.string (ba (fixed 8 n))) ∧ Below w.heap.size w w' := by
 go_enter Tryz.func150, Tryz.ntmps150
 go_wp2
 go_loopw [4, 5] (fun _ i wr => ∃ (k : Nat) (l : List UInt8), i = .int .i64 (k : Int) ∧ k ≤ 8 ∧ l.length = 8 ∧ l.take k = fixed k n ∧ Is wr w.heap.size 204 (bcs l) ∧ Below w.heap.size w wr)
  (fun _ i _ => 8 - (Go.RowKit.intOf i).toNat)
 case atStart => exact ⟨0, List.replicate 8 0, rfl, by omega, rfl, rfl, is_new w 204 (bcs (List.replicate 8 0)), (Below.refl _ _).alloc (Nat.le_refl _) _⟩
 case round =>
  obtain ⟨k, l, rfl, hk, hl, ht, his, hb⟩ := hrel
  have HL := Lib.hid hl
  have HT := Lib.hid ht
  clear hl ht
  have hb0 := hb.size
  by_cases hlt : k < 8
  ·obtain ⟨c, hc⟩ := is_at his (i := k) (by rw [bcs_len, HL.out]; exact hlt)
   have f0 := is_free his k
   obtain ⟨b, hbe⟩ : ∃ b : UInt8, b = UInt8.ofNat (n / 256 ^ k % 256) := ⟨_, rfl⟩
   have hcv := shr8 n k b hbe
   have HBE := Lib.hid hbe
   clear hbe
   go_wp2
   go_roundw
   case rel =>
    refine ⟨k + 1, l.set k b, by go_num, by omega, by simp [HL.out], ?_, ?_, hb.setCell (Nat.le_refl _) _⟩
    ·rw [take_set_succ l k b (by rw [HL.out]; exact hlt), HT.out, fixed_snoc, HBE.out]
    ·have := is_set his k (bc b)
     unfold bcs at this ⊢
     rw [List.map_set]
     exact this
   case measure => simp [Go.RowKit.intOf]; omega
  ·obtain rfl : k = 8 := by omega
   have e8 : fixed 8 n = l := by rw [← HT.out, List.take_of_length_le (by rw [HL.out]; omega)]
   have hcv := run_convert_bytes_back (P := Tryz.prog) wr 109 9 5 ⟨w.heap.size, 0, none⟩ 8 l Tryz.underlying109 Tryz.underlying5 Tryz.underlying9 (fun j hj => by
    rw [add_head, is_cell his j]
    simp [bcs, bc, hj])
   rw [HL.out] at hcv
   have HE := Lib.hid e8
   clear e8 his
   go_wp2
   go_ret
   exact ⟨ret_str (by rw [HE.out]; rfl), hb⟩
theorem zig_c (n : Int) (h1 : -9223372036854775808 ≤ n) (h2 : n < 9223372036854775808) (w : World) :
  Calls Tryz.prog 95 #[.int .i64 n] w fun e w' => e = .returned (.int .u64 (zig n : Int)) ∧ w = w' := by
 by_cases h : n < 0
 ·have hor : bits BinOp.or IntKind.u64 ((-1 - n) * 2) 1 = (zig n : Int) := by
   obtain ⟨m, hm⟩ := Int.eq_ofNat_of_zero_le (show 0 ≤ -1 - n by omega)
   have e : (-1 - n) * 2 = ((m * 2 ^ 1 : Nat) : Int) := by rw [hm]; omega
   have e1 : (1 : Int) = ((1 : Nat) : Int) := rfl
   rw [e, e1, u64_or_nat _ _ (by omega) (by omega), Nat.or_comm, or_add (by omega)]
   unfold zig
   rw [if_neg (by omega)]
   omega
  go_enter Tryz.func95, Tryz.ntmps95
  go_wp2
  go_ret
  exact ⟨rfl, rfl⟩
 ·have hz : n * 2 = (zig n : Int) := by unfold zig; rw [if_pos (by omega)]; omega
  go_enter Tryz.func95, Tryz.ntmps95
  go_wp2
  go_ret
  exact ⟨rfl, rfl⟩
theorem zag_c (n : Nat) (hn : n < 18446744073709551616) (w : World) :
  Calls Tryz.prog 220 #[.int .u64 (n : Int)] w fun e w' => e = .returned (.int .i64 (zag n)) ∧ w = w' := by
 have h1 := and_one_u64 (n : Int) (by omega) (by omega)
 by_cases h : n % 2 = 1
 ·have hz : -1 - (n : Int) / 2 = zag n := by unfold zag; rw [if_pos h]; omega
  have hd : (bits BinOp.and IntKind.u64 (n : Int) 1 == 1) = true := by rw [h1]; simp; omega
  clear h1
  go_enter Tryz.func220, Tryz.ntmps220
  go_wp2
  go_ret
  exact ⟨rfl, rfl⟩
 ·have hz : (n : Int) / 2 = zag n := by unfold zag; rw [if_neg h]; omega
  have hd : (bits BinOp.and IntKind.u64 (n : Int) 1 == 1) = false := by rw [h1]; simp; omega
  clear h1
  go_enter Tryz.func220, Tryz.ntmps220
  go_wp2
  go_ret
  exact ⟨rfl, rfl⟩
end Go.Proofs.YtojhenpaeedimaaGreat
end
