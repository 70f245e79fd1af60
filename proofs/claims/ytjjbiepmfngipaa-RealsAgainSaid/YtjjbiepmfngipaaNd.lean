/-
  Contracts of bits.size and bits.Float: the word of e and m, and of any 64 bits.
-/
import Derived.Test.YtjjbiepmfngipaaNc
namespace Go.Proofs.Ytjjbiepmfngipaa
open Go.RowKit
open Fl
set_option maxRecDepth 100000

/-- the word that size makes -/
def szw (e m : Nat) : Nat := if e = 2047 then (if m = 0 then 9218868437227405312 else 9221120237041090561) else e * 4503599627370496 + m

theorem ofNat_en (m : Nat) (hm : m < 9007199254740992) : floatOfInt .f64 (m : Int) = en m B := ofNat_eq m hm

theorem size_c (e m : Nat) (he : e ≤ 2047) (hm : m < 4503599627370496) (w : World) :
    Calls Try.prog 71 #[.int .i64 (e : Int), .int .u64 (m : Int)] w fun e' w' => e' = .returned (.float .f64 (szw e m)) ∧ Below w.heap.size w w' := by
  by_cases h1 : e = 2047
  · subst h1
    by_cases h2 : m = 0
    · subst h2
      go_enter Try.func71, Try.ntmps71
      go_wp2_with fail
      refine (inf_c _).mono ?_
      rintro e w' ⟨rfl, rfl⟩
      go_wp2
      go_ret
      exact ⟨rfl, Below.refl _ _⟩
    · have h3 : ((m : Int) != 0) = true := by rw [bne_iff_ne]; omega
      have h4 : szw 2047 m = 9221120237041090561 := by simp [szw, h2]
      have h5 : ((m : Int) == 0) = false := by rw [beq_eq_false_iff_ne]; omega
      go_enter Try.func71, Try.ntmps71
      go_wp2_with fail
      refine (nan_c _).mono ?_
      rintro e w' ⟨rfl, rfl⟩
      go_wp2
      go_ret
      exact ⟨congrArg (fun n => Ending.returned (.float .f64 n)) h4.symm, Below.refl _ _⟩
  · have h3 : ((e : Int) == 2047) = false := by rw [beq_eq_false_iff_ne]; omega
    by_cases h0 : e = 0
    · subst h0
      have h4 := ofNat_en m (by omega)
      have h5 : szw 0 m = en m 0 := by
        have : en m 0 = m := enc_small m hm
        rw [this]; simp [szw]
      rw [h5]
      clear h5 h3
      go_enter Try.func71, Try.ntmps71
      go_wp2_with fail
      refine (times_c m B 0 _ (by omega) (by rw [B_eq]; omega) (by omega) (by rw [B_eq]; omega) (by rw [B_eq]; omega) _).mono ?_
      rintro e w' ⟨rfl, hb⟩
      go_wp2
      go_ret
      exact ⟨rfl, hb⟩
    · have h5 : szw e m = en (4503599627370496 + m) (e - 1) := by
        have : en (4503599627370496 + m) (e - 1) = e * 4503599627370496 + m := enc_norm m e hm (by omega) (by omega)
        rw [this]; simp [szw, h1]
      rw [h5]
      have h6 := or_hidden m hm
      have hM : 4503599627370496 + m < 9007199254740992 := by omega
      generalize 4503599627370496 + m = M at *
      have h4 := ofNat_en M hM
      have h7 : ((e : Int) == 0) = false := by rw [beq_eq_false_iff_ne]; omega
      clear h5
      go_enter Try.func71, Try.ntmps71
      go_wp2_with fail
      refine (times_c M B (e - 1) _ (by omega) (by rw [B_eq]; omega) (by omega) (by rw [B_eq]; omega) (by rw [B_eq]; omega) _).mono ?_
      rintro e w' ⟨rfl, hb⟩
      go_wp2
      go_ret
      exact ⟨rfl, hb⟩

theorem ng_cases (u : Nat) : (ng u = true ∧ 9223372036854775808 ≤ u) ∨ (ng u = false ∧ u < 9223372036854775808) := by
  unfold ng
  by_cases h : 9223372036854775808 ≤ u
  · exact .inl ⟨by simp [h], h⟩
  · exact .inr ⟨by simp [h], by omega⟩

/-- what size makes of e and m, and the minus before it -/
theorem szw_fl (u : Nat) (hu : u < 18446744073709551616) :
    (ng u = false → fl u = szw (u / 4503599627370496 % 2048) (u % 4503599627370496)) ∧ (ng u = true → fl u = Op.negFloat .f64 (szw (u / 4503599627370496 % 2048) (u % 4503599627370496))) := by
  have hs : szw (u / 4503599627370496 % 2048) (u % 4503599627370496) < 9223372036854775808 := by
    unfold szw; split <;> (try split) <;> omega
  have hn := neg_eq false _ hs
  have e1 : wd false (szw (u / 4503599627370496 % 2048) (u % 4503599627370496)) = szw (u / 4503599627370496 % 2048) (u % 4503599627370496) := by simp [wd]
  rw [e1] at hn
  rw [hn]
  unfold fl nn wd
  rcases ng_cases u with ⟨h1, h2⟩ | ⟨h1, h2⟩
  · refine ⟨fun h => absurd (h.symm.trans h1) (by simp), fun _ => ?_⟩
    rw [h1]
    simp only [Bool.not_false, if_true]
    unfold szw
    by_cases hq : 9218868437227405312 < u % 9223372036854775808
    · rw [decide_eq_true hq, if_pos rfl, if_pos (by omega), if_neg (by omega)]
    · rw [decide_eq_false hq, if_neg (by simp)]
      split
      · rw [if_pos (by omega)]; omega
      · omega
  · refine ⟨fun _ => ?_, fun h => absurd (h.symm.trans h1) (by simp)⟩
    rw [h1]
    simp only [Bool.false_eq_true, if_false]
    unfold szw
    by_cases hq : 9218868437227405312 < u % 9223372036854775808
    · rw [decide_eq_true hq, if_pos rfl, if_pos (by omega), if_neg (by omega)]
    · rw [decide_eq_false hq, if_neg (by simp)]
      split
      · rw [if_pos (by omega)]; omega
      · omega

theorem float_c (u : Nat) (hu : u < 18446744073709551616) (w : World) :
    Calls Try.prog 47 #[.int .u64 (u : Int)] w fun e w' => e = .returned (.float .f64 (fl u)) ∧ Below w.heap.size w w' := by
  obtain ⟨hf0, hf1⟩ := szw_fl u hu
  have h1 := and_exp u hu
  have h2 := and_part u hu
  have h3 := and_top u hu
  have he : u / 4503599627370496 % 2048 ≤ 2047 := by omega
  have hm : u % 4503599627370496 < 4503599627370496 := by omega
  generalize u / 4503599627370496 % 2048 = x at *
  generalize u % 4503599627370496 = y at *
  rcases ng_cases u with ⟨h, _⟩ | ⟨h, _⟩
  · rw [h] at h3
    have hz := hf1 h
    rw [hz]
    clear hf0 hf1 hz
    simp only [if_true] at h3
    go_enter Try.func47, Try.ntmps47
    go_wp2_with fail
    refine (size_c x y he hm _).mono ?_
    rintro e w' ⟨rfl, hb⟩
    go_wp2
    go_ret
    exact ⟨rfl, hb⟩
  · rw [h] at h3
    have hz := hf0 h
    rw [hz]
    clear hf0 hf1 hz
    simp only [Bool.false_eq_true, if_false] at h3
    go_enter Try.func47, Try.ntmps47
    go_wp2_with fail
    refine (size_c x y he hm _).mono ?_
    rintro e w' ⟨rfl, hb⟩
    go_wp2
    go_ret
    exact ⟨rfl, hb⟩
end Go.Proofs.Ytjjbiepmfngipaa
