/-
  Contracts of package rank's Between and of the document's.
-/
import Derived.Test.YtaahfcljcejemaaBn
namespace Go.Proofs.Ytaahfcljcejemaa
open Go.RowKit
open Fl
set_option maxRecDepth 100000

theorem far_iff (a b : Nat) : far a b = true ↔ 2 ≤ max a b - min a b := by unfold far; simp
theorem far_iff' (a b : Nat) : far a b = false ↔ max a b - min a b < 2 := by unfold far; simp

theorem between_no (a b : Nat) (ha : a < 18446744073709551616) (hb : b < 18446744073709551616) (hf : far (ky a) (ky b) = false) (w : World) :
    Calls Try.prog 30 #[.float .f64 a, .float .f64 b] w fun e w' => e = .returned (.tuple #[.float .f64 0, .bool false]) ∧ Below w.heap.size w w' := by
  have hka := ky_lt a
  have hkb := ky_lt b
  have hf' := (far_iff' _ _).1 hf
  by_cases hs : ky b < ky a
  · have h1 : (ky a : Int) - (ky b : Int) < 2 := by omega
    clear hf hf'
    go_enter Try.func30, Try.ntmps30
    go_wp2_with fail
    refine (key_c a ha _).mono ?_
    rintro e w1 ⟨rfl, hb1⟩
    go_wp2_with fail
    refine (key_c b hb _).mono ?_
    rintro e w2 ⟨rfl, hb2⟩
    go_wp2
    go_ret2
    exact ⟨rfl, hb1.trans (hb2.mono hb1.size)⟩
  · have h1 : (ky b : Int) - (ky a : Int) < 2 := by omega
    clear hf hf'
    go_enter Try.func30, Try.ntmps30
    go_wp2_with fail
    refine (key_c a ha _).mono ?_
    rintro e w1 ⟨rfl, hb1⟩
    go_wp2_with fail
    refine (key_c b hb _).mono ?_
    rintro e w2 ⟨rfl, hb2⟩
    go_wp2
    go_ret2
    exact ⟨rfl, hb1.trans (hb2.mono hb1.size)⟩

theorem between_yes (a b : Nat) (ha : a < 18446744073709551616) (hb : b < 18446744073709551616) (hf : far (ky a) (ky b) = true) (w : World) :
    Calls Try.prog 30 #[.float .f64 a, .float .f64 b] w fun e w' => e = .returned (.tuple #[.float .f64 (uw (md (ky a) (ky b))), .bool (cn (uk (md (ky a) (ky b))))]) ∧ Below w.heap.size w w' := by
  have hka := ky_lt a
  have hkb := ky_lt b
  have hm := md_lt hka hkb
  have hf' := (far_iff _ _).1 hf
  by_cases hs : ky b < ky a
  · have h1 : 2 ≤ (ky a : Int) - (ky b : Int) := by omega
    have hz : (ky b : Int) + ((ky a : Int) - (ky b : Int)) / 2 = ((md (ky a) (ky b) : Nat) : Int) := by unfold md; omega
    have HZ := Lib.hid hz
    clear hf hf' hz
    go_enter Try.func30, Try.ntmps30
    go_wp2_with fail
    refine (key_c a ha _).mono ?_
    rintro e w1 ⟨rfl, hb1⟩
    go_wp2_with fail
    refine (key_c b hb _).mono ?_
    rintro e w2 ⟨rfl, hb2⟩
    go_wp2_with fail
    rw [HZ.out]
    refine (unkey_c _ hm _).mono ?_
    rintro e w3 ⟨rfl, hb3⟩
    go_wp2
    go_ret2
    have c2 := hb1.trans (hb2.mono hb1.size)
    exact ⟨rfl, c2.trans (hb3.mono c2.size)⟩
  · have h1 : 2 ≤ (ky b : Int) - (ky a : Int) := by omega
    have hz : (ky a : Int) + ((ky b : Int) - (ky a : Int)) / 2 = ((md (ky a) (ky b) : Nat) : Int) := by unfold md; omega
    have HZ := Lib.hid hz
    clear hf hf' hz
    go_enter Try.func30, Try.ntmps30
    go_wp2_with fail
    refine (key_c a ha _).mono ?_
    rintro e w1 ⟨rfl, hb1⟩
    go_wp2_with fail
    refine (key_c b hb _).mono ?_
    rintro e w2 ⟨rfl, hb2⟩
    go_wp2_with fail
    rw [HZ.out]
    refine (unkey_c _ hm _).mono ?_
    rintro e w3 ⟨rfl, hb3⟩
    go_wp2
    go_ret2
    have c2 := hb1.trans (hb2.mono hb1.size)
    exact ⟨rfl, c2.trans (hb3.mono c2.size)⟩

/-- the word that Between gives, and whether there is one -/
def bw (a b : Nat) : Nat := if far (ky a) (ky b) then uw (md (ky a) (ky b)) else 0
def bo (a b : Nat) : Bool := far (ky a) (ky b) && cn (uk (md (ky a) (ky b)))

theorem between_c (a b : Nat) (ha : a < 18446744073709551616) (hb : b < 18446744073709551616) (w : World) :
    Calls Try.prog 30 #[.float .f64 a, .float .f64 b] w fun e w' => e = .returned (.tuple #[.float .f64 (bw a b), .bool (bo a b)]) ∧ Below w.heap.size w w' := by
  cases hf : far (ky a) (ky b)
  · have e1 : bw a b = 0 := by unfold bw; rw [hf]; rfl
    have e2 : bo a b = false := by unfold bo; rw [hf]; rfl
    rw [e1, e2]; exact between_no a b ha hb hf w
  · have e1 : bw a b = uw (md (ky a) (ky b)) := by unfold bw; rw [hf]; rfl
    have e2 : bo a b = cn (uk (md (ky a) (ky b))) := by unfold bo; rw [hf]; rfl
    rw [e1, e2]; exact between_yes a b ha hb hf w

theorem rBetween_no (a b : Nat) (ha : a < 18446744073709551616) (hb : b < 18446744073709551616) (hf : far (ky a) (ky b) = false) (w : World) :
    Calls Try.prog 31 #[.float .f64 a, .float .f64 b] w fun e w' => e = .returned (.tuple #[.float .f64 0, .bool false]) ∧ w = w' := by
  have hka := ky_lt a
  have hkb := ky_lt b
  have hf' := (far_iff' _ _).1 hf
  by_cases hs : ky b < ky a
  · have h1 : (ky a : Int) - (ky b : Int) < 2 := by omega
    clear hf hf'
    go_enter Try.func31, Try.ntmps31
    go_wp2_with fail
    refine (rKey_c a ha _).mono ?_
    rintro e w1 ⟨rfl, rfl⟩
    go_wp2_with fail
    refine (rKey_c b hb _).mono ?_
    rintro e w1 ⟨rfl, rfl⟩
    go_wp2_with fail
    refine (rKey_c a ha _).mono ?_
    rintro e w1 ⟨rfl, rfl⟩
    go_wp2_with fail
    refine (rKey_c b hb _).mono ?_
    rintro e w1 ⟨rfl, rfl⟩
    go_wp2
    go_ret2
    exact ⟨rfl, rfl⟩
  · have h1 : (ky b : Int) - (ky a : Int) < 2 := by omega
    by_cases hs2 : ky a < ky b
    · clear hf hf' hs
      go_enter Try.func31, Try.ntmps31
      go_wp2_with fail
      refine (rKey_c a ha _).mono ?_
      rintro e w1 ⟨rfl, rfl⟩
      go_wp2_with fail
      refine (rKey_c b hb _).mono ?_
      rintro e w1 ⟨rfl, rfl⟩
      go_wp2_with fail
      refine (rKey_c a ha _).mono ?_
      rintro e w1 ⟨rfl, rfl⟩
      go_wp2_with fail
      refine (rKey_c b hb _).mono ?_
      rintro e w1 ⟨rfl, rfl⟩
      go_wp2
      go_ret2
      exact ⟨rfl, rfl⟩
    · have g1 : ky a ≤ ky b := by omega
      have g2 : ky b ≤ ky a := by omega
      clear hf hf' h1 hs hs2
      go_enter Try.func31, Try.ntmps31
      go_wp2_with fail
      refine (rKey_c a ha _).mono ?_
      rintro e w1 ⟨rfl, rfl⟩
      go_wp2_with fail
      refine (rKey_c b hb _).mono ?_
      rintro e w1 ⟨rfl, rfl⟩
      go_wp2_with fail
      refine (rKey_c a ha _).mono ?_
      rintro e w1 ⟨rfl, rfl⟩
      go_wp2_with fail
      refine (rKey_c b hb _).mono ?_
      rintro e w1 ⟨rfl, rfl⟩
      go_wp2
      go_ret2
      exact ⟨rfl, rfl⟩

theorem rBetween_yes (a b : Nat) (ha : a < 18446744073709551616) (hb : b < 18446744073709551616) (hf : far (ky a) (ky b) = true) (w : World) :
    Calls Try.prog 31 #[.float .f64 a, .float .f64 b] w fun e w' => ∃ y, RF (uk (md (ky a) (ky b))) y ∧ e = .returned (.tuple #[.float .f64 (rw' (md (ky a) (ky b)) y), .bool (cn (uk (md (ky a) (ky b))))]) ∧ Below w.heap.size w w' := by
  have hka := ky_lt a
  have hkb := ky_lt b
  have hm := md_lt hka hkb
  have hf' := (far_iff _ _).1 hf
  by_cases hs : ky b < ky a
  · have h1 : 2 ≤ (ky a : Int) - (ky b : Int) := by omega
    have hz : (ky b : Int) + ((ky a : Int) - (ky b : Int)) / 2 = ((md (ky a) (ky b) : Nat) : Int) := by unfold md; omega
    have HZ := Lib.hid hz
    clear hf hf' hz
    go_enter Try.func31, Try.ntmps31
    go_wp2_with fail
    refine (rKey_c a ha _).mono ?_
    rintro e w1 ⟨rfl, rfl⟩
    go_wp2_with fail
    refine (rKey_c b hb _).mono ?_
    rintro e w1 ⟨rfl, rfl⟩
    go_wp2_with fail
    refine (rKey_c a ha _).mono ?_
    rintro e w1 ⟨rfl, rfl⟩
    go_wp2_with fail
    refine (rKey_c b hb _).mono ?_
    rintro e w1 ⟨rfl, rfl⟩
    go_wp2_with fail
    rw [HZ.out]
    refine (rUnkey_c _ hm _).mono ?_
    rintro e w3 ⟨y, hy, rfl, hb3⟩
    go_wp2
    go_ret2
    exact ⟨y, hy, rfl, hb3⟩
  · have h1 : 2 ≤ (ky b : Int) - (ky a : Int) := by omega
    have hz : (ky a : Int) + ((ky b : Int) - (ky a : Int)) / 2 = ((md (ky a) (ky b) : Nat) : Int) := by unfold md; omega
    have HZ := Lib.hid hz
    clear hf hf' hz
    go_enter Try.func31, Try.ntmps31
    go_wp2_with fail
    refine (rKey_c a ha _).mono ?_
    rintro e w1 ⟨rfl, rfl⟩
    go_wp2_with fail
    refine (rKey_c b hb _).mono ?_
    rintro e w1 ⟨rfl, rfl⟩
    go_wp2_with fail
    refine (rKey_c a ha _).mono ?_
    rintro e w1 ⟨rfl, rfl⟩
    go_wp2_with fail
    refine (rKey_c b hb _).mono ?_
    rintro e w1 ⟨rfl, rfl⟩
    go_wp2_with fail
    rw [HZ.out]
    refine (rUnkey_c _ hm _).mono ?_
    rintro e w3 ⟨y, hy, rfl, hb3⟩
    go_wp2
    go_ret2
    exact ⟨y, hy, rfl, hb3⟩

theorem rBetween_c (a b : Nat) (ha : a < 18446744073709551616) (hb : b < 18446744073709551616) (w : World) :
    Calls Try.prog 31 #[.float .f64 a, .float .f64 b] w fun e w' => ∃ y, e = .returned (.tuple #[.float .f64 y, .bool (bo a b)]) ∧ cb y = cb (bw a b) ∧ y < 18446744073709551616 ∧ Below w.heap.size w w' := by
  cases hf : far (ky a) (ky b)
  · have e1 : bw a b = 0 := by unfold bw; rw [hf]; rfl
    have e2 : bo a b = false := by unfold bo; rw [hf]; rfl
    rw [e1, e2]
    refine (rBetween_no a b ha hb hf w).mono ?_
    rintro e w' ⟨rfl, rfl⟩
    exact ⟨0, rfl, rfl, by omega, Below.refl _ _⟩
  · have e1 : bw a b = uw (md (ky a) (ky b)) := by unfold bw; rw [hf]; rfl
    have e2 : bo a b = cn (uk (md (ky a) (ky b))) := by unfold bo; rw [hf]; rfl
    rw [e1, e2]
    refine (rBetween_yes a b ha hb hf w).mono ?_
    rintro e w' ⟨y, hy, rfl, hb'⟩
    refine ⟨_, rfl, ?_, ?_, hb'⟩
    · unfold uw rw'
      cases hc : cn (uk (md (ky a) (ky b)))
      · rfl
      · simp only [if_true]
        rw [cb_rf2 hy]
        have hu := uk_lt _ (md_lt (ky_lt a) (ky_lt b))
        rw [cb_fl_cn hu hc]
        rcases (cn_iff _ hu).1 hc with h4 | h4
        · exact cb_num h4
        · rw [h4]; decide
    · unfold rw'
      split
      · exact hy.1
      · omega
end Go.Proofs.Ytaahfcljcejemaa
