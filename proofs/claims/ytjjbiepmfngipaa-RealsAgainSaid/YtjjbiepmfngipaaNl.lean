/-
  Contract of the document's answer for layer 1: Float in all; contracts at whatever integer; and 'live' of layer 1's statements.
-/
import Derived.Test.YtjjbiepmfngipaaNk
import Derived.Test.YtjjbiepmfngipaaFf
namespace Go.Proofs.Ytjjbiepmfngipaa
open Go.RowKit
open Fl
set_option maxRecDepth 100000

/-- what the document's Float gives for u -/
def RF (u y : Nat) : Prop := y < 18446744073709551616 ∧ (nn u = false → y = u) ∧ (nn u = true → nn y = true)

theorem rFloat_c (u : Nat) (hu : u < 18446744073709551616) (w : World) :
    Calls Try.prog 51 #[.int .u64 (u : Int)] w fun e w' => ∃ y, e = .returned (.float .f64 y) ∧ RF u y ∧ Below w.heap.size w w' := by
  by_cases h1 : u / 4503599627370496 % 2048 = 2047
  · by_cases h2 : u % 4503599627370496 = 0
    · refine (rFloat_inf u hu (by omega) (by omega) w).mono ?_
      rintro e w' ⟨rfl, rfl⟩
      refine ⟨u, rfl, ⟨hu, fun _ => rfl, fun h => ?_⟩, Below.refl _ _⟩
      unfold nn at h
      have := of_decide_eq_true h
      omega
    · refine (rFloat_nan u (u % 4503599627370496) (by omega) (by omega) (by omega) w).mono ?_
      rintro e w' ⟨rfl, rfl⟩
      have hn := nanW_nn 0 0 w
      refine ⟨_, rfl, ⟨hn.2, fun h => ?_, fun _ => hn.1⟩, (Below.refl _ _).drew⟩
      unfold nn at h
      have := of_decide_eq_false h
      omega
  · have hn : nn u = false := by unfold nn; exact decide_eq_false (by omega)
    by_cases h0 : u / 4503599627370496 % 2048 = 0
    · refine (rFloat_tiny u (u % 4503599627370496) hu (by omega) (by omega) (by omega) w).mono ?_
      rintro e w' ⟨rfl, rfl⟩
      exact ⟨u, rfl, ⟨hu, fun _ => rfl, fun h => absurd (h.symm.trans hn) (by simp)⟩, Below.refl _ _⟩
    · refine (rFloat_plain u (u / 4503599627370496 % 2048) (u % 4503599627370496) hu (by omega) (by omega) (by omega) (by omega) (by omega) w).mono ?_
      rintro e w' ⟨rfl, rfl⟩
      exact ⟨u, rfl, ⟨hu, fun _ => rfl, fun h => absurd (h.symm.trans hn) (by simp)⟩, Below.refl _ _⟩

theorem float_i (n : Int) (h0 : 0 ≤ n) (h1 : n < 18446744073709551616) (w : World) :
    Calls Try.prog 47 #[.int .u64 n] w fun e w' => e = .returned (.float .f64 (fl n.toNat)) ∧ Below w.heap.size w w' := by
  obtain ⟨u, rfl⟩ := Int.eq_ofNat_of_zero_le h0
  exact float_c u (by omega) w
theorem canon_i (n : Int) (h0 : 0 ≤ n) (h1 : n < 18446744073709551616) (w : World) :
    Calls Try.prog 46 #[.int .u64 n] w fun e w' => e = .returned (.bool (cn n.toNat)) ∧ w = w' := by
  obtain ⟨u, rfl⟩ := Int.eq_ofNat_of_zero_le h0
  exact canon_c u (by omega) w

theorem kd_nan {N : Nat} (h : nn N = true) : kd N = 4 := by simp [kd, h]

end Go.Proofs.Ytjjbiepmfngipaa
