/-
  Contract of the document's answer for layer 1: Float in all; contracts at whatever integer; and 'live' of layer 1's statements.
-/
import Derived.Test.YtaahfcljcejemaaBk
import Derived.Test.YtaahfcljcejemaaFf
namespace Go.Proofs.Ytaahfcljcejemaa
open Go.RowKit
open Fl
set_option maxRecDepth 100000

/-- what the document's Float gives for u -/
def RF (u y : Nat) : Prop := y < 18446744073709551616 ∧ (nn u = false → y = u) ∧ (nn u = true → nn y = true)

theorem rFloat_c (u : Nat) (hu : u < 18446744073709551616) (w : World) :
    Calls Try.prog 16 #[.int .u64 (u : Int)] w fun e w' => ∃ y, e = .returned (.float .f64 y) ∧ RF u y ∧ Below w.heap.size w w' := by
  by_cases h1 : u / 4503599627370496 % 2048 = 2047
  · by_cases h2 : u % 4503599627370496 = 0
    · refine (rFloat_inf u hu (by omega) (by omega) w).mono ?_
      rintro e w' ⟨rfl, rfl⟩
      refine ⟨u, rfl, ⟨hu, fun _ => rfl, fun h => ?_⟩, Below.refl _ _⟩
      unfold nn at h
      have := of_decide_eq_true h
      omega
    · refine (rFloat_nan u (u % 4503599627370496) (by omega) (by omega) (by omega) w).mono ?_
      rintro e w' ⟨rfl, rfl⟩
      have hn := nanW_nn 0 0 w
      refine ⟨_, rfl, ⟨hn.2, fun h => ?_, fun _ => hn.1⟩, (Below.refl _ _).drew⟩
      unfold nn at h
      have := of_decide_eq_false h
      omega
  · have hn : nn u = false := by unfold nn; exact decide_eq_false (by omega)
    by_cases h0 : u / 4503599627370496 % 2048 = 0
    · refine (rFloat_tiny u (u % 4503599627370496) hu (by omega) (by omega) (by omega) w).mono ?_
      rintro e w' ⟨rfl, rfl⟩
      exact ⟨u, rfl, ⟨hu, fun _ => rfl, fun h => absurd (h.symm.trans hn) (by simp)⟩, Below.refl _ _⟩
    · refine (rFloat_plain u (u / 4503599627370496 % 2048) (u % 4503599627370496) hu (by omega) (by omega) (by omega) (by omega) (by omega) w).mono ?_
      rintro e w' ⟨rfl, rfl⟩
      exact ⟨u, rfl, ⟨hu, fun _ => rfl, fun h => absurd (h.symm.trans hn) (by simp)⟩, Below.refl _ _⟩

theorem float_i (n : Int) (h0 : 0 ≤ n) (h1 : n < 18446744073709551616) (w : World) :
    Calls Try.prog 15 #[.int .u64 n] w fun e w' => e = .returned (.float .f64 (fl n.toNat)) ∧ Below w.heap.size w w' := by
  obtain ⟨u, rfl⟩ := Int.eq_ofNat_of_zero_le h0
  exact float_c u (by omega) w
theorem canon_i (n : Int) (h0 : 0 ≤ n) (h1 : n < 18446744073709551616) (w : World) :
    Calls Try.prog 19 #[.int .u64 n] w fun e w' => e = .returned (.bool (cn n.toNat)) ∧ w = w' := by
  obtain ⟨u, rfl⟩ := Int.eq_ofNat_of_zero_le h0
  exact canon_c u (by omega) w

theorem kd_nan {N : Nat} (h : nn N = true) : kd N = 4 := by simp [kd, h]

set_option maxHeartbeats 2000000 in
theorem live_c (w : World) :
    Calls Try.prog 27 #[] w fun e w' => e = .returned (.bool true) ∧ Below w.heap.size w w' := by
  have hd := fun wx => run_float_none Try.prog wx .quo 22 0 0 (.inl rfl) (by decide)
  have hz : (FloatKind.f64.format.order 9223372036854775808 0 == some Ordering.eq) = true := by decide
  have hi := fun wx => run_float_arith (P := Try.prog) wx .quo 22 .f64 _ _ _ inv_neg
  have hl : (FloatKind.f64.format.order 18442240474082181120 0 == some Ordering.lt) = true := by decide
  have hh : (FloatKind.f64.format.order 4602678819172646912 4602678819172646912 == some Ordering.eq) = true := by decide
  have hg : (FloatKind.f64.format.order 1 0 == some Ordering.gt) = true := by decide
  have hq := fun wx => run_float_arith (P := Try.prog) wx .quo 22 .f64 1 4611686018427387904 0 (by decide)
  have h0 : (FloatKind.f64.format.order 0 0 == some Ordering.eq) = true := by decide
  go_enter Try.func27, Try.ntmps27
  go_wp2_with fail
  refine (float_i _ (by omega) (by omega) _).mono ?_
  rintro e w1 ⟨rfl, hb1⟩
  rw [show fl (Int.toNat 9223372036854775808) = 9223372036854775808 from by decide]
  have hN := nanW_nn 0 0 w
  generalize nanW 0 0 w = N at *
  obtain ⟨hN1, hN2⟩ := hN
  go_wp2_with fail
  refine (bits_c _ (by omega) _).mono ?_
  rintro e w2 ⟨rfl, hb2⟩
  rw [show cb 4607182418800017408 = 4607182418800017408 from by decide]
  go_wp2_with fail
  refine (bits_c _ (by omega) _).mono ?_
  rintro e w3 ⟨rfl, hb3⟩
  rw [show cb 13835058055282163712 = 13835058055282163712 from by decide]
  go_wp2_with fail
  refine (bits_c _ (by omega) _).mono ?_
  rintro e w4 ⟨rfl, hb4⟩
  rw [show cb 0 = 0 from by decide]
  go_wp2_with fail
  refine (bits_c N hN2 _).mono ?_
  rintro e w5 ⟨rfl, hb5⟩
  rw [cb_nan hN1]
  go_wp2_with fail
  refine (float_i _ (by omega) (by omega) _).mono ?_
  rintro e w6 ⟨rfl, hb6⟩
  rw [show fl (Int.toNat 4602678819172646912) = 4602678819172646912 from by decide]
  go_wp2_with fail
  refine (float_i _ (by omega) (by omega) _).mono ?_
  rintro e w7 ⟨rfl, hb7⟩
  rw [show fl (Int.toNat 1) = 1 from by decide]
  go_wp2_with fail
  refine (float_i _ (by omega) (by omega) _).mono ?_
  rintro e w8 ⟨rfl, hb8⟩
  rw [show fl (Int.toNat 1) = 1 from by decide]
  go_wp2_with fail
  refine (canon_i _ (by omega) (by omega) _).mono ?_
  rintro e wz ⟨rfl, rfl⟩
  rw [show cn (Int.toNat 5) = true from by decide]
  go_wp2_with fail
  refine (canon_i _ (by omega) (by omega) _).mono ?_
  rintro e wz ⟨rfl, rfl⟩
  rw [show cn (Int.toNat 9218868437227405313) = false from by decide]
  go_wp2_with fail
  refine (kind_c _ (by omega) _).mono ?_
  rintro e wz ⟨rfl, rfl⟩
  rw [show kd 9223372036854775808 = 0 from by decide]
  go_wp2_with fail
  refine (kind_c N hN2 _).mono ?_
  rintro e wz ⟨rfl, rfl⟩
  rw [kd_nan hN1]
  go_wp2_with fail
  refine (kind_c _ (by omega) _).mono ?_
  rintro e wz ⟨rfl, rfl⟩
  rw [show kd 18442240474082181120 = 3 from by decide]
  go_wp2_with fail
  refine (float_i _ (by omega) (by omega) _).mono ?_
  rintro e w14 ⟨rfl, hb14⟩
  rw [show fl (Int.toNat 1) = 1 from by decide]
  go_wp2_with fail
  refine (kind_c _ (by omega) _).mono ?_
  rintro e wz ⟨rfl, rfl⟩
  rw [show kd 1 = 1 from by decide]
  go_wp2_with fail
  refine (kind_c _ (by omega) _).mono ?_
  rintro e wz ⟨rfl, rfl⟩
  rw [show kd 4607182418800017408 = 2 from by decide]
  go_wp2_with fail
  refine (minus_c _ (by omega) _).mono ?_
  rintro e wz ⟨rfl, rfl⟩
  rw [show (!nn 9223372036854775808 && ng 9223372036854775808) = true from by decide]
  go_wp2_with fail
  refine (minus_c _ (by omega) _).mono ?_
  rintro e wz ⟨rfl, rfl⟩
  rw [show (!nn 0 && ng 0) = false from by decide]
  go_wp2_with fail
  refine (same_c N N hN2 hN2 _).mono ?_
  rintro e w19 ⟨rfl, hb19⟩
  rw [show ((cb N : Int) == (cb N : Int)) = true from by simp]
  go_wp2_with fail
  refine (same_c _ _ (by omega) (by omega) _).mono ?_
  rintro e w20 ⟨rfl, hb20⟩
  rw [show (((cb 9223372036854775808 : Nat) : Int) == ((cb 0 : Nat) : Int)) = false from by decide]
  go_wp2
  go_ret
  have hb0 : Below w.heap.size w w.drew := (Below.refl _ _).drew
  have chb1 := hb0.trans (hb1.mono hb0.size)
  have chb2 := chb1.trans (hb2.mono chb1.size)
  have chb3 := chb2.trans (hb3.mono chb2.size)
  have chb4 := chb3.trans (hb4.mono chb3.size)
  have chb5 := chb4.trans (hb5.mono chb4.size)
  have chb6 := chb5.trans (hb6.mono chb5.size)
  have chb7 := chb6.trans (hb7.mono chb6.size)
  have chb8 := chb7.trans (hb8.mono chb7.size)
  have chb14 := chb8.trans (hb14.mono chb8.size)
  have chb19 := chb14.trans (hb19.mono chb14.size)
  have chb20 := chb19.trans (hb20.mono chb19.size)
  exact ⟨rfl, chb20⟩
end Go.Proofs.Ytaahfcljcejemaa
