/-
  'live' of layer 2's statements.
-/
import Derived.Test.YtaahfcljcejemaaBs
namespace Go.Proofs.Ytaahfcljcejemaa
open Go.RowKit
open Fl
set_option maxRecDepth 100000

theorem ky_nan {N : Nat} (h : nn N = true) : ky N = 18444492273895866368 := by
  have h1 := cb_nan h
  unfold ky; rw [h1]; rfl

theorem unkey_i (n : Int) (h0 : 0 ≤ n) (h1 : n < 18446744073709551616) (w : World) :
    Calls Try.prog 28 #[.int .u64 n] w fun e w' => e = .returned (.tuple #[.float .f64 (uw n.toNat), .bool (cn (uk n.toNat))]) ∧ Below w.heap.size w w' := by
  obtain ⟨u, rfl⟩ := Int.eq_ofNat_of_zero_le h0
  exact unkey_c u (by omega) w

theorem build_t2 (a b : Int) (w : World) : (Instr.build 43 #[(0, .int .i64 a), (1, .int .i64 b)]).run Try.prog w = .ok (.agg #[.int .i64 a, .int .i64 b]) w := run_build w 43 _ _ (by kernel_rfl)
theorem build_t1 (a : Int) (w : World) : (Instr.build 43 #[(0, .int .i64 a)]).run Try.prog w = .ok (.agg #[.int .i64 a, .int .i64 0]) w := run_build w 43 _ _ (by kernel_rfl)
theorem build_r1 (a : Int) (w : World) : (Instr.build 41 #[(0, .int .i64 a)]).run Try.prog w = .ok (.agg #[.int .i64 a, .int .i64 0, .string ByteArray.empty, .float .f64 0]) w := run_build w 41 _ _ (by kernel_rfl)
theorem build_r2 (a : Int) (x : Nat) (w : World) : (Instr.build 41 #[(0, .int .i64 a), (3, .float .f64 x)]).run Try.prog w = .ok (.agg #[.int .i64 a, .int .i64 0, .string ByteArray.empty, .float .f64 x]) w := run_build w 41 _ _ (by kernel_rfl)

set_option maxHeartbeats 4000000 in
theorem live2_c (w : World) :
    Calls Try.prog 36 #[] w fun e w' => e = .returned (.bool true) ∧ Below w.heap.size w w' := by
  have hd := fun wx => run_float_none Try.prog wx .quo 22 0 0 (.inl rfl) (by decide)
  have hneg : Op.negFloat .f64 0 = 9223372036854775808 := by decide
  have hz : (FloatKind.f64.format.order 4607182418800017408 4607182418800017408 == some Ordering.eq) = true := by decide
  have hh : (FloatKind.f64.format.order 4609434218613702656 4609434218613702656 == some Ordering.eq) = true := by decide
  have bt2 := build_t2
  have bt1 := build_t1
  have br1 := build_r1
  have br2 := build_r2
  go_enter Try.func36, Try.ntmps36
  go_wp2_with fail
  refine (unkey_i _ (by omega) (by omega) _).mono ?_
  rintro e w1 ⟨rfl, hb1⟩
  rw [show uw (Int.toNat 13830554455654793216) = 4607182418800017408 from by decide]
  rw [show cn (uk (Int.toNat 13830554455654793216)) = true from by decide]
  have hN := nanW_nn 0 0 w
  generalize nanW 0 0 w = N at *
  obtain ⟨hN1, hN2⟩ := hN
  go_wp2_with fail
  refine (unkey_i _ (by omega) (by omega) _).mono ?_
  rintro e w2 ⟨rfl, hb2⟩
  rw [show uw (Int.toNat 18446744073709551615) = 0 from by decide]
  rw [show cn (uk (Int.toNat 18446744073709551615)) = false from by decide]
  go_wp2_with fail
  refine (between_c _ _ (by omega) (by omega) _).mono ?_
  rintro e w3 ⟨rfl, hb3⟩
  rw [show bw 4607182418800017408 4611686018427387904 = 4609434218613702656 from by decide]
  rw [show bo 4607182418800017408 4611686018427387904 = true from by decide]
  go_wp2_with fail
  refine (between_c _ _ (by omega) (by omega) _).mono ?_
  rintro e w4 ⟨rfl, hb4⟩
  rw [show bw 4607182418800017408 4607182418800017408 = 0 from by decide]
  rw [show bo 4607182418800017408 4607182418800017408 = false from by decide]
  go_wp2_with fail
  refine (key_c _ (by omega) _).mono ?_
  rintro e w5 ⟨rfl, hb5⟩
  rw [show ky 4607182418800017408 = 13830554455654793216 from by decide]
  go_wp2_with fail
  refine (key_c _ (by omega) _).mono ?_
  rintro e w6 ⟨rfl, hb6⟩
  rw [show ky 13830554455654793216 = 4616189618054758399 from by decide]
  go_wp2_with fail
  refine (compare_c _ _ (by omega) (by omega) _).mono ?_
  rintro e w7 ⟨rfl, hb7⟩
  rw [show cm (ky 9223372036854775808) (ky 0) = -1 from by decide]
  go_wp2_with fail
  refine (compare_c _ _ hN2 (by omega) _).mono ?_
  rintro e w8 ⟨rfl, hb8⟩
  rw [ky_nan hN1, show cm 18444492273895866368 (ky 4607182418800017408) = 1 from by decide]
  go_wp2_with fail
  refine (compare_c _ _ hN2 hN2 _).mono ?_
  rintro e w9 ⟨rfl, hb9⟩
  rw [ky_nan hN1, show cm 18444492273895866368 18444492273895866368 = 0 from by decide]
  go_wp2_with fail
  refine (before_c _ _ _ _ _).mono ?_
  rintro e w10 ⟨rfl, hb10⟩
  rw [show decide (fr (ci 1 2) (ci 9 0) < 0) = true from by decide]
  go_wp2_with fail
  refine (before_c _ _ _ _ _).mono ?_
  rintro e w11 ⟨rfl, hb11⟩
  rw [show decide (fr (ci 1 1) (ci 0 0) < 0) = false from by decide]
  go_wp2_with fail
  refine (less_c _ _ _ _ _ _ _ _ (by omega) (by omega) _).mono ?_
  rintro e w12 ⟨rfl, hb12⟩
  rw [show decide (fr (cm (ky 0) (ky 0)) (ci 1 2) < 0) = true from by decide]
  go_wp2_with fail
  refine (less_c _ _ _ _ _ _ _ _ (by omega) (by omega) _).mono ?_
  rintro e w13 ⟨rfl, hb13⟩
  rw [show decide (fr (cm (ky 13830554455654793216) (ky 0)) (ci 3 2) < 0) = true from by decide]
  go_wp2
  go_ret
  have c0 : Below w.heap.size w w.drew := (Below.refl _ _).drew
  have c1 := c0.trans (hb1.mono c0.size)
  have c2 := c1.trans (hb2.mono c1.size)
  have c3 := c2.trans (hb3.mono c2.size)
  have c4 := c3.trans (hb4.mono c3.size)
  have c5 := c4.trans (hb5.mono c4.size)
  have c6 := c5.trans (hb6.mono c5.size)
  have c7 := c6.trans (hb7.mono c6.size)
  have c8 := c7.trans (hb8.mono c7.size)
  have c9 := c8.trans (hb9.mono c8.size)
  have c10 := c9.trans (hb10.mono c9.size)
  have c11 := c10.trans (hb11.mono c10.size)
  have c12 := c11.trans (hb12.mono c11.size)
  have c13 := c12.trans (hb13.mono c12.size)
  exact ⟨rfl, c13⟩
end Go.Proofs.Ytaahfcljcejemaa
