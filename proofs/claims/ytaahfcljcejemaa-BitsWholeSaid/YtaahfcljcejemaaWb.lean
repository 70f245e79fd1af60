/-
  The walk of BitsBack.
-/
import Derived.Test.YtaahfcljcejemaaWa
namespace Go.Proofs.Ytaahfcljcejemaa
open Go.RowKit
open Fl
set_option maxRecDepth 100000

namespace bitsBack
set_option maxHeartbeats 2000000 in
theorem walk (f : Nat) (n : Int) (wf : (Lit.float .f64 f).wf = true) (wn : (Lit.int .u64 n).wf = true) (w : World) :
    Calls Try.prog 4 #[.float .f64 f, .int .u64 n] w fun e w' => e = .returned (.bool true) ∧ Below w.heap.size w w' := by
  have hf := f64_lt wf
  obtain ⟨u, rfl, hu⟩ := u64_nat wn
  have hfl := fl_lt u hu
  have hcb := cb_lt f hf
  have hfcb := fl_lt (cb f) hcb
  have hcn := cn_cb hf
  have hs1 := o_self' (fl (cb f)) hfcb
  rw [nn_fl_cb] at hs1
  have hs2 := o_self' f hf
  have hs3 := o_self f hf
  clear wf wn
  have hu1 : (cn u = true ∧ ((cb (fl u) : Int) != (u : Int)) = false) ∨ (cn u = false ∧ ((cb (fl u) : Int) != 9221120237041090560) = false) := by
    cases h : cn u
    · exact .inr ⟨rfl, by rw [cb_fl_no hu h]; rfl⟩
    · exact .inl ⟨rfl, by rw [cb_fl_cn hu h]; simp⟩
  have hf1 : nn f = true ∨ (nn f = false ∧ fl (cb f) = f ∧ (FloatKind.f64.format.order f 0 != some Ordering.eq) = true) ∨ f = 0 ∨ f = 9223372036854775808 := by
    cases h : nn f
    · right
      by_cases h0 : mg f = 0
      · right
        rcases nought_of f hf h0 with ⟨_, h1⟩ | ⟨_, h1⟩
        · exact .inr h1
        · exact .inl h1
      · left
        refine ⟨rfl, by rw [cb_num h, fl_num h], ?_⟩
        unfold bne
        rw [o_zero f hf h, decide_eq_false h0]; rfl
    · exact .inl rfl
  rcases hf1 with hn | ⟨hn, hfe, hz⟩ | rfl | rfl
  case inl =>
    rw [hn] at hs1 hs2 hs3
    rcases hu1 with ⟨hc, hv⟩ | ⟨hc, hv⟩
    all_goals
      go_enter Try.func4, Try.ntmps4
      go_wp2_with fail
      refine (float_c u hu _).mono ?_
      rintro e w1 ⟨rfl, hb1⟩
      go_wp2_with fail
      refine (bits_c (fl u) hfl _).mono ?_
      rintro e w2 ⟨rfl, hb2⟩
      go_wp2_with fail
      refine (canon_c u hu _).mono ?_
      rintro e wz ⟨rfl, rfl⟩
      rw [hc]
      go_wp2_with fail
      try (refine (canon_c u hu _).mono ?_; rintro e wz ⟨rfl, rfl⟩; rw [hc]; go_wp2_with fail)
      refine (bits_c f hf _).mono ?_
      rintro e w3 ⟨rfl, hb3⟩
      go_wp2_with fail
      refine (float_c (cb f) hcb _).mono ?_
      rintro e w4 ⟨rfl, hb4⟩
      go_wp2_with fail
      refine (canon_c (cb f) hcb _).mono ?_
      rintro e wz ⟨rfl, rfl⟩
      rw [hcn]
      go_wp2_with fail
      refine (live_c _).mono ?_
      rintro e w5 ⟨rfl, hb5⟩
      go_wp2
      go_ret
      have c2 := hb1.trans (hb2.mono hb1.size)
      have c3 := c2.trans (hb3.mono c2.size)
      have c4 := c3.trans (hb4.mono c3.size)
      exact ⟨rfl, c4.trans (hb5.mono c4.size)⟩
  case inr.inl =>
    rw [hfe] at hs1
    rw [hn] at hs1 hs2 hs3
    have HF := Lib.hid hfe
    clear hs1 hfe
    rcases hu1 with ⟨hc, hv⟩ | ⟨hc, hv⟩
    all_goals
      go_enter Try.func4, Try.ntmps4
      go_wp2_with fail
      refine (float_c u hu _).mono ?_
      rintro e w1 ⟨rfl, hb1⟩
      go_wp2_with fail
      refine (bits_c (fl u) hfl _).mono ?_
      rintro e w2 ⟨rfl, hb2⟩
      go_wp2_with fail
      refine (canon_c u hu _).mono ?_
      rintro e wz ⟨rfl, rfl⟩
      rw [hc]
      go_wp2_with fail
      try (refine (canon_c u hu _).mono ?_; rintro e wz ⟨rfl, rfl⟩; rw [hc]; go_wp2_with fail)
      refine (bits_c f hf _).mono ?_
      rintro e w3 ⟨rfl, hb3⟩
      go_wp2_with fail
      refine (float_c (cb f) hcb _).mono ?_
      rintro e w4 ⟨rfl, hb4⟩
      rw [HF.out]
      go_wp2_with fail
      refine (canon_c (cb f) hcb _).mono ?_
      rintro e wz ⟨rfl, rfl⟩
      rw [hcn]
      go_wp2_with fail
      refine (live_c _).mono ?_
      rintro e w5 ⟨rfl, hb5⟩
      go_wp2
      go_ret
      have c2 := hb1.trans (hb2.mono hb1.size)
      have c3 := c2.trans (hb3.mono c2.size)
      have c4 := c3.trans (hb4.mono c3.size)
      exact ⟨rfl, c4.trans (hb5.mono c4.size)⟩
  case inr.inr.inl =>
    have hfe : fl (cb 0) = 0 := by decide
    have hz1 : (FloatKind.f64.format.order 0 0 == some Ordering.eq) = true := by decide
    have hz2 : (FloatKind.f64.format.order 0 0 != some Ordering.eq) = false := by decide
    have hz3 : (FloatKind.f64.format.order 0 0 != some Ordering.eq) = false := by decide
    have hz4 := fun wx => run_float_arith (P := Try.prog) wx .quo 22 .f64 _ _ _ inv_pos
    have hz5 : (FloatKind.f64.format.order 9218868437227405312 9218868437227405312 == some Ordering.eq) = true := by decide
    clear hs1 hs2 hs3
    have HF := Lib.hid hfe
    clear hfe
    rcases hu1 with ⟨hc, hv⟩ | ⟨hc, hv⟩
    all_goals
      go_enter Try.func4, Try.ntmps4
      go_wp2_with fail
      refine (float_c u hu _).mono ?_
      rintro e w1 ⟨rfl, hb1⟩
      go_wp2_with fail
      refine (bits_c (fl u) hfl _).mono ?_
      rintro e w2 ⟨rfl, hb2⟩
      go_wp2_with fail
      refine (canon_c u hu _).mono ?_
      rintro e wz ⟨rfl, rfl⟩
      rw [hc]
      go_wp2_with fail
      try (refine (canon_c u hu _).mono ?_; rintro e wz ⟨rfl, rfl⟩; rw [hc]; go_wp2_with fail)
      refine (bits_c 0 hf _).mono ?_
      rintro e w3 ⟨rfl, hb3⟩
      go_wp2_with fail
      refine (float_c (cb 0) hcb _).mono ?_
      rintro e w4 ⟨rfl, hb4⟩
      rw [HF.out]
      go_wp2_with fail
      refine (canon_c (cb 0) hcb _).mono ?_
      rintro e wz ⟨rfl, rfl⟩
      rw [hcn]
      go_wp2_with fail
      refine (live_c _).mono ?_
      rintro e w5 ⟨rfl, hb5⟩
      go_wp2
      go_ret
      have c2 := hb1.trans (hb2.mono hb1.size)
      have c3 := c2.trans (hb3.mono c2.size)
      have c4 := c3.trans (hb4.mono c3.size)
      exact ⟨rfl, c4.trans (hb5.mono c4.size)⟩
  case inr.inr.inr =>
    have hfe : fl (cb 9223372036854775808) = 9223372036854775808 := by decide
    have hz1 : (FloatKind.f64.format.order 9223372036854775808 9223372036854775808 == some Ordering.eq) = true := by decide
    have hz2 : (FloatKind.f64.format.order 9223372036854775808 9223372036854775808 != some Ordering.eq) = false := by decide
    have hz3 : (FloatKind.f64.format.order 9223372036854775808 0 != some Ordering.eq) = false := by decide
    have hz4 := fun wx => run_float_arith (P := Try.prog) wx .quo 22 .f64 _ _ _ inv_neg
    have hz5 : (FloatKind.f64.format.order 18442240474082181120 18442240474082181120 == some Ordering.eq) = true := by decide
    clear hs1 hs2 hs3
    have HF := Lib.hid hfe
    clear hfe
    rcases hu1 with ⟨hc, hv⟩ | ⟨hc, hv⟩
    all_goals
      go_enter Try.func4, Try.ntmps4
      go_wp2_with fail
      refine (float_c u hu _).mono ?_
      rintro e w1 ⟨rfl, hb1⟩
      go_wp2_with fail
      refine (bits_c (fl u) hfl _).mono ?_
      rintro e w2 ⟨rfl, hb2⟩
      go_wp2_with fail
      refine (canon_c u hu _).mono ?_
      rintro e wz ⟨rfl, rfl⟩
      rw [hc]
      go_wp2_with fail
      try (refine (canon_c u hu _).mono ?_; rintro e wz ⟨rfl, rfl⟩; rw [hc]; go_wp2_with fail)
      refine (bits_c 9223372036854775808 hf _).mono ?_
      rintro e w3 ⟨rfl, hb3⟩
      go_wp2_with fail
      refine (float_c (cb 9223372036854775808) hcb _).mono ?_
      rintro e w4 ⟨rfl, hb4⟩
      rw [HF.out]
      go_wp2_with fail
      refine (canon_c (cb 9223372036854775808) hcb _).mono ?_
      rintro e wz ⟨rfl, rfl⟩
      rw [hcn]
      go_wp2_with fail
      refine (live_c _).mono ?_
      rintro e w5 ⟨rfl, hb5⟩
      go_wp2
      go_ret
      have c2 := hb1.trans (hb2.mono hb1.size)
      have c3 := c2.trans (hb3.mono c2.size)
      have c4 := c3.trans (hb4.mono c3.size)
      exact ⟨rfl, c4.trans (hb5.mono c4.size)⟩
end bitsBack
end Go.Proofs.Ytaahfcljcejemaa
