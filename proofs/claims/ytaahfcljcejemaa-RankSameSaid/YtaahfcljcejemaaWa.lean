/-
  The walk of BitsTells.
-/
import Derived.Test.YtaahfcljcejemaaBl
import Derived.Test.YtaahfcljcejemaaFf
namespace Go.Proofs.Ytaahfcljcejemaa
open Go.RowKit
open Fl
set_option maxRecDepth 100000

theorem f64_lt {b : Nat} (h : (Lit.float .f64 b).wf = true) : b < 18446744073709551616 := by simpa [Lit.wf] using h
theorem u64_nat {n : Int} (h : (Lit.int .u64 n).wf = true) : ∃ u : Nat, n = (u : Int) ∧ u < 18446744073709551616 := by
  have h1 : IntKind.u64.min ≤ n ∧ n ≤ IntKind.u64.max := by simpa [Lit.wf] using h
  have e1 : IntKind.u64.min = 0 := by decide
  have e2 : IntKind.u64.max = 18446744073709551615 := by decide
  rw [e1, e2] at h1
  exact ⟨n.toNat, by omega, by omega⟩

theorem cb_fl (u : Nat) : cb (fl u) = cb u := by
  cases h : nn u
  · have : fl u = u := by unfold fl; rw [h]; rfl
    rw [this]
  · simp only [cb, h, nn_fl h, if_true]
theorem cb_RF {u y : Nat} (h : RF u y) : cb y = cb u := by
  obtain ⟨_, h1, h2⟩ := h
  cases hn : nn u
  · rw [h1 hn]
  · simp only [cb, hn, h2 hn, if_true]

namespace bitsTells
set_option maxHeartbeats 1000000 in
theorem walk (f g : Nat) (n : Int) (wf : (Lit.float .f64 f).wf = true) (wg : (Lit.float .f64 g).wf = true) (wn : (Lit.int .u64 n).wf = true) (w : World) :
    Calls Try.prog 3 #[.float .f64 f, .float .f64 g, .int .u64 n] w fun e w' => e = .returned (.bool true) ∧ Below w.heap.size w w' := by
  have hf := f64_lt wf
  have hg := f64_lt wg
  obtain ⟨u, rfl, hu⟩ := u64_nat wn
  have hfl := fl_lt u hu
  clear wf wg wn
  go_enter Try.func3, Try.ntmps3
  go_wp2_with fail
  refine (float_c u hu _).mono ?_
  rintro e w1 ⟨rfl, hb1⟩
  go_wp2_with fail
  refine (rFloat_c u hu _).mono ?_
  rintro e w2 ⟨y, rfl, hy, hb2⟩
  have hyl := hy.1
  have hcc : ((cb (fl u) : Int) == (cb y : Int)) = true := by rw [cb_fl, cb_RF hy]; simp
  go_wp2_with fail
  refine (bits_c f hf _).mono ?_
  rintro e w3 ⟨rfl, hb3⟩
  go_wp2_with fail
  refine (rBits_c f hf _).mono ?_
  rintro e wz ⟨rfl, rfl⟩
  go_wp2_with fail
  refine (rBits_c (fl u) hfl _).mono ?_
  rintro e wz ⟨rfl, rfl⟩
  go_wp2_with fail
  refine (rBits_c y hyl _).mono ?_
  rintro e wz ⟨rfl, rfl⟩
  go_wp2_with fail
  refine (canon_c u hu _).mono ?_
  rintro e wz ⟨rfl, rfl⟩
  go_wp2_with fail
  refine (rCanon_c u hu _).mono ?_
  rintro e wz ⟨rfl, rfl⟩
  go_wp2_with fail
  refine (kind_c f hf _).mono ?_
  rintro e wz ⟨rfl, rfl⟩
  go_wp2_with fail
  refine (rKind_c f hf _).mono ?_
  rintro e wz ⟨rfl, rfl⟩
  go_wp2_with fail
  refine (minus_c f hf _).mono ?_
  rintro e wz ⟨rfl, rfl⟩
  go_wp2_with fail
  refine (rMinus_c f hf _).mono ?_
  rintro e wz ⟨rfl, rfl⟩
  go_wp2_with fail
  refine (same_c f g hf hg _).mono ?_
  rintro e w4 ⟨rfl, hb4⟩
  go_wp2_with fail
  refine (rSame_c f g hf hg _).mono ?_
  rintro e wz ⟨rfl, rfl⟩
  go_wp2_with fail
  refine (live_c _).mono ?_
  rintro e w5 ⟨rfl, hb5⟩
  go_wp2
  go_ret
  have c2 := hb1.trans (hb2.mono hb1.size)
  have c3 := c2.trans (hb3.mono c2.size)
  have c4 := c3.trans (hb4.mono c3.size)
  exact ⟨rfl, c4.trans (hb5.mono c4.size)⟩
end bitsTells
end Go.Proofs.Ytaahfcljcejemaa
