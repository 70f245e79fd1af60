/-
  The walk of BitsNext.
-/
import Derived.Test.YtaahfcljcejemaaWc
namespace Go.Proofs.Ytaahfcljcejemaa
open Go.RowKit
open Fl
set_option maxRecDepth 100000

namespace bitsNext
theorem between (a b f : Nat) (ha : a < 18446744073709551616) (hb : b < 18446744073709551616) (hf : f < 18446744073709551616) (na : nn a = false) (nb : nn b = false) (h : vl b ≤ vl a + 1)
    (h1 : (FloatKind.f64.format.order a f == some Ordering.lt) = true) : (FloatKind.f64.format.order f b == some Ordering.lt) = false := by
  cases nf : nn f
  · rw [o_lt a f ha hf na nf] at h1
    have := of_decide_eq_true h1
    rw [o_lt f b hf hb nf nb]
    exact decide_eq_false (by omega)
  · rw [order_nn_left f b hf nf]; rfl

theorem walk_out (u f : Nat) (h : 9218868437227405312 ≤ u % 9223372036854775808) (w : World) :
    Calls Try.prog 6 #[.int .u64 (u : Int), .float .f64 f] w fun e w' => e = .returned (.bool true) ∧ Below w.heap.size w w' := by
  have k0 : decide ((9218868437227405312 : Int) ≤ (u : Int) % 9223372036854775808) = true := decide_eq_true (by omega)
  clear h
  go_enter Try.func6, Try.ntmps6
  go_wp2_with fail
  refine (live_c _).mono ?_
  rintro e w5 ⟨rfl, hb5⟩
  go_wp2
  go_ret
  exact ⟨rfl, hb5⟩

set_option maxHeartbeats 1000000 in
theorem walk_neg (u v f : Nat) (hu : u < 18446744073709551616) (hv : v < 18446744073709551616) (e1 : v ≤ u + 1) (e2 : u + 1 ≤ v) (nu : nn u = false) (nv : nn v = false) (hf : f < 18446744073709551616) (h : u % 9223372036854775808 < 9218868437227405312) (su : ng u = true) (w : World) :
    Calls Try.prog 6 #[.int .u64 (u : Int), .float .f64 f] w fun e w' => e = .returned (.bool true) ∧ Below w.heap.size w w' := by
  have k0 : decide ((9218868437227405312 : Int) ≤ (u : Int) % 9223372036854775808) = false := decide_eq_false (by omega)
  have k1 : decide ((9223372036854775808 : Int) ≤ (u : Int)) = true := ge_top su
  have k2 := o_self u hu
  have k3 := o_self v hv
  rw [nu] at k2
  rw [nv] at k3
  have sv : ng v = true := by
    have hm := (nn_iff' v).1 nv
    rw [ng_true] at su ⊢; omega
  have hvl : vl v < vl u ∧ vl u ≤ vl v + 1 := by rw [vl_neg su, vl_neg sv]; omega
  have k4 := o_lt v u (by omega) (by omega) nv nu
  rw [decide_eq_true hvl.1] at k4
  have hbt := between v u f (by omega) (by omega) hf nv nu hvl.2
  have hT : ((u : Int) + 1).toNat = v := by omega
  have hu64 : (u : Int) + 1 ≤ 18446744073709551615 := by omega
  have H1 := Lib.hid nu
  have H2 := Lib.hid nv
  clear e1 e2 h su sv hvl nu nv
  cases k5 : (FloatKind.f64.format.order v f == some Ordering.lt)
  case' true => have k6 := hbt k5
  all_goals
    have HT := Lib.hid hT
    clear hbt hT
    go_enter Try.func6, Try.ntmps6
    go_wp2_with fail
    refine (float_c u hu _).mono ?_
    rintro e w1 ⟨rfl, hb1⟩
    rw [fl_num H1.out]
    go_wp2_with fail
    refine (float_i _ (by omega) (by omega) _).mono ?_
    rintro e w2 ⟨rfl, hb2⟩
    rw [HT.out, fl_num H2.out]
    go_wp2_with fail
    refine (live_c _).mono ?_
    rintro e w5 ⟨rfl, hb5⟩
    go_wp2
    go_ret
    have c2 := hb1.trans (hb2.mono hb1.size)
    exact ⟨rfl, c2.trans (hb5.mono c2.size)⟩

set_option maxHeartbeats 1000000 in
theorem walk_pos (u v f : Nat) (hu : u < 18446744073709551616) (hv : v < 18446744073709551616) (e1 : v ≤ u + 1) (e2 : u + 1 ≤ v) (nu : nn u = false) (nv : nn v = false) (hf : f < 18446744073709551616) (h : u % 9223372036854775808 < 9218868437227405312) (su : ng u = false) (w : World) :
    Calls Try.prog 6 #[.int .u64 (u : Int), .float .f64 f] w fun e w' => e = .returned (.bool true) ∧ Below w.heap.size w w' := by
  have k0 : decide ((9218868437227405312 : Int) ≤ (u : Int) % 9223372036854775808) = false := decide_eq_false (by omega)
  have k1 : decide ((9223372036854775808 : Int) ≤ (u : Int)) = false := ge_top su
  have k2 := o_self u hu
  have k3 := o_self v hv
  rw [nu] at k2
  rw [nv] at k3
  have sv : ng v = false := by
    have hm := (nn_iff' v).1 nv
    rw [ng_false] at su ⊢; omega
  have hvl : vl u < vl v ∧ vl v ≤ vl u + 1 := by rw [vl_pos su, vl_pos sv]; omega
  have k4 := o_lt u v (by omega) (by omega) nu nv
  rw [decide_eq_true hvl.1] at k4
  have hbt := between u v f (by omega) (by omega) hf nu nv hvl.2
  have hT : ((u : Int) + 1).toNat = v := by omega
  have hu64 : (u : Int) + 1 ≤ 18446744073709551615 := by omega
  have H1 := Lib.hid nu
  have H2 := Lib.hid nv
  clear e1 e2 h su sv hvl nu nv
  cases k5 : (FloatKind.f64.format.order u f == some Ordering.lt)
  case' true => have k6 := hbt k5
  all_goals
    have HT := Lib.hid hT
    clear hbt hT
    go_enter Try.func6, Try.ntmps6
    go_wp2_with fail
    refine (float_c u hu _).mono ?_
    rintro e w1 ⟨rfl, hb1⟩
    rw [fl_num H1.out]
    go_wp2_with fail
    refine (float_i _ (by omega) (by omega) _).mono ?_
    rintro e w2 ⟨rfl, hb2⟩
    rw [HT.out, fl_num H2.out]
    go_wp2_with fail
    refine (live_c _).mono ?_
    rintro e w5 ⟨rfl, hb5⟩
    go_wp2
    go_ret
    have c2 := hb1.trans (hb2.mono hb1.size)
    exact ⟨rfl, c2.trans (hb5.mono c2.size)⟩

theorem walk (n : Int) (f : Nat) (wn : (Lit.int .u64 n).wf = true) (wf : (Lit.float .f64 f).wf = true) (w : World) :
    Calls Try.prog 6 #[.int .u64 n, .float .f64 f] w fun e w' => e = .returned (.bool true) ∧ Below w.heap.size w w' := by
  have hf := f64_lt wf
  obtain ⟨u, rfl, hu⟩ := u64_nat wn
  rcases Nat.lt_or_ge (u % 9223372036854775808) 9218868437227405312 with h | h
  · have nu : nn u = false := (nn_iff' u).2 (by omega)
    have nv : nn (u + 1) = false := (nn_iff' _).2 (by omega)
    cases su : ng u
    · exact walk_pos u (u + 1) f hu (by omega) (by omega) (by omega) nu nv hf h su w
    · exact walk_neg u (u + 1) f hu (by omega) (by omega) (by omega) nu nv hf h su w
  · exact walk_out u f h w
end bitsNext
end Go.Proofs.Ytaahfcljcejemaa
