/-
  The walks of RankTells and RankKeys.
-/
import Derived.Test.YtaahfcljcejemaaBt
import Derived.Test.YtaahfcljcejemaaFi
import Derived.Test.YtaahfcljcejemaaWa
namespace Go.Proofs.Ytaahfcljcejemaa
open Go.RowKit
open Fl
set_option maxRecDepth 100000

namespace rankTells
theorem same_uk {k y : Nat} (hk : k < 18446744073709551616) (h : RF (uk k) y) : ((cb (uw k) : Int) == (cb (rw' k y) : Int)) = true := by
  unfold uw rw'
  cases hc : cn (uk k)
  · rfl
  · simp only [if_true]
    have hu := uk_lt k hk
    rw [cb_rf2 h, cb_fl_cn hu hc]
    rcases (cn_iff _ hu).1 hc with h4 | h4
    · rw [cb_num h4]; simp
    · rw [h4]; decide
theorem rw_lt {k y : Nat} (h : RF (uk k) y) : rw' k y < 18446744073709551616 := by
  unfold rw'; split
  · exact h.1
  · omega
theorem bw_lt (a b : Nat) : bw a b < 18446744073709551616 := by
  unfold bw; split
  · exact uw_lt (md_lt (ky_lt a) (ky_lt b))
  · omega

set_option maxHeartbeats 2000000 in
theorem walk (a b : Nat) (n : Int) (wa : (Lit.float .f64 a).wf = true) (wb : (Lit.float .f64 b).wf = true) (wn : (Lit.int .u64 n).wf = true) (w : World) :
    Calls Try.prog 8 #[.float .f64 a, .float .f64 b, .int .u64 n] w fun e w' => e = .returned (.bool true) ∧ Below w.heap.size w w' := by
  have ha := f64_lt wa
  have hb := f64_lt wb
  obtain ⟨k, rfl, hk⟩ := u64_nat wn
  have huw := uw_lt hk
  have hbw := bw_lt a b
  clear wa wb wn
  go_enter Try.func8, Try.ntmps8
  go_wp2_with fail
  refine (unkey_c k hk _).mono ?_
  rintro e w1 ⟨rfl, hb1⟩
  go_wp2_with fail
  refine (rUnkey_c k hk _).mono ?_
  rintro e w2 ⟨y, hy, rfl, hb2⟩
  go_wp2_with fail
  refine (between_c a b ha hb _).mono ?_
  rintro e w3 ⟨rfl, hb3⟩
  go_wp2_with fail
  refine (rBetween_c a b ha hb _).mono ?_
  rintro e w4 ⟨z, rfl, hz, hzl, hb4⟩
  have hrl := rw_lt hy
  have s1 := same_uk hk hy
  have s2 : ((cb (bw a b) : Int) == (cb z : Int)) = true := by rw [hz]; simp
  clear hz
  go_wp2_with fail
  refine (key_c a ha _).mono ?_
  rintro e w5 ⟨rfl, hb5⟩
  go_wp2_with fail
  refine (rKey_c a ha _).mono ?_
  rintro e wz ⟨rfl, rfl⟩
  go_wp2_with fail
  refine (rSame_c (uw k) (rw' k y) huw hrl _).mono ?_
  rintro e wz ⟨rfl, rfl⟩
  rw [s1]
  go_wp2_with fail
  refine (compare_c a b ha hb _).mono ?_
  rintro e w6 ⟨rfl, hb6⟩
  go_wp2_with fail
  refine (rCompare_c a b ha hb _).mono ?_
  rintro e wz ⟨rfl, rfl⟩
  go_wp2_with fail
  refine (rSame_c (bw a b) z hbw hzl _).mono ?_
  rintro e wz ⟨rfl, rfl⟩
  rw [s2]
  go_wp2_with fail
  refine (live2_c _).mono ?_
  rintro e w7 ⟨rfl, hb7⟩
  go_wp2
  go_ret
  have c2 := hb1.trans (hb2.mono hb1.size)
  have c3 := c2.trans (hb3.mono c2.size)
  have c4 := c3.trans (hb4.mono c3.size)
  have c5 := c4.trans (hb5.mono c4.size)
  have c6 := c5.trans (hb6.mono c5.size)
  exact ⟨rfl, c6.trans (hb7.mono c6.size)⟩
end rankTells

namespace rankKeys
set_option maxHeartbeats 2000000 in
theorem walk (n : Int) (f : Nat) (wn : (Lit.int .u64 n).wf = true) (wf : (Lit.float .f64 f).wf = true) (w : World) :
    Calls Try.prog 12 #[.int .u64 n, .float .f64 f] w fun e w' => e = .returned (.bool true) ∧ Below w.heap.size w w' := by
  have hf := f64_lt wf
  obtain ⟨k, rfl, hk⟩ := u64_nat wn
  have huw := uw_lt hk
  have hkf := ky_lt f
  have hcc := cn_cb hf
  have hff := fl_lt _ (cb_lt f hf)
  have e1 : cn (uk (ky f)) = true := by rw [uk_ky f hf]; exact hcc
  have e2 : uw (ky f) = fl (cb f) := by rw [uw_yes e1, uk_ky f hf]
  have e3 : cm (ky f) (ky (fl (cb f))) = 0 := by
    have := ky_fl hkf e1
    rw [uk_ky f hf] at this
    rw [this]; exact cm_eq _
  have s1 := o_self f hf
  have s2 := o_self (fl (cb f)) hff
  rw [nn_fl_cb] at s2
  have E1 := Lib.hid e1
  have E2 := Lib.hid e2
  have E3 := Lib.hid e3
  clear wn wf e1 e2 e3 hcc
  cases hc : cn (uk k)
  case' false =>
    have g1 := uw_no hc
    have g2 : (FloatKind.f64.format.order 0 0 != some Ordering.eq) = false := by decide
    have g3 := fun wx => run_float_arith (P := Try.prog) wx .quo 22 .f64 _ _ _ inv_pos
    have g4 : (FloatKind.f64.format.order 9218868437227405312 0 == some Ordering.lt) = false := by decide
    go_enter Try.func12, Try.ntmps12
    go_wp2_with fail
    refine (unkey_c k hk _).mono ?_
    rintro e w1 ⟨rfl, hb1⟩
    rw [hc, g1]
    clear g1 hc
    go_wp2_with fail
    have c1 := hb1
  case' true =>
    have g1 := uw_yes hc
    have g2 : ((ky (fl (uk k)) : Int) != (k : Int)) = false := by rw [ky_fl hk hc]; simp
    have g3 := fl_lt _ (uk_lt k hk)
    go_enter Try.func12, Try.ntmps12
    go_wp2_with fail
    refine (unkey_c k hk _).mono ?_
    rintro e w1 ⟨rfl, hb1⟩
    rw [hc, g1]
    clear g1 hc
    go_wp2_with fail
    refine (key_c (fl (uk k)) g3 _).mono ?_
    rintro e w2 ⟨rfl, hb2⟩
    go_wp2_with fail
    have c1 := hb1.trans (hb2.mono hb1.size)
  all_goals
    refine (key_c f hf _).mono ?_
    rintro e w3 ⟨rfl, hb3⟩
    have c2 := c1.trans (hb3.mono c1.size)
    go_wp2_with fail
    refine (unkey_c (ky f) hkf _).mono ?_
    rintro e w4 ⟨rfl, hb4⟩
    have c3 := c2.trans (hb4.mono c2.size)
    rw [E1.out, E2.out]
    go_wp2_with fail
    refine (compare_c f (fl (cb f)) hf hff _).mono ?_
    rintro e w5 ⟨rfl, hb5⟩
    have c4 := c3.trans (hb5.mono c3.size)
    rw [E3.out]
    go_wp2_with fail
    refine (live2_c _).mono ?_
    rintro e w6 ⟨rfl, hb6⟩
    go_wp2
    go_ret
    exact ⟨rfl, c4.trans (hb6.mono c4.size)⟩
end rankKeys
end Go.Proofs.Ytaahfcljcejemaa
