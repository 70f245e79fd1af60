/-
  The walk of RankMiddle.
-/
import Derived.Test.YtaahfcljcejemaaVb
namespace Go.Proofs.Ytaahfcljcejemaa
open Go.RowKit
open Fl
set_option maxRecDepth 100000

namespace rankMiddle
theorem bo_comm (a b : Nat) : bo b a = bo a b := by unfold bo; rw [far_comm, md_comm]
theorem bw_comm (a b : Nat) : bw b a = bw a b := by unfold bw; rw [far_comm, md_comm]
theorem bw_no {a b : Nat} (h : bo a b = false) : bw a b = 0 := by
  unfold bo at h; unfold bw
  cases hf : far (ky a) (ky b)
  · rfl
  · rw [hf, Bool.true_and] at h
    rw [if_pos rfl, uw_no h]
theorem bo_yes {a b : Nat} (h : bo a b = true) : far (ky a) (ky b) = true ∧ cn (uk (md (ky a) (ky b))) = true ∧ bw a b = fl (uk (md (ky a) (ky b))) := by
  unfold bo at h
  rw [Bool.and_eq_true] at h
  refine ⟨h.1, h.2, ?_⟩
  unfold bw
  rw [if_pos h.1, uw_yes h.2]
theorem ky_le {a : Nat} (ha : a < 18446744073709551616) : ky a ≤ 18444492273895866368 := by
  cases h : nn a
  · have := (ky_top ha h).1; omega
  · rw [kyn h]; omega
/-- what Between gives lies between, and is a number -/
theorem bw_yes {a b : Nat} (ha : a < 18446744073709551616) (hb : b < 18446744073709551616) (h : bo a b = true) :
    ky (bw a b) = md (ky a) (ky b) ∧ nn (bw a b) = false := by
  obtain ⟨h1, h2, h3⟩ := bo_yes h
  have hm := md_lt (ky_lt a) (ky_lt b)
  rw [h3]
  refine ⟨ky_fl hm h2, ?_⟩
  rcases (cn_iff _ (uk_lt _ hm)).1 h2 with h4 | h4
  · rw [fl_num h4]; exact h4
  · exfalso
    have l1 := ky_le ha
    have l2 := ky_le hb
    have l3 : 2 ≤ max (ky a) (ky b) - min (ky a) (ky b) := (far_iff _ _).1 h1
    unfold md uk at h4
    split at h4 <;> omega

theorem not_far {a b : Nat} (ha : a < 18446744073709551616) (hb : b < 18446744073709551616) (na : nn a = false) (nb : nn b = false) (h : bo a b = false) : far (ky a) (ky b) = false := by
  cases hf : far (ky a) (ky b)
  · rfl
  · unfold bo at h
    rw [hf, Bool.true_and] at h
    have l1 := ky_top ha na
    have l2 := ky_top hb nb
    have := (cn_mid (k := md (ky a) (ky b)) (by unfold md; omega) (by unfold md; omega)).1
    rw [h] at this
    cases this
theorem none_between {x y z : Nat} (h : far x y = false) (h1 : cm x z = cm x y) (h2 : cm z y = cm x y) : cm x y = 0 := by
  have hf := (far_iff' _ _).1 h
  rcases cm_tri x y with ⟨a1, a2, a3⟩ | ⟨a1, a2, a3⟩ | ⟨a1, a2, a3⟩
  · rcases cm_tri x z with ⟨b1, b2, b3⟩ | ⟨b1, b2, b3⟩ | ⟨b1, b2, b3⟩ <;> rcases cm_tri z y with ⟨c1, c2, c3⟩ | ⟨c1, c2, c3⟩ | ⟨c1, c2, c3⟩ <;> omega
  · exact a2
  · rcases cm_tri x z with ⟨b1, b2, b3⟩ | ⟨b1, b2, b3⟩ | ⟨b1, b2, b3⟩ <;> rcases cm_tri z y with ⟨c1, c2, c3⟩ | ⟨c1, c2, c3⟩ | ⟨c1, c2, c3⟩ <;> omega

set_option maxHeartbeats 2000000 in
theorem w_nan1 (a b f : Nat) (ha : a < 18446744073709551616) (hb : b < 18446744073709551616) (hbw : bw a b < 18446744073709551616)
    (BO : Hid (bo a b = false)) (BO2 : Hid (bo b a = false)) (BW2 : Hid (bw b a = bw a b)) (MM : Hid (cm (ky (bw a b)) (ky (bw a b)) = 0))
    (BW0 : Hid (bw a b = 0)) (na : (FloatKind.f64.format.order a a != some Ordering.eq) = true) (w : World) :
    Calls Try.prog 11 #[.float .f64 a, .float .f64 b, .float .f64 f] w fun e w' => e = .returned (.bool true) ∧ Below w.heap.size w w' := by
  have hz : (FloatKind.f64.format.order (bw a b) 0 == some Ordering.eq) = true := by rw [BW0.out]; decide
  go_enter Try.func11, Try.ntmps11
  go_wp2_with fail
  refine (between_c a b ha hb _).mono ?_
  rintro e w1 ⟨rfl, hb1⟩
  rw [BO.out]
  go_wp2_with fail
  refine (between_c b a hb ha _).mono ?_
  rintro e w2 ⟨rfl, hb2⟩
  rw [BO2.out, BW2.out]
  have c2 := hb1.trans (hb2.mono hb1.size)
  go_wp2_with fail
  refine (compare_c (bw a b) (bw a b) hbw hbw _).mono ?_
  rintro e w3 ⟨rfl, hb3⟩
  rw [MM.out]
  have c3 := c2.trans (hb3.mono c2.size)
  go_wp2_with fail
  refine (compare_c a b ha hb _).mono ?_
  rintro e w4 ⟨rfl, hb4⟩
  have c4 := c3.trans (hb4.mono c3.size)
  go_wp2_with fail
  refine (live2_c _).mono ?_
  rintro e w9 ⟨rfl, hb9⟩
  go_wp2
  go_ret
  exact ⟨rfl, c4.trans (hb9.mono c4.size)⟩

set_option maxHeartbeats 2000000 in
theorem w_nan2 (a b f : Nat) (ha : a < 18446744073709551616) (hb : b < 18446744073709551616) (hbw : bw a b < 18446744073709551616)
    (BO : Hid (bo a b = false)) (BO2 : Hid (bo b a = false)) (BW2 : Hid (bw b a = bw a b)) (MM : Hid (cm (ky (bw a b)) (ky (bw a b)) = 0))
    (BW0 : Hid (bw a b = 0)) (na : (FloatKind.f64.format.order a a != some Ordering.eq) = false) (nb : (FloatKind.f64.format.order b b != some Ordering.eq) = true) (w : World) :
    Calls Try.prog 11 #[.float .f64 a, .float .f64 b, .float .f64 f] w fun e w' => e = .returned (.bool true) ∧ Below w.heap.size w w' := by
  have hz : (FloatKind.f64.format.order (bw a b) 0 == some Ordering.eq) = true := by rw [BW0.out]; decide
  go_enter Try.func11, Try.ntmps11
  go_wp2_with fail
  refine (between_c a b ha hb _).mono ?_
  rintro e w1 ⟨rfl, hb1⟩
  rw [BO.out]
  go_wp2_with fail
  refine (between_c b a hb ha _).mono ?_
  rintro e w2 ⟨rfl, hb2⟩
  rw [BO2.out, BW2.out]
  have c2 := hb1.trans (hb2.mono hb1.size)
  go_wp2_with fail
  refine (compare_c (bw a b) (bw a b) hbw hbw _).mono ?_
  rintro e w3 ⟨rfl, hb3⟩
  rw [MM.out]
  have c3 := c2.trans (hb3.mono c2.size)
  go_wp2_with fail
  refine (compare_c a b ha hb _).mono ?_
  rintro e w4 ⟨rfl, hb4⟩
  have c4 := c3.trans (hb4.mono c3.size)
  go_wp2_with fail
  refine (live2_c _).mono ?_
  rintro e w9 ⟨rfl, hb9⟩
  go_wp2
  go_ret
  exact ⟨rfl, c4.trans (hb9.mono c4.size)⟩

set_option maxHeartbeats 2000000 in
theorem w_no1 (a b f : Nat) (ha : a < 18446744073709551616) (hb : b < 18446744073709551616) (hf : f < 18446744073709551616) (hbw : bw a b < 18446744073709551616)
    (BO : Hid (bo a b = false)) (BO2 : Hid (bo b a = false)) (BW2 : Hid (bw b a = bw a b)) (MM : Hid (cm (ky (bw a b)) (ky (bw a b)) = 0))
    (BW0 : Hid (bw a b = 0)) (na : (FloatKind.f64.format.order a a != some Ordering.eq) = false) (nb : (FloatKind.f64.format.order b b != some Ordering.eq) = false)
    (e1 : (cm (ky a) (ky f) == cm (ky a) (ky b)) = false) (w : World) :
    Calls Try.prog 11 #[.float .f64 a, .float .f64 b, .float .f64 f] w fun e w' => e = .returned (.bool true) ∧ Below w.heap.size w w' := by
  have hz : (FloatKind.f64.format.order (bw a b) 0 == some Ordering.eq) = true := by rw [BW0.out]; decide
  go_enter Try.func11, Try.ntmps11
  go_wp2_with fail
  refine (between_c a b ha hb _).mono ?_
  rintro e w1 ⟨rfl, hb1⟩
  rw [BO.out]
  go_wp2_with fail
  refine (between_c b a hb ha _).mono ?_
  rintro e w2 ⟨rfl, hb2⟩
  rw [BO2.out, BW2.out]
  have c2 := hb1.trans (hb2.mono hb1.size)
  go_wp2_with fail
  refine (compare_c (bw a b) (bw a b) hbw hbw _).mono ?_
  rintro e w3 ⟨rfl, hb3⟩
  rw [MM.out]
  have c3 := c2.trans (hb3.mono c2.size)
  go_wp2_with fail
  refine (compare_c a b ha hb _).mono ?_
  rintro e w4 ⟨rfl, hb4⟩
  have c4 := c3.trans (hb4.mono c3.size)
  go_wp2_with fail
  refine (compare_c a f ha hf _).mono ?_
  rintro e w5 ⟨rfl, hb5⟩
  have c5 := c4.trans (hb5.mono c4.size)
  go_wp2_with fail
  refine (live2_c _).mono ?_
  rintro e w9 ⟨rfl, hb9⟩
  go_wp2
  go_ret
  exact ⟨rfl, c5.trans (hb9.mono c5.size)⟩

set_option maxHeartbeats 2000000 in
theorem w_no2 (a b f : Nat) (ha : a < 18446744073709551616) (hb : b < 18446744073709551616) (hf : f < 18446744073709551616) (hbw : bw a b < 18446744073709551616)
    (BO : Hid (bo a b = false)) (BO2 : Hid (bo b a = false)) (BW2 : Hid (bw b a = bw a b)) (MM : Hid (cm (ky (bw a b)) (ky (bw a b)) = 0))
    (BW0 : Hid (bw a b = 0)) (na : (FloatKind.f64.format.order a a != some Ordering.eq) = false) (nb : (FloatKind.f64.format.order b b != some Ordering.eq) = false)
    (e1 : (cm (ky a) (ky f) == cm (ky a) (ky b)) = true) (e2 : (cm (ky f) (ky b) == cm (ky a) (ky b)) = false) (w : World) :
    Calls Try.prog 11 #[.float .f64 a, .float .f64 b, .float .f64 f] w fun e w' => e = .returned (.bool true) ∧ Below w.heap.size w w' := by
  have hz : (FloatKind.f64.format.order (bw a b) 0 == some Ordering.eq) = true := by rw [BW0.out]; decide
  go_enter Try.func11, Try.ntmps11
  go_wp2_with fail
  refine (between_c a b ha hb _).mono ?_
  rintro e w1 ⟨rfl, hb1⟩
  rw [BO.out]
  go_wp2_with fail
  refine (between_c b a hb ha _).mono ?_
  rintro e w2 ⟨rfl, hb2⟩
  rw [BO2.out, BW2.out]
  have c2 := hb1.trans (hb2.mono hb1.size)
  go_wp2_with fail
  refine (compare_c (bw a b) (bw a b) hbw hbw _).mono ?_
  rintro e w3 ⟨rfl, hb3⟩
  rw [MM.out]
  have c3 := c2.trans (hb3.mono c2.size)
  go_wp2_with fail
  refine (compare_c a b ha hb _).mono ?_
  rintro e w4 ⟨rfl, hb4⟩
  have c4 := c3.trans (hb4.mono c3.size)
  go_wp2_with fail
  refine (compare_c a f ha hf _).mono ?_
  rintro e w5 ⟨rfl, hb5⟩
  have c5 := c4.trans (hb5.mono c4.size)
  go_wp2_with fail
  refine (compare_c f b hf hb _).mono ?_
  rintro e w6 ⟨rfl, hb6⟩
  have c6 := c5.trans (hb6.mono c5.size)
  go_wp2_with fail
  refine (live2_c _).mono ?_
  rintro e w9 ⟨rfl, hb9⟩
  go_wp2
  go_ret
  exact ⟨rfl, c6.trans (hb9.mono c6.size)⟩

set_option maxHeartbeats 2000000 in
theorem w_no3 (a b f : Nat) (ha : a < 18446744073709551616) (hb : b < 18446744073709551616) (hf : f < 18446744073709551616) (hbw : bw a b < 18446744073709551616)
    (BO : Hid (bo a b = false)) (BO2 : Hid (bo b a = false)) (BW2 : Hid (bw b a = bw a b)) (MM : Hid (cm (ky (bw a b)) (ky (bw a b)) = 0))
    (BW0 : Hid (bw a b = 0)) (na : (FloatKind.f64.format.order a a != some Ordering.eq) = false) (nb : (FloatKind.f64.format.order b b != some Ordering.eq) = false)
    (e1 : (cm (ky a) (ky f) == cm (ky a) (ky b)) = true) (e2 : (cm (ky f) (ky b) == cm (ky a) (ky b)) = true) (e3 : (cm (ky a) (ky b) != 0) = false) (w : World) :
    Calls Try.prog 11 #[.float .f64 a, .float .f64 b, .float .f64 f] w fun e w' => e = .returned (.bool true) ∧ Below w.heap.size w w' := by
  have hz : (FloatKind.f64.format.order (bw a b) 0 == some Ordering.eq) = true := by rw [BW0.out]; decide
  go_enter Try.func11, Try.ntmps11
  go_wp2_with fail
  refine (between_c a b ha hb _).mono ?_
  rintro e w1 ⟨rfl, hb1⟩
  rw [BO.out]
  go_wp2_with fail
  refine (between_c b a hb ha _).mono ?_
  rintro e w2 ⟨rfl, hb2⟩
  rw [BO2.out, BW2.out]
  have c2 := hb1.trans (hb2.mono hb1.size)
  go_wp2_with fail
  refine (compare_c (bw a b) (bw a b) hbw hbw _).mono ?_
  rintro e w3 ⟨rfl, hb3⟩
  rw [MM.out]
  have c3 := c2.trans (hb3.mono c2.size)
  go_wp2_with fail
  refine (compare_c a b ha hb _).mono ?_
  rintro e w4 ⟨rfl, hb4⟩
  have c4 := c3.trans (hb4.mono c3.size)
  go_wp2_with fail
  refine (compare_c a f ha hf _).mono ?_
  rintro e w5 ⟨rfl, hb5⟩
  have c5 := c4.trans (hb5.mono c4.size)
  go_wp2_with fail
  refine (compare_c f b hf hb _).mono ?_
  rintro e w6 ⟨rfl, hb6⟩
  have c6 := c5.trans (hb6.mono c5.size)
  go_wp2_with fail
  refine (live2_c _).mono ?_
  rintro e w9 ⟨rfl, hb9⟩
  go_wp2
  go_ret
  exact ⟨rfl, c6.trans (hb9.mono c6.size)⟩

set_option maxHeartbeats 2000000 in
theorem w_yes (a b f : Nat) (ha : a < 18446744073709551616) (hb : b < 18446744073709551616) (hbw : bw a b < 18446744073709551616)
    (BO : Hid (bo a b = true)) (BO2 : Hid (bo b a = true)) (BW2 : Hid (bw b a = bw a b)) (MM : Hid (cm (ky (bw a b)) (ky (bw a b)) = 0))
    (e1 : (cm (ky a) (ky (bw a b)) == cm (ky a) (ky b)) = true) (e2 : (cm (ky (bw a b)) (ky b) == cm (ky a) (ky b)) = true) (e3 : (cm (ky a) (ky b) != 0) = true) (e4 : (FloatKind.f64.format.order (bw a b) (bw a b) == some Ordering.eq) = true) (w : World) :
    Calls Try.prog 11 #[.float .f64 a, .float .f64 b, .float .f64 f] w fun e w' => e = .returned (.bool true) ∧ Below w.heap.size w w' := by
  go_enter Try.func11, Try.ntmps11
  go_wp2_with fail
  refine (between_c a b ha hb _).mono ?_
  rintro e w1 ⟨rfl, hb1⟩
  rw [BO.out]
  go_wp2_with fail
  refine (between_c b a hb ha _).mono ?_
  rintro e w2 ⟨rfl, hb2⟩
  rw [BO2.out, BW2.out]
  have c2 := hb1.trans (hb2.mono hb1.size)
  go_wp2_with fail
  refine (compare_c (bw a b) (bw a b) hbw hbw _).mono ?_
  rintro e w3 ⟨rfl, hb3⟩
  rw [MM.out]
  have c3 := c2.trans (hb3.mono c2.size)
  go_wp2_with fail
  refine (compare_c a b ha hb _).mono ?_
  rintro e w4 ⟨rfl, hb4⟩
  have c4 := c3.trans (hb4.mono c3.size)
  go_wp2_with fail
  refine (compare_c a (bw a b) ha hbw _).mono ?_
  rintro e w5 ⟨rfl, hb5⟩
  have c5 := c4.trans (hb5.mono c4.size)
  go_wp2_with fail
  refine (compare_c (bw a b) b hbw hb _).mono ?_
  rintro e w6 ⟨rfl, hb6⟩
  have c6 := c5.trans (hb6.mono c5.size)
  go_wp2_with fail
  refine (live2_c _).mono ?_
  rintro e w9 ⟨rfl, hb9⟩
  go_wp2
  go_ret
  exact ⟨rfl, c6.trans (hb9.mono c6.size)⟩

theorem walk (a b f : Nat) (wa : (Lit.float .f64 a).wf = true) (wb : (Lit.float .f64 b).wf = true) (wf : (Lit.float .f64 f).wf = true) (w : World) :
    Calls Try.prog 11 #[.float .f64 a, .float .f64 b, .float .f64 f] w fun e w' => e = .returned (.bool true) ∧ Below w.heap.size w w' := by
  have ha := f64_lt wa
  have hb := f64_lt wb
  have hf := f64_lt wf
  have hbw := rankTells.bw_lt a b
  have BW2 := bw_comm a b
  have MM := cm_eq (ky (bw a b))
  have sa := o_self a ha
  have sb := o_self b hb
  cases BO : bo a b
  · have BO2 : bo b a = false := by rw [bo_comm]; exact BO
    have BW0 := bw_no BO
    cases na : nn a
    · rw [na] at sa
      cases nb : nn b
      · rw [nb] at sb
        have nf := not_far ha hb na nb BO
        cases e1 : (cm (ky a) (ky f) == cm (ky a) (ky b))
        · exact w_no1 a b f ha hb hf hbw BO BO2 BW2 MM BW0 sa sb e1 w
        · cases e2 : (cm (ky f) (ky b) == cm (ky a) (ky b))
          · exact w_no2 a b f ha hb hf hbw BO BO2 BW2 MM BW0 sa sb e1 e2 w
          · have e3 := none_between nf (beq_iff_eq.1 e1) (beq_iff_eq.1 e2)
            exact w_no3 a b f ha hb hf hbw BO BO2 BW2 MM BW0 sa sb e1 e2 (by rw [e3]; rfl) w
      · rw [nb] at sb
        exact w_nan2 a b f ha hb hbw BO BO2 BW2 MM BW0 sa sb w
    · rw [na] at sa
      exact w_nan1 a b f ha hb hbw BO BO2 BW2 MM BW0 sa w
  · have BO2 : bo b a = true := by rw [bo_comm]; exact BO
    obtain ⟨k1, k2⟩ := bw_yes ha hb BO
    obtain ⟨k3, k4⟩ := md_between (bo_yes BO).1
    have k5 := far_ne (bo_yes BO).1
    refine w_yes a b f ha hb hbw BO BO2 BW2 MM (by rw [k1, k3]; simp) (by rw [k1, k4]; simp) ?_ ?_ w
    · rw [bne_iff_ne]
      rcases cm_tri (ky a) (ky b) with ⟨a1, a2, a3⟩ | ⟨a1, a2, a3⟩ | ⟨a1, a2, a3⟩ <;> omega
    · rw [o_self' _ hbw, k2]; rfl
end rankMiddle
end Go.Proofs.Ytaahfcljcejemaa
