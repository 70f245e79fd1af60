/-
  The walk of RankOrder.
-/
import Derived.Test.YtaahfcljcejemaaVa
namespace Go.Proofs.Ytaahfcljcejemaa
open Go.RowKit
open Fl
set_option maxRecDepth 100000

namespace rankOrder
theorem ky_nan_le {a b : Nat} (ha : a < 18446744073709551616) (h : nn b = true) : ky a ≤ ky b := by
  rw [kyn h]
  cases hn : nn a
  · have := (ky_top ha hn).1; omega
  · rw [kyn hn]; omega
theorem lt_no {a b : Nat} (ha : a < 18446744073709551616) (hb : b < 18446744073709551616) (h : ky b ≤ ky a) : (FloatKind.f64.format.order a b == some Ordering.lt) = false := by
  cases na : nn a
  · cases nb : nn b
    · rw [o_lt a b ha hb na nb]
      refine decide_eq_false ?_
      intro h2
      have := ky_mono ha hb na nb h2
      omega
    · rw [order_nn_right a b hb nb]; rfl
  · rw [order_nn_left a b ha na]; rfl
theorem gt_no {a b : Nat} (ha : a < 18446744073709551616) (hb : b < 18446744073709551616) (h : ky a ≤ ky b) : (FloatKind.f64.format.order a b == some Ordering.gt) = false := by
  cases na : nn a
  · cases nb : nn b
    · rw [o_gt a b ha hb na nb]
      refine decide_eq_false ?_
      intro h2
      have := ky_mono hb ha nb na h2
      omega
    · rw [order_nn_right a b hb nb]; rfl
  · rw [order_nn_left a b ha na]; rfl

set_option maxHeartbeats 2000000 in
theorem w_mm_lt (a b c : Nat) (ha : a < 18446744073709551616) (hb : b < 18446744073709551616) (hc : c < 18446744073709551616) (AB : Hid (cm (ky a) (ky b) = -1)) (BA : Hid (cm (ky b) (ky a) = 1))
    (AA : Hid (cm (ky a) (ky a) = 0))
    (BC : Hid (cm (ky b) (ky c) = -1)) (AC : Hid (cm (ky a) (ky c) = -1))
    (l1 : (FloatKind.f64.format.order a b == some Ordering.lt) = true) (l2 : (FloatKind.f64.format.order a b == some Ordering.gt) = false) (na : (FloatKind.f64.format.order a a != some Ordering.eq) = false)
    (KN : Hid (((ky a : Int) != (ky b : Int)) = true)) (w : World) :
    Calls Try.prog 10 #[.float .f64 a, .float .f64 b, .float .f64 c] w fun e w' => e = .returned (.bool true) ∧ Below w.heap.size w w' := by
  go_enter Try.func10, Try.ntmps10
  go_wp2_with fail
  refine (compare_c a b ha hb _).mono ?_
  rintro e w1 ⟨rfl, hb1⟩
  rw [AB.out]
  go_wp2_with fail
  refine (compare_c b c hb hc _).mono ?_
  rintro e w2 ⟨rfl, hb2⟩
  rw [BC.out]
  have c2 := hb1.trans (hb2.mono hb1.size)
  go_wp2_with fail
  refine (compare_c b a hb ha _).mono ?_
  rintro e w3 ⟨rfl, hb3⟩
  rw [BA.out]
  have c3 := c2.trans (hb3.mono c2.size)
  go_wp2_with fail
  refine (compare_c a a ha ha _).mono ?_
  rintro e w4 ⟨rfl, hb4⟩
  rw [AA.out]
  have c4 := c3.trans (hb4.mono c3.size)
  go_wp2_with fail
  refine (compare_c a c ha hc _).mono ?_
  rintro e w5 ⟨rfl, hb5⟩
  rw [AC.out]
  have c5 := c4.trans (hb5.mono c4.size)
  go_wp2_with fail
  refine (key_c a ha _).mono ?_
  rintro e w6 ⟨rfl, hb6⟩
  have c6 := c5.trans (hb6.mono c5.size)
  go_wp2_with fail
  refine (key_c b hb _).mono ?_
  rintro e w7 ⟨rfl, hb7⟩
  have c7 := c6.trans (hb7.mono c6.size)
  have kn := KN.out
  go_wp2_with fail
  refine (live2_c _).mono ?_
  rintro e w8 ⟨rfl, hb8⟩
  go_wp2
  go_ret
  exact ⟨rfl, c7.trans (hb8.mono c7.size)⟩

set_option maxHeartbeats 2000000 in
theorem w_mm_lf (a b c : Nat) (ha : a < 18446744073709551616) (hb : b < 18446744073709551616) (hc : c < 18446744073709551616) (AB : Hid (cm (ky a) (ky b) = -1)) (BA : Hid (cm (ky b) (ky a) = 1))
    (AA : Hid (cm (ky a) (ky a) = 0))
    (BC : Hid (cm (ky b) (ky c) = -1)) (AC : Hid (cm (ky a) (ky c) = -1))
    (l1 : (FloatKind.f64.format.order a b == some Ordering.lt) = false) (l2 : (FloatKind.f64.format.order a b == some Ordering.gt) = false) (na : (FloatKind.f64.format.order a a != some Ordering.eq) = false)
    (KN : Hid (((ky a : Int) != (ky b : Int)) = true)) (w : World) :
    Calls Try.prog 10 #[.float .f64 a, .float .f64 b, .float .f64 c] w fun e w' => e = .returned (.bool true) ∧ Below w.heap.size w w' := by
  go_enter Try.func10, Try.ntmps10
  go_wp2_with fail
  refine (compare_c a b ha hb _).mono ?_
  rintro e w1 ⟨rfl, hb1⟩
  rw [AB.out]
  go_wp2_with fail
  refine (compare_c b c hb hc _).mono ?_
  rintro e w2 ⟨rfl, hb2⟩
  rw [BC.out]
  have c2 := hb1.trans (hb2.mono hb1.size)
  go_wp2_with fail
  refine (compare_c b a hb ha _).mono ?_
  rintro e w3 ⟨rfl, hb3⟩
  rw [BA.out]
  have c3 := c2.trans (hb3.mono c2.size)
  go_wp2_with fail
  refine (compare_c a a ha ha _).mono ?_
  rintro e w4 ⟨rfl, hb4⟩
  rw [AA.out]
  have c4 := c3.trans (hb4.mono c3.size)
  go_wp2_with fail
  refine (compare_c a c ha hc _).mono ?_
  rintro e w5 ⟨rfl, hb5⟩
  rw [AC.out]
  have c5 := c4.trans (hb5.mono c4.size)
  go_wp2_with fail
  refine (key_c a ha _).mono ?_
  rintro e w6 ⟨rfl, hb6⟩
  have c6 := c5.trans (hb6.mono c5.size)
  go_wp2_with fail
  refine (key_c b hb _).mono ?_
  rintro e w7 ⟨rfl, hb7⟩
  have c7 := c6.trans (hb7.mono c6.size)
  have kn := KN.out
  go_wp2_with fail
  refine (live2_c _).mono ?_
  rintro e w8 ⟨rfl, hb8⟩
  go_wp2
  go_ret
  exact ⟨rfl, c7.trans (hb8.mono c7.size)⟩

set_option maxHeartbeats 2000000 in
theorem w_mz_lt (a b c : Nat) (ha : a < 18446744073709551616) (hb : b < 18446744073709551616) (hc : c < 18446744073709551616) (AB : Hid (cm (ky a) (ky b) = -1)) (BA : Hid (cm (ky b) (ky a) = 1))
    (AA : Hid (cm (ky a) (ky a) = 0))
    (BC : Hid (cm (ky b) (ky c) = 0)) (AC : Hid (cm (ky a) (ky c) = -1))
    (l1 : (FloatKind.f64.format.order a b == some Ordering.lt) = true) (l2 : (FloatKind.f64.format.order a b == some Ordering.gt) = false) (na : (FloatKind.f64.format.order a a != some Ordering.eq) = false)
    (KN : Hid (((ky a : Int) != (ky b : Int)) = true)) (w : World) :
    Calls Try.prog 10 #[.float .f64 a, .float .f64 b, .float .f64 c] w fun e w' => e = .returned (.bool true) ∧ Below w.heap.size w w' := by
  go_enter Try.func10, Try.ntmps10
  go_wp2_with fail
  refine (compare_c a b ha hb _).mono ?_
  rintro e w1 ⟨rfl, hb1⟩
  rw [AB.out]
  go_wp2_with fail
  refine (compare_c b c hb hc _).mono ?_
  rintro e w2 ⟨rfl, hb2⟩
  rw [BC.out]
  have c2 := hb1.trans (hb2.mono hb1.size)
  go_wp2_with fail
  refine (compare_c b a hb ha _).mono ?_
  rintro e w3 ⟨rfl, hb3⟩
  rw [BA.out]
  have c3 := c2.trans (hb3.mono c2.size)
  go_wp2_with fail
  refine (compare_c a a ha ha _).mono ?_
  rintro e w4 ⟨rfl, hb4⟩
  rw [AA.out]
  have c4 := c3.trans (hb4.mono c3.size)
  go_wp2_with fail
  refine (compare_c a c ha hc _).mono ?_
  rintro e w5 ⟨rfl, hb5⟩
  rw [AC.out]
  have c5 := c4.trans (hb5.mono c4.size)
  go_wp2_with fail
  refine (key_c a ha _).mono ?_
  rintro e w6 ⟨rfl, hb6⟩
  have c6 := c5.trans (hb6.mono c5.size)
  go_wp2_with fail
  refine (key_c b hb _).mono ?_
  rintro e w7 ⟨rfl, hb7⟩
  have c7 := c6.trans (hb7.mono c6.size)
  have kn := KN.out
  go_wp2_with fail
  refine (live2_c _).mono ?_
  rintro e w8 ⟨rfl, hb8⟩
  go_wp2
  go_ret
  exact ⟨rfl, c7.trans (hb8.mono c7.size)⟩

set_option maxHeartbeats 2000000 in
theorem w_mz_lf (a b c : Nat) (ha : a < 18446744073709551616) (hb : b < 18446744073709551616) (hc : c < 18446744073709551616) (AB : Hid (cm (ky a) (ky b) = -1)) (BA : Hid (cm (ky b) (ky a) = 1))
    (AA : Hid (cm (ky a) (ky a) = 0))
    (BC : Hid (cm (ky b) (ky c) = 0)) (AC : Hid (cm (ky a) (ky c) = -1))
    (l1 : (FloatKind.f64.format.order a b == some Ordering.lt) = false) (l2 : (FloatKind.f64.format.order a b == some Ordering.gt) = false) (na : (FloatKind.f64.format.order a a != some Ordering.eq) = false)
    (KN : Hid (((ky a : Int) != (ky b : Int)) = true)) (w : World) :
    Calls Try.prog 10 #[.float .f64 a, .float .f64 b, .float .f64 c] w fun e w' => e = .returned (.bool true) ∧ Below w.heap.size w w' := by
  go_enter Try.func10, Try.ntmps10
  go_wp2_with fail
  refine (compare_c a b ha hb _).mono ?_
  rintro e w1 ⟨rfl, hb1⟩
  rw [AB.out]
  go_wp2_with fail
  refine (compare_c b c hb hc _).mono ?_
  rintro e w2 ⟨rfl, hb2⟩
  rw [BC.out]
  have c2 := hb1.trans (hb2.mono hb1.size)
  go_wp2_with fail
  refine (compare_c b a hb ha _).mono ?_
  rintro e w3 ⟨rfl, hb3⟩
  rw [BA.out]
  have c3 := c2.trans (hb3.mono c2.size)
  go_wp2_with fail
  refine (compare_c a a ha ha _).mono ?_
  rintro e w4 ⟨rfl, hb4⟩
  rw [AA.out]
  have c4 := c3.trans (hb4.mono c3.size)
  go_wp2_with fail
  refine (compare_c a c ha hc _).mono ?_
  rintro e w5 ⟨rfl, hb5⟩
  rw [AC.out]
  have c5 := c4.trans (hb5.mono c4.size)
  go_wp2_with fail
  refine (key_c a ha _).mono ?_
  rintro e w6 ⟨rfl, hb6⟩
  have c6 := c5.trans (hb6.mono c5.size)
  go_wp2_with fail
  refine (key_c b hb _).mono ?_
  rintro e w7 ⟨rfl, hb7⟩
  have c7 := c6.trans (hb7.mono c6.size)
  have kn := KN.out
  go_wp2_with fail
  refine (live2_c _).mono ?_
  rintro e w8 ⟨rfl, hb8⟩
  go_wp2
  go_ret
  exact ⟨rfl, c7.trans (hb8.mono c7.size)⟩

set_option maxHeartbeats 2000000 in
theorem w_mp_lt (a b c : Nat) (ha : a < 18446744073709551616) (hb : b < 18446744073709551616) (hc : c < 18446744073709551616) (AB : Hid (cm (ky a) (ky b) = -1)) (BA : Hid (cm (ky b) (ky a) = 1))
    (AA : Hid (cm (ky a) (ky a) = 0))
    (BC : Hid (cm (ky b) (ky c) = 1))
    (l1 : (FloatKind.f64.format.order a b == some Ordering.lt) = true) (l2 : (FloatKind.f64.format.order a b == some Ordering.gt) = false) (na : (FloatKind.f64.format.order a a != some Ordering.eq) = false)
    (KN : Hid (((ky a : Int) != (ky b : Int)) = true)) (w : World) :
    Calls Try.prog 10 #[.float .f64 a, .float .f64 b, .float .f64 c] w fun e w' => e = .returned (.bool true) ∧ Below w.heap.size w w' := by
  go_enter Try.func10, Try.ntmps10
  go_wp2_with fail
  refine (compare_c a b ha hb _).mono ?_
  rintro e w1 ⟨rfl, hb1⟩
  rw [AB.out]
  go_wp2_with fail
  refine (compare_c b c hb hc _).mono ?_
  rintro e w2 ⟨rfl, hb2⟩
  rw [BC.out]
  have c2 := hb1.trans (hb2.mono hb1.size)
  go_wp2_with fail
  refine (compare_c b a hb ha _).mono ?_
  rintro e w3 ⟨rfl, hb3⟩
  rw [BA.out]
  have c3 := c2.trans (hb3.mono c2.size)
  go_wp2_with fail
  refine (compare_c a a ha ha _).mono ?_
  rintro e w4 ⟨rfl, hb4⟩
  rw [AA.out]
  have c4 := c3.trans (hb4.mono c3.size)
  go_wp2_with fail
  have c5 := c4
  refine (key_c a ha _).mono ?_
  rintro e w6 ⟨rfl, hb6⟩
  have c6 := c5.trans (hb6.mono c5.size)
  go_wp2_with fail
  refine (key_c b hb _).mono ?_
  rintro e w7 ⟨rfl, hb7⟩
  have c7 := c6.trans (hb7.mono c6.size)
  have kn := KN.out
  go_wp2_with fail
  refine (live2_c _).mono ?_
  rintro e w8 ⟨rfl, hb8⟩
  go_wp2
  go_ret
  exact ⟨rfl, c7.trans (hb8.mono c7.size)⟩

set_option maxHeartbeats 2000000 in
theorem w_mp_lf (a b c : Nat) (ha : a < 18446744073709551616) (hb : b < 18446744073709551616) (hc : c < 18446744073709551616) (AB : Hid (cm (ky a) (ky b) = -1)) (BA : Hid (cm (ky b) (ky a) = 1))
    (AA : Hid (cm (ky a) (ky a) = 0))
    (BC : Hid (cm (ky b) (ky c) = 1))
    (l1 : (FloatKind.f64.format.order a b == some Ordering.lt) = false) (l2 : (FloatKind.f64.format.order a b == some Ordering.gt) = false) (na : (FloatKind.f64.format.order a a != some Ordering.eq) = false)
    (KN : Hid (((ky a : Int) != (ky b : Int)) = true)) (w : World) :
    Calls Try.prog 10 #[.float .f64 a, .float .f64 b, .float .f64 c] w fun e w' => e = .returned (.bool true) ∧ Below w.heap.size w w' := by
  go_enter Try.func10, Try.ntmps10
  go_wp2_with fail
  refine (compare_c a b ha hb _).mono ?_
  rintro e w1 ⟨rfl, hb1⟩
  rw [AB.out]
  go_wp2_with fail
  refine (compare_c b c hb hc _).mono ?_
  rintro e w2 ⟨rfl, hb2⟩
  rw [BC.out]
  have c2 := hb1.trans (hb2.mono hb1.size)
  go_wp2_with fail
  refine (compare_c b a hb ha _).mono ?_
  rintro e w3 ⟨rfl, hb3⟩
  rw [BA.out]
  have c3 := c2.trans (hb3.mono c2.size)
  go_wp2_with fail
  refine (compare_c a a ha ha _).mono ?_
  rintro e w4 ⟨rfl, hb4⟩
  rw [AA.out]
  have c4 := c3.trans (hb4.mono c3.size)
  go_wp2_with fail
  have c5 := c4
  refine (key_c a ha _).mono ?_
  rintro e w6 ⟨rfl, hb6⟩
  have c6 := c5.trans (hb6.mono c5.size)
  go_wp2_with fail
  refine (key_c b hb _).mono ?_
  rintro e w7 ⟨rfl, hb7⟩
  have c7 := c6.trans (hb7.mono c6.size)
  have kn := KN.out
  go_wp2_with fail
  refine (live2_c _).mono ?_
  rintro e w8 ⟨rfl, hb8⟩
  go_wp2
  go_ret
  exact ⟨rfl, c7.trans (hb8.mono c7.size)⟩

set_option maxHeartbeats 2000000 in
theorem w_zm_nt (a b c : Nat) (ha : a < 18446744073709551616) (hb : b < 18446744073709551616) (hc : c < 18446744073709551616) (AB : Hid (cm (ky a) (ky b) = 0)) (BA : Hid (cm (ky b) (ky a) = 0))
    (AA : Hid (cm (ky a) (ky a) = 0))
    (BC : Hid (cm (ky b) (ky c) = -1)) (AC : Hid (cm (ky a) (ky c) = -1))
    (na : (FloatKind.f64.format.order a a != some Ordering.eq) = true) (l1 : (FloatKind.f64.format.order a b == some Ordering.lt) = false) (l2 : (FloatKind.f64.format.order a b == some Ordering.gt) = false) (nb : (FloatKind.f64.format.order b b == some Ordering.eq) = false) (nb' : (FloatKind.f64.format.order b b != some Ordering.eq) = true)
    (KN : Hid (((ky a : Int) != (ky b : Int)) = false)) (w : World) :
    Calls Try.prog 10 #[.float .f64 a, .float .f64 b, .float .f64 c] w fun e w' => e = .returned (.bool true) ∧ Below w.heap.size w w' := by
  go_enter Try.func10, Try.ntmps10
  go_wp2_with fail
  refine (compare_c a b ha hb _).mono ?_
  rintro e w1 ⟨rfl, hb1⟩
  rw [AB.out]
  go_wp2_with fail
  refine (compare_c b c hb hc _).mono ?_
  rintro e w2 ⟨rfl, hb2⟩
  rw [BC.out]
  have c2 := hb1.trans (hb2.mono hb1.size)
  go_wp2_with fail
  refine (compare_c b a hb ha _).mono ?_
  rintro e w3 ⟨rfl, hb3⟩
  rw [BA.out]
  have c3 := c2.trans (hb3.mono c2.size)
  go_wp2_with fail
  refine (compare_c a a ha ha _).mono ?_
  rintro e w4 ⟨rfl, hb4⟩
  rw [AA.out]
  have c4 := c3.trans (hb4.mono c3.size)
  go_wp2_with fail
  refine (compare_c a c ha hc _).mono ?_
  rintro e w5 ⟨rfl, hb5⟩
  rw [AC.out]
  have c5 := c4.trans (hb5.mono c4.size)
  go_wp2_with fail
  refine (key_c a ha _).mono ?_
  rintro e w6 ⟨rfl, hb6⟩
  have c6 := c5.trans (hb6.mono c5.size)
  go_wp2_with fail
  refine (key_c b hb _).mono ?_
  rintro e w7 ⟨rfl, hb7⟩
  have c7 := c6.trans (hb7.mono c6.size)
  have kn := KN.out
  go_wp2_with fail
  refine (live2_c _).mono ?_
  rintro e w8 ⟨rfl, hb8⟩
  go_wp2
  go_ret
  exact ⟨rfl, c7.trans (hb8.mono c7.size)⟩

set_option maxHeartbeats 2000000 in
theorem w_zm_nf (a b c : Nat) (ha : a < 18446744073709551616) (hb : b < 18446744073709551616) (hc : c < 18446744073709551616) (AB : Hid (cm (ky a) (ky b) = 0)) (BA : Hid (cm (ky b) (ky a) = 0))
    (AA : Hid (cm (ky a) (ky a) = 0))
    (BC : Hid (cm (ky b) (ky c) = -1)) (AC : Hid (cm (ky a) (ky c) = -1))
    (na : (FloatKind.f64.format.order a a != some Ordering.eq) = false) (l1 : (FloatKind.f64.format.order a b == some Ordering.lt) = false) (l2 : (FloatKind.f64.format.order a b == some Ordering.gt) = false)
    (KN : Hid (((ky a : Int) != (ky b : Int)) = false)) (w : World) :
    Calls Try.prog 10 #[.float .f64 a, .float .f64 b, .float .f64 c] w fun e w' => e = .returned (.bool true) ∧ Below w.heap.size w w' := by
  go_enter Try.func10, Try.ntmps10
  go_wp2_with fail
  refine (compare_c a b ha hb _).mono ?_
  rintro e w1 ⟨rfl, hb1⟩
  rw [AB.out]
  go_wp2_with fail
  refine (compare_c b c hb hc _).mono ?_
  rintro e w2 ⟨rfl, hb2⟩
  rw [BC.out]
  have c2 := hb1.trans (hb2.mono hb1.size)
  go_wp2_with fail
  refine (compare_c b a hb ha _).mono ?_
  rintro e w3 ⟨rfl, hb3⟩
  rw [BA.out]
  have c3 := c2.trans (hb3.mono c2.size)
  go_wp2_with fail
  refine (compare_c a a ha ha _).mono ?_
  rintro e w4 ⟨rfl, hb4⟩
  rw [AA.out]
  have c4 := c3.trans (hb4.mono c3.size)
  go_wp2_with fail
  refine (compare_c a c ha hc _).mono ?_
  rintro e w5 ⟨rfl, hb5⟩
  rw [AC.out]
  have c5 := c4.trans (hb5.mono c4.size)
  go_wp2_with fail
  refine (key_c a ha _).mono ?_
  rintro e w6 ⟨rfl, hb6⟩
  have c6 := c5.trans (hb6.mono c5.size)
  go_wp2_with fail
  refine (key_c b hb _).mono ?_
  rintro e w7 ⟨rfl, hb7⟩
  have c7 := c6.trans (hb7.mono c6.size)
  have kn := KN.out
  go_wp2_with fail
  refine (live2_c _).mono ?_
  rintro e w8 ⟨rfl, hb8⟩
  go_wp2
  go_ret
  exact ⟨rfl, c7.trans (hb8.mono c7.size)⟩

set_option maxHeartbeats 2000000 in
theorem w_zz_nt (a b c : Nat) (ha : a < 18446744073709551616) (hb : b < 18446744073709551616) (hc : c < 18446744073709551616) (AB : Hid (cm (ky a) (ky b) = 0)) (BA : Hid (cm (ky b) (ky a) = 0))
    (AA : Hid (cm (ky a) (ky a) = 0))
    (BC : Hid (cm (ky b) (ky c) = 0)) (AC : Hid (cm (ky a) (ky c) = 0))
    (na : (FloatKind.f64.format.order a a != some Ordering.eq) = true) (l1 : (FloatKind.f64.format.order a b == some Ordering.lt) = false) (l2 : (FloatKind.f64.format.order a b == some Ordering.gt) = false) (nb : (FloatKind.f64.format.order b b == some Ordering.eq) = false) (nb' : (FloatKind.f64.format.order b b != some Ordering.eq) = true)
    (KN : Hid (((ky a : Int) != (ky b : Int)) = false)) (w : World) :
    Calls Try.prog 10 #[.float .f64 a, .float .f64 b, .float .f64 c] w fun e w' => e = .returned (.bool true) ∧ Below w.heap.size w w' := by
  go_enter Try.func10, Try.ntmps10
  go_wp2_with fail
  refine (compare_c a b ha hb _).mono ?_
  rintro e w1 ⟨rfl, hb1⟩
  rw [AB.out]
  go_wp2_with fail
  refine (compare_c b c hb hc _).mono ?_
  rintro e w2 ⟨rfl, hb2⟩
  rw [BC.out]
  have c2 := hb1.trans (hb2.mono hb1.size)
  go_wp2_with fail
  refine (compare_c b a hb ha _).mono ?_
  rintro e w3 ⟨rfl, hb3⟩
  rw [BA.out]
  have c3 := c2.trans (hb3.mono c2.size)
  go_wp2_with fail
  refine (compare_c a a ha ha _).mono ?_
  rintro e w4 ⟨rfl, hb4⟩
  rw [AA.out]
  have c4 := c3.trans (hb4.mono c3.size)
  go_wp2_with fail
  refine (compare_c a c ha hc _).mono ?_
  rintro e w5 ⟨rfl, hb5⟩
  rw [AC.out]
  have c5 := c4.trans (hb5.mono c4.size)
  go_wp2_with fail
  refine (key_c a ha _).mono ?_
  rintro e w6 ⟨rfl, hb6⟩
  have c6 := c5.trans (hb6.mono c5.size)
  go_wp2_with fail
  refine (key_c b hb _).mono ?_
  rintro e w7 ⟨rfl, hb7⟩
  have c7 := c6.trans (hb7.mono c6.size)
  have kn := KN.out
  go_wp2_with fail
  refine (live2_c _).mono ?_
  rintro e w8 ⟨rfl, hb8⟩
  go_wp2
  go_ret
  exact ⟨rfl, c7.trans (hb8.mono c7.size)⟩

set_option maxHeartbeats 2000000 in
theorem w_zz_nf (a b c : Nat) (ha : a < 18446744073709551616) (hb : b < 18446744073709551616) (hc : c < 18446744073709551616) (AB : Hid (cm (ky a) (ky b) = 0)) (BA : Hid (cm (ky b) (ky a) = 0))
    (AA : Hid (cm (ky a) (ky a) = 0))
    (BC : Hid (cm (ky b) (ky c) = 0)) (AC : Hid (cm (ky a) (ky c) = 0))
    (na : (FloatKind.f64.format.order a a != some Ordering.eq) = false) (l1 : (FloatKind.f64.format.order a b == some Ordering.lt) = false) (l2 : (FloatKind.f64.format.order a b == some Ordering.gt) = false)
    (KN : Hid (((ky a : Int) != (ky b : Int)) = false)) (w : World) :
    Calls Try.prog 10 #[.float .f64 a, .float .f64 b, .float .f64 c] w fun e w' => e = .returned (.bool true) ∧ Below w.heap.size w w' := by
  go_enter Try.func10, Try.ntmps10
  go_wp2_with fail
  refine (compare_c a b ha hb _).mono ?_
  rintro e w1 ⟨rfl, hb1⟩
  rw [AB.out]
  go_wp2_with fail
  refine (compare_c b c hb hc _).mono ?_
  rintro e w2 ⟨rfl, hb2⟩
  rw [BC.out]
  have c2 := hb1.trans (hb2.mono hb1.size)
  go_wp2_with fail
  refine (compare_c b a hb ha _).mono ?_
  rintro e w3 ⟨rfl, hb3⟩
  rw [BA.out]
  have c3 := c2.trans (hb3.mono c2.size)
  go_wp2_with fail
  refine (compare_c a a ha ha _).mono ?_
  rintro e w4 ⟨rfl, hb4⟩
  rw [AA.out]
  have c4 := c3.trans (hb4.mono c3.size)
  go_wp2_with fail
  refine (compare_c a c ha hc _).mono ?_
  rintro e w5 ⟨rfl, hb5⟩
  rw [AC.out]
  have c5 := c4.trans (hb5.mono c4.size)
  go_wp2_with fail
  refine (key_c a ha _).mono ?_
  rintro e w6 ⟨rfl, hb6⟩
  have c6 := c5.trans (hb6.mono c5.size)
  go_wp2_with fail
  refine (key_c b hb _).mono ?_
  rintro e w7 ⟨rfl, hb7⟩
  have c7 := c6.trans (hb7.mono c6.size)
  have kn := KN.out
  go_wp2_with fail
  refine (live2_c _).mono ?_
  rintro e w8 ⟨rfl, hb8⟩
  go_wp2
  go_ret
  exact ⟨rfl, c7.trans (hb8.mono c7.size)⟩

set_option maxHeartbeats 2000000 in
theorem w_zp_nt (a b c : Nat) (ha : a < 18446744073709551616) (hb : b < 18446744073709551616) (hc : c < 18446744073709551616) (AB : Hid (cm (ky a) (ky b) = 0)) (BA : Hid (cm (ky b) (ky a) = 0))
    (AA : Hid (cm (ky a) (ky a) = 0))
    (BC : Hid (cm (ky b) (ky c) = 1))
    (na : (FloatKind.f64.format.order a a != some Ordering.eq) = true) (l1 : (FloatKind.f64.format.order a b == some Ordering.lt) = false) (l2 : (FloatKind.f64.format.order a b == some Ordering.gt) = false) (nb : (FloatKind.f64.format.order b b == some Ordering.eq) = false) (nb' : (FloatKind.f64.format.order b b != some Ordering.eq) = true)
    (KN : Hid (((ky a : Int) != (ky b : Int)) = false)) (w : World) :
    Calls Try.prog 10 #[.float .f64 a, .float .f64 b, .float .f64 c] w fun e w' => e = .returned (.bool true) ∧ Below w.heap.size w w' := by
  go_enter Try.func10, Try.ntmps10
  go_wp2_with fail
  refine (compare_c a b ha hb _).mono ?_
  rintro e w1 ⟨rfl, hb1⟩
  rw [AB.out]
  go_wp2_with fail
  refine (compare_c b c hb hc _).mono ?_
  rintro e w2 ⟨rfl, hb2⟩
  rw [BC.out]
  have c2 := hb1.trans (hb2.mono hb1.size)
  go_wp2_with fail
  refine (compare_c b a hb ha _).mono ?_
  rintro e w3 ⟨rfl, hb3⟩
  rw [BA.out]
  have c3 := c2.trans (hb3.mono c2.size)
  go_wp2_with fail
  refine (compare_c a a ha ha _).mono ?_
  rintro e w4 ⟨rfl, hb4⟩
  rw [AA.out]
  have c4 := c3.trans (hb4.mono c3.size)
  go_wp2_with fail
  have c5 := c4
  refine (key_c a ha _).mono ?_
  rintro e w6 ⟨rfl, hb6⟩
  have c6 := c5.trans (hb6.mono c5.size)
  go_wp2_with fail
  refine (key_c b hb _).mono ?_
  rintro e w7 ⟨rfl, hb7⟩
  have c7 := c6.trans (hb7.mono c6.size)
  have kn := KN.out
  go_wp2_with fail
  refine (live2_c _).mono ?_
  rintro e w8 ⟨rfl, hb8⟩
  go_wp2
  go_ret
  exact ⟨rfl, c7.trans (hb8.mono c7.size)⟩

set_option maxHeartbeats 2000000 in
theorem w_zp_nf (a b c : Nat) (ha : a < 18446744073709551616) (hb : b < 18446744073709551616) (hc : c < 18446744073709551616) (AB : Hid (cm (ky a) (ky b) = 0)) (BA : Hid (cm (ky b) (ky a) = 0))
    (AA : Hid (cm (ky a) (ky a) = 0))
    (BC : Hid (cm (ky b) (ky c) = 1))
    (na : (FloatKind.f64.format.order a a != some Ordering.eq) = false) (l1 : (FloatKind.f64.format.order a b == some Ordering.lt) = false) (l2 : (FloatKind.f64.format.order a b == some Ordering.gt) = false)
    (KN : Hid (((ky a : Int) != (ky b : Int)) = false)) (w : World) :
    Calls Try.prog 10 #[.float .f64 a, .float .f64 b, .float .f64 c] w fun e w' => e = .returned (.bool true) ∧ Below w.heap.size w w' := by
  go_enter Try.func10, Try.ntmps10
  go_wp2_with fail
  refine (compare_c a b ha hb _).mono ?_
  rintro e w1 ⟨rfl, hb1⟩
  rw [AB.out]
  go_wp2_with fail
  refine (compare_c b c hb hc _).mono ?_
  rintro e w2 ⟨rfl, hb2⟩
  rw [BC.out]
  have c2 := hb1.trans (hb2.mono hb1.size)
  go_wp2_with fail
  refine (compare_c b a hb ha _).mono ?_
  rintro e w3 ⟨rfl, hb3⟩
  rw [BA.out]
  have c3 := c2.trans (hb3.mono c2.size)
  go_wp2_with fail
  refine (compare_c a a ha ha _).mono ?_
  rintro e w4 ⟨rfl, hb4⟩
  rw [AA.out]
  have c4 := c3.trans (hb4.mono c3.size)
  go_wp2_with fail
  have c5 := c4
  refine (key_c a ha _).mono ?_
  rintro e w6 ⟨rfl, hb6⟩
  have c6 := c5.trans (hb6.mono c5.size)
  go_wp2_with fail
  refine (key_c b hb _).mono ?_
  rintro e w7 ⟨rfl, hb7⟩
  have c7 := c6.trans (hb7.mono c6.size)
  have kn := KN.out
  go_wp2_with fail
  refine (live2_c _).mono ?_
  rintro e w8 ⟨rfl, hb8⟩
  go_wp2
  go_ret
  exact ⟨rfl, c7.trans (hb8.mono c7.size)⟩

set_option maxHeartbeats 2000000 in
theorem w_pm_gtnt (a b c : Nat) (ha : a < 18446744073709551616) (hb : b < 18446744073709551616) (hc : c < 18446744073709551616) (AB : Hid (cm (ky a) (ky b) = 1)) (BA : Hid (cm (ky b) (ky a) = -1))
    (AA : Hid (cm (ky a) (ky a) = 0))
    (BC : Hid (cm (ky b) (ky c) = -1))
    (l2 : (FloatKind.f64.format.order a b == some Ordering.gt) = true) (na : (FloatKind.f64.format.order a a != some Ordering.eq) = true) (l1 : (FloatKind.f64.format.order a b == some Ordering.lt) = false) (nb : (FloatKind.f64.format.order b b == some Ordering.eq) = true) (nb' : (FloatKind.f64.format.order b b != some Ordering.eq) = false)
    (KN : Hid (((ky a : Int) != (ky b : Int)) = true)) (w : World) :
    Calls Try.prog 10 #[.float .f64 a, .float .f64 b, .float .f64 c] w fun e w' => e = .returned (.bool true) ∧ Below w.heap.size w w' := by
  go_enter Try.func10, Try.ntmps10
  go_wp2_with fail
  refine (compare_c a b ha hb _).mono ?_
  rintro e w1 ⟨rfl, hb1⟩
  rw [AB.out]
  go_wp2_with fail
  refine (compare_c b c hb hc _).mono ?_
  rintro e w2 ⟨rfl, hb2⟩
  rw [BC.out]
  have c2 := hb1.trans (hb2.mono hb1.size)
  go_wp2_with fail
  refine (compare_c b a hb ha _).mono ?_
  rintro e w3 ⟨rfl, hb3⟩
  rw [BA.out]
  have c3 := c2.trans (hb3.mono c2.size)
  go_wp2_with fail
  refine (compare_c a a ha ha _).mono ?_
  rintro e w4 ⟨rfl, hb4⟩
  rw [AA.out]
  have c4 := c3.trans (hb4.mono c3.size)
  go_wp2_with fail
  have c5 := c4
  refine (key_c a ha _).mono ?_
  rintro e w6 ⟨rfl, hb6⟩
  have c6 := c5.trans (hb6.mono c5.size)
  go_wp2_with fail
  refine (key_c b hb _).mono ?_
  rintro e w7 ⟨rfl, hb7⟩
  have c7 := c6.trans (hb7.mono c6.size)
  have kn := KN.out
  go_wp2_with fail
  refine (live2_c _).mono ?_
  rintro e w8 ⟨rfl, hb8⟩
  go_wp2
  go_ret
  exact ⟨rfl, c7.trans (hb8.mono c7.size)⟩

set_option maxHeartbeats 2000000 in
theorem w_pm_gtnf (a b c : Nat) (ha : a < 18446744073709551616) (hb : b < 18446744073709551616) (hc : c < 18446744073709551616) (AB : Hid (cm (ky a) (ky b) = 1)) (BA : Hid (cm (ky b) (ky a) = -1))
    (AA : Hid (cm (ky a) (ky a) = 0))
    (BC : Hid (cm (ky b) (ky c) = -1))
    (l2 : (FloatKind.f64.format.order a b == some Ordering.gt) = true) (na : (FloatKind.f64.format.order a a != some Ordering.eq) = false) (l1 : (FloatKind.f64.format.order a b == some Ordering.lt) = false)
    (KN : Hid (((ky a : Int) != (ky b : Int)) = true)) (w : World) :
    Calls Try.prog 10 #[.float .f64 a, .float .f64 b, .float .f64 c] w fun e w' => e = .returned (.bool true) ∧ Below w.heap.size w w' := by
  go_enter Try.func10, Try.ntmps10
  go_wp2_with fail
  refine (compare_c a b ha hb _).mono ?_
  rintro e w1 ⟨rfl, hb1⟩
  rw [AB.out]
  go_wp2_with fail
  refine (compare_c b c hb hc _).mono ?_
  rintro e w2 ⟨rfl, hb2⟩
  rw [BC.out]
  have c2 := hb1.trans (hb2.mono hb1.size)
  go_wp2_with fail
  refine (compare_c b a hb ha _).mono ?_
  rintro e w3 ⟨rfl, hb3⟩
  rw [BA.out]
  have c3 := c2.trans (hb3.mono c2.size)
  go_wp2_with fail
  refine (compare_c a a ha ha _).mono ?_
  rintro e w4 ⟨rfl, hb4⟩
  rw [AA.out]
  have c4 := c3.trans (hb4.mono c3.size)
  go_wp2_with fail
  have c5 := c4
  refine (key_c a ha _).mono ?_
  rintro e w6 ⟨rfl, hb6⟩
  have c6 := c5.trans (hb6.mono c5.size)
  go_wp2_with fail
  refine (key_c b hb _).mono ?_
  rintro e w7 ⟨rfl, hb7⟩
  have c7 := c6.trans (hb7.mono c6.size)
  have kn := KN.out
  go_wp2_with fail
  refine (live2_c _).mono ?_
  rintro e w8 ⟨rfl, hb8⟩
  go_wp2
  go_ret
  exact ⟨rfl, c7.trans (hb8.mono c7.size)⟩

set_option maxHeartbeats 2000000 in
theorem w_pm_gfnt (a b c : Nat) (ha : a < 18446744073709551616) (hb : b < 18446744073709551616) (hc : c < 18446744073709551616) (AB : Hid (cm (ky a) (ky b) = 1)) (BA : Hid (cm (ky b) (ky a) = -1))
    (AA : Hid (cm (ky a) (ky a) = 0))
    (BC : Hid (cm (ky b) (ky c) = -1))
    (l2 : (FloatKind.f64.format.order a b == some Ordering.gt) = false) (na : (FloatKind.f64.format.order a a != some Ordering.eq) = true) (l1 : (FloatKind.f64.format.order a b == some Ordering.lt) = false) (nb : (FloatKind.f64.format.order b b == some Ordering.eq) = true) (nb' : (FloatKind.f64.format.order b b != some Ordering.eq) = false)
    (KN : Hid (((ky a : Int) != (ky b : Int)) = true)) (w : World) :
    Calls Try.prog 10 #[.float .f64 a, .float .f64 b, .float .f64 c] w fun e w' => e = .returned (.bool true) ∧ Below w.heap.size w w' := by
  go_enter Try.func10, Try.ntmps10
  go_wp2_with fail
  refine (compare_c a b ha hb _).mono ?_
  rintro e w1 ⟨rfl, hb1⟩
  rw [AB.out]
  go_wp2_with fail
  refine (compare_c b c hb hc _).mono ?_
  rintro e w2 ⟨rfl, hb2⟩
  rw [BC.out]
  have c2 := hb1.trans (hb2.mono hb1.size)
  go_wp2_with fail
  refine (compare_c b a hb ha _).mono ?_
  rintro e w3 ⟨rfl, hb3⟩
  rw [BA.out]
  have c3 := c2.trans (hb3.mono c2.size)
  go_wp2_with fail
  refine (compare_c a a ha ha _).mono ?_
  rintro e w4 ⟨rfl, hb4⟩
  rw [AA.out]
  have c4 := c3.trans (hb4.mono c3.size)
  go_wp2_with fail
  have c5 := c4
  refine (key_c a ha _).mono ?_
  rintro e w6 ⟨rfl, hb6⟩
  have c6 := c5.trans (hb6.mono c5.size)
  go_wp2_with fail
  refine (key_c b hb _).mono ?_
  rintro e w7 ⟨rfl, hb7⟩
  have c7 := c6.trans (hb7.mono c6.size)
  have kn := KN.out
  go_wp2_with fail
  refine (live2_c _).mono ?_
  rintro e w8 ⟨rfl, hb8⟩
  go_wp2
  go_ret
  exact ⟨rfl, c7.trans (hb8.mono c7.size)⟩

set_option maxHeartbeats 2000000 in
theorem w_pm_gfnf (a b c : Nat) (ha : a < 18446744073709551616) (hb : b < 18446744073709551616) (hc : c < 18446744073709551616) (AB : Hid (cm (ky a) (ky b) = 1)) (BA : Hid (cm (ky b) (ky a) = -1))
    (AA : Hid (cm (ky a) (ky a) = 0))
    (BC : Hid (cm (ky b) (ky c) = -1))
    (l2 : (FloatKind.f64.format.order a b == some Ordering.gt) = false) (na : (FloatKind.f64.format.order a a != some Ordering.eq) = false) (l1 : (FloatKind.f64.format.order a b == some Ordering.lt) = false)
    (KN : Hid (((ky a : Int) != (ky b : Int)) = true)) (w : World) :
    Calls Try.prog 10 #[.float .f64 a, .float .f64 b, .float .f64 c] w fun e w' => e = .returned (.bool true) ∧ Below w.heap.size w w' := by
  go_enter Try.func10, Try.ntmps10
  go_wp2_with fail
  refine (compare_c a b ha hb _).mono ?_
  rintro e w1 ⟨rfl, hb1⟩
  rw [AB.out]
  go_wp2_with fail
  refine (compare_c b c hb hc _).mono ?_
  rintro e w2 ⟨rfl, hb2⟩
  rw [BC.out]
  have c2 := hb1.trans (hb2.mono hb1.size)
  go_wp2_with fail
  refine (compare_c b a hb ha _).mono ?_
  rintro e w3 ⟨rfl, hb3⟩
  rw [BA.out]
  have c3 := c2.trans (hb3.mono c2.size)
  go_wp2_with fail
  refine (compare_c a a ha ha _).mono ?_
  rintro e w4 ⟨rfl, hb4⟩
  rw [AA.out]
  have c4 := c3.trans (hb4.mono c3.size)
  go_wp2_with fail
  have c5 := c4
  refine (key_c a ha _).mono ?_
  rintro e w6 ⟨rfl, hb6⟩
  have c6 := c5.trans (hb6.mono c5.size)
  go_wp2_with fail
  refine (key_c b hb _).mono ?_
  rintro e w7 ⟨rfl, hb7⟩
  have c7 := c6.trans (hb7.mono c6.size)
  have kn := KN.out
  go_wp2_with fail
  refine (live2_c _).mono ?_
  rintro e w8 ⟨rfl, hb8⟩
  go_wp2
  go_ret
  exact ⟨rfl, c7.trans (hb8.mono c7.size)⟩

set_option maxHeartbeats 2000000 in
theorem w_pz_gtnt (a b c : Nat) (ha : a < 18446744073709551616) (hb : b < 18446744073709551616) (hc : c < 18446744073709551616) (AB : Hid (cm (ky a) (ky b) = 1)) (BA : Hid (cm (ky b) (ky a) = -1))
    (AA : Hid (cm (ky a) (ky a) = 0))
    (BC : Hid (cm (ky b) (ky c) = 0))
    (l2 : (FloatKind.f64.format.order a b == some Ordering.gt) = true) (na : (FloatKind.f64.format.order a a != some Ordering.eq) = true) (l1 : (FloatKind.f64.format.order a b == some Ordering.lt) = false) (nb : (FloatKind.f64.format.order b b == some Ordering.eq) = true) (nb' : (FloatKind.f64.format.order b b != some Ordering.eq) = false)
    (KN : Hid (((ky a : Int) != (ky b : Int)) = true)) (w : World) :
    Calls Try.prog 10 #[.float .f64 a, .float .f64 b, .float .f64 c] w fun e w' => e = .returned (.bool true) ∧ Below w.heap.size w w' := by
  go_enter Try.func10, Try.ntmps10
  go_wp2_with fail
  refine (compare_c a b ha hb _).mono ?_
  rintro e w1 ⟨rfl, hb1⟩
  rw [AB.out]
  go_wp2_with fail
  refine (compare_c b c hb hc _).mono ?_
  rintro e w2 ⟨rfl, hb2⟩
  rw [BC.out]
  have c2 := hb1.trans (hb2.mono hb1.size)
  go_wp2_with fail
  refine (compare_c b a hb ha _).mono ?_
  rintro e w3 ⟨rfl, hb3⟩
  rw [BA.out]
  have c3 := c2.trans (hb3.mono c2.size)
  go_wp2_with fail
  refine (compare_c a a ha ha _).mono ?_
  rintro e w4 ⟨rfl, hb4⟩
  rw [AA.out]
  have c4 := c3.trans (hb4.mono c3.size)
  go_wp2_with fail
  have c5 := c4
  refine (key_c a ha _).mono ?_
  rintro e w6 ⟨rfl, hb6⟩
  have c6 := c5.trans (hb6.mono c5.size)
  go_wp2_with fail
  refine (key_c b hb _).mono ?_
  rintro e w7 ⟨rfl, hb7⟩
  have c7 := c6.trans (hb7.mono c6.size)
  have kn := KN.out
  go_wp2_with fail
  refine (live2_c _).mono ?_
  rintro e w8 ⟨rfl, hb8⟩
  go_wp2
  go_ret
  exact ⟨rfl, c7.trans (hb8.mono c7.size)⟩

set_option maxHeartbeats 2000000 in
theorem w_pz_gtnf (a b c : Nat) (ha : a < 18446744073709551616) (hb : b < 18446744073709551616) (hc : c < 18446744073709551616) (AB : Hid (cm (ky a) (ky b) = 1)) (BA : Hid (cm (ky b) (ky a) = -1))
    (AA : Hid (cm (ky a) (ky a) = 0))
    (BC : Hid (cm (ky b) (ky c) = 0))
    (l2 : (FloatKind.f64.format.order a b == some Ordering.gt) = true) (na : (FloatKind.f64.format.order a a != some Ordering.eq) = false) (l1 : (FloatKind.f64.format.order a b == some Ordering.lt) = false)
    (KN : Hid (((ky a : Int) != (ky b : Int)) = true)) (w : World) :
    Calls Try.prog 10 #[.float .f64 a, .float .f64 b, .float .f64 c] w fun e w' => e = .returned (.bool true) ∧ Below w.heap.size w w' := by
  go_enter Try.func10, Try.ntmps10
  go_wp2_with fail
  refine (compare_c a b ha hb _).mono ?_
  rintro e w1 ⟨rfl, hb1⟩
  rw [AB.out]
  go_wp2_with fail
  refine (compare_c b c hb hc _).mono ?_
  rintro e w2 ⟨rfl, hb2⟩
  rw [BC.out]
  have c2 := hb1.trans (hb2.mono hb1.size)
  go_wp2_with fail
  refine (compare_c b a hb ha _).mono ?_
  rintro e w3 ⟨rfl, hb3⟩
  rw [BA.out]
  have c3 := c2.trans (hb3.mono c2.size)
  go_wp2_with fail
  refine (compare_c a a ha ha _).mono ?_
  rintro e w4 ⟨rfl, hb4⟩
  rw [AA.out]
  have c4 := c3.trans (hb4.mono c3.size)
  go_wp2_with fail
  have c5 := c4
  refine (key_c a ha _).mono ?_
  rintro e w6 ⟨rfl, hb6⟩
  have c6 := c5.trans (hb6.mono c5.size)
  go_wp2_with fail
  refine (key_c b hb _).mono ?_
  rintro e w7 ⟨rfl, hb7⟩
  have c7 := c6.trans (hb7.mono c6.size)
  have kn := KN.out
  go_wp2_with fail
  refine (live2_c _).mono ?_
  rintro e w8 ⟨rfl, hb8⟩
  go_wp2
  go_ret
  exact ⟨rfl, c7.trans (hb8.mono c7.size)⟩

set_option maxHeartbeats 2000000 in
theorem w_pz_gfnt (a b c : Nat) (ha : a < 18446744073709551616) (hb : b < 18446744073709551616) (hc : c < 18446744073709551616) (AB : Hid (cm (ky a) (ky b) = 1)) (BA : Hid (cm (ky b) (ky a) = -1))
    (AA : Hid (cm (ky a) (ky a) = 0))
    (BC : Hid (cm (ky b) (ky c) = 0))
    (l2 : (FloatKind.f64.format.order a b == some Ordering.gt) = false) (na : (FloatKind.f64.format.order a a != some Ordering.eq) = true) (l1 : (FloatKind.f64.format.order a b == some Ordering.lt) = false) (nb : (FloatKind.f64.format.order b b == some Ordering.eq) = true) (nb' : (FloatKind.f64.format.order b b != some Ordering.eq) = false)
    (KN : Hid (((ky a : Int) != (ky b : Int)) = true)) (w : World) :
    Calls Try.prog 10 #[.float .f64 a, .float .f64 b, .float .f64 c] w fun e w' => e = .returned (.bool true) ∧ Below w.heap.size w w' := by
  go_enter Try.func10, Try.ntmps10
  go_wp2_with fail
  refine (compare_c a b ha hb _).mono ?_
  rintro e w1 ⟨rfl, hb1⟩
  rw [AB.out]
  go_wp2_with fail
  refine (compare_c b c hb hc _).mono ?_
  rintro e w2 ⟨rfl, hb2⟩
  rw [BC.out]
  have c2 := hb1.trans (hb2.mono hb1.size)
  go_wp2_with fail
  refine (compare_c b a hb ha _).mono ?_
  rintro e w3 ⟨rfl, hb3⟩
  rw [BA.out]
  have c3 := c2.trans (hb3.mono c2.size)
  go_wp2_with fail
  refine (compare_c a a ha ha _).mono ?_
  rintro e w4 ⟨rfl, hb4⟩
  rw [AA.out]
  have c4 := c3.trans (hb4.mono c3.size)
  go_wp2_with fail
  have c5 := c4
  refine (key_c a ha _).mono ?_
  rintro e w6 ⟨rfl, hb6⟩
  have c6 := c5.trans (hb6.mono c5.size)
  go_wp2_with fail
  refine (key_c b hb _).mono ?_
  rintro e w7 ⟨rfl, hb7⟩
  have c7 := c6.trans (hb7.mono c6.size)
  have kn := KN.out
  go_wp2_with fail
  refine (live2_c _).mono ?_
  rintro e w8 ⟨rfl, hb8⟩
  go_wp2
  go_ret
  exact ⟨rfl, c7.trans (hb8.mono c7.size)⟩

set_option maxHeartbeats 2000000 in
theorem w_pz_gfnf (a b c : Nat) (ha : a < 18446744073709551616) (hb : b < 18446744073709551616) (hc : c < 18446744073709551616) (AB : Hid (cm (ky a) (ky b) = 1)) (BA : Hid (cm (ky b) (ky a) = -1))
    (AA : Hid (cm (ky a) (ky a) = 0))
    (BC : Hid (cm (ky b) (ky c) = 0))
    (l2 : (FloatKind.f64.format.order a b == some Ordering.gt) = false) (na : (FloatKind.f64.format.order a a != some Ordering.eq) = false) (l1 : (FloatKind.f64.format.order a b == some Ordering.lt) = false)
    (KN : Hid (((ky a : Int) != (ky b : Int)) = true)) (w : World) :
    Calls Try.prog 10 #[.float .f64 a, .float .f64 b, .float .f64 c] w fun e w' => e = .returned (.bool true) ∧ Below w.heap.size w w' := by
  go_enter Try.func10, Try.ntmps10
  go_wp2_with fail
  refine (compare_c a b ha hb _).mono ?_
  rintro e w1 ⟨rfl, hb1⟩
  rw [AB.out]
  go_wp2_with fail
  refine (compare_c b c hb hc _).mono ?_
  rintro e w2 ⟨rfl, hb2⟩
  rw [BC.out]
  have c2 := hb1.trans (hb2.mono hb1.size)
  go_wp2_with fail
  refine (compare_c b a hb ha _).mono ?_
  rintro e w3 ⟨rfl, hb3⟩
  rw [BA.out]
  have c3 := c2.trans (hb3.mono c2.size)
  go_wp2_with fail
  refine (compare_c a a ha ha _).mono ?_
  rintro e w4 ⟨rfl, hb4⟩
  rw [AA.out]
  have c4 := c3.trans (hb4.mono c3.size)
  go_wp2_with fail
  have c5 := c4
  refine (key_c a ha _).mono ?_
  rintro e w6 ⟨rfl, hb6⟩
  have c6 := c5.trans (hb6.mono c5.size)
  go_wp2_with fail
  refine (key_c b hb _).mono ?_
  rintro e w7 ⟨rfl, hb7⟩
  have c7 := c6.trans (hb7.mono c6.size)
  have kn := KN.out
  go_wp2_with fail
  refine (live2_c _).mono ?_
  rintro e w8 ⟨rfl, hb8⟩
  go_wp2
  go_ret
  exact ⟨rfl, c7.trans (hb8.mono c7.size)⟩

set_option maxHeartbeats 2000000 in
theorem w_pp_gtnt (a b c : Nat) (ha : a < 18446744073709551616) (hb : b < 18446744073709551616) (hc : c < 18446744073709551616) (AB : Hid (cm (ky a) (ky b) = 1)) (BA : Hid (cm (ky b) (ky a) = -1))
    (AA : Hid (cm (ky a) (ky a) = 0))
    (BC : Hid (cm (ky b) (ky c) = 1))
    (l2 : (FloatKind.f64.format.order a b == some Ordering.gt) = true) (na : (FloatKind.f64.format.order a a != some Ordering.eq) = true) (l1 : (FloatKind.f64.format.order a b == some Ordering.lt) = false) (nb : (FloatKind.f64.format.order b b == some Ordering.eq) = true) (nb' : (FloatKind.f64.format.order b b != some Ordering.eq) = false)
    (KN : Hid (((ky a : Int) != (ky b : Int)) = true)) (w : World) :
    Calls Try.prog 10 #[.float .f64 a, .float .f64 b, .float .f64 c] w fun e w' => e = .returned (.bool true) ∧ Below w.heap.size w w' := by
  go_enter Try.func10, Try.ntmps10
  go_wp2_with fail
  refine (compare_c a b ha hb _).mono ?_
  rintro e w1 ⟨rfl, hb1⟩
  rw [AB.out]
  go_wp2_with fail
  refine (compare_c b c hb hc _).mono ?_
  rintro e w2 ⟨rfl, hb2⟩
  rw [BC.out]
  have c2 := hb1.trans (hb2.mono hb1.size)
  go_wp2_with fail
  refine (compare_c b a hb ha _).mono ?_
  rintro e w3 ⟨rfl, hb3⟩
  rw [BA.out]
  have c3 := c2.trans (hb3.mono c2.size)
  go_wp2_with fail
  refine (compare_c a a ha ha _).mono ?_
  rintro e w4 ⟨rfl, hb4⟩
  rw [AA.out]
  have c4 := c3.trans (hb4.mono c3.size)
  go_wp2_with fail
  have c5 := c4
  refine (key_c a ha _).mono ?_
  rintro e w6 ⟨rfl, hb6⟩
  have c6 := c5.trans (hb6.mono c5.size)
  go_wp2_with fail
  refine (key_c b hb _).mono ?_
  rintro e w7 ⟨rfl, hb7⟩
  have c7 := c6.trans (hb7.mono c6.size)
  have kn := KN.out
  go_wp2_with fail
  refine (live2_c _).mono ?_
  rintro e w8 ⟨rfl, hb8⟩
  go_wp2
  go_ret
  exact ⟨rfl, c7.trans (hb8.mono c7.size)⟩

set_option maxHeartbeats 2000000 in
theorem w_pp_gtnf (a b c : Nat) (ha : a < 18446744073709551616) (hb : b < 18446744073709551616) (hc : c < 18446744073709551616) (AB : Hid (cm (ky a) (ky b) = 1)) (BA : Hid (cm (ky b) (ky a) = -1))
    (AA : Hid (cm (ky a) (ky a) = 0))
    (BC : Hid (cm (ky b) (ky c) = 1))
    (l2 : (FloatKind.f64.format.order a b == some Ordering.gt) = true) (na : (FloatKind.f64.format.order a a != some Ordering.eq) = false) (l1 : (FloatKind.f64.format.order a b == some Ordering.lt) = false)
    (KN : Hid (((ky a : Int) != (ky b : Int)) = true)) (w : World) :
    Calls Try.prog 10 #[.float .f64 a, .float .f64 b, .float .f64 c] w fun e w' => e = .returned (.bool true) ∧ Below w.heap.size w w' := by
  go_enter Try.func10, Try.ntmps10
  go_wp2_with fail
  refine (compare_c a b ha hb _).mono ?_
  rintro e w1 ⟨rfl, hb1⟩
  rw [AB.out]
  go_wp2_with fail
  refine (compare_c b c hb hc _).mono ?_
  rintro e w2 ⟨rfl, hb2⟩
  rw [BC.out]
  have c2 := hb1.trans (hb2.mono hb1.size)
  go_wp2_with fail
  refine (compare_c b a hb ha _).mono ?_
  rintro e w3 ⟨rfl, hb3⟩
  rw [BA.out]
  have c3 := c2.trans (hb3.mono c2.size)
  go_wp2_with fail
  refine (compare_c a a ha ha _).mono ?_
  rintro e w4 ⟨rfl, hb4⟩
  rw [AA.out]
  have c4 := c3.trans (hb4.mono c3.size)
  go_wp2_with fail
  have c5 := c4
  refine (key_c a ha _).mono ?_
  rintro e w6 ⟨rfl, hb6⟩
  have c6 := c5.trans (hb6.mono c5.size)
  go_wp2_with fail
  refine (key_c b hb _).mono ?_
  rintro e w7 ⟨rfl, hb7⟩
  have c7 := c6.trans (hb7.mono c6.size)
  have kn := KN.out
  go_wp2_with fail
  refine (live2_c _).mono ?_
  rintro e w8 ⟨rfl, hb8⟩
  go_wp2
  go_ret
  exact ⟨rfl, c7.trans (hb8.mono c7.size)⟩

set_option maxHeartbeats 2000000 in
theorem w_pp_gfnt (a b c : Nat) (ha : a < 18446744073709551616) (hb : b < 18446744073709551616) (hc : c < 18446744073709551616) (AB : Hid (cm (ky a) (ky b) = 1)) (BA : Hid (cm (ky b) (ky a) = -1))
    (AA : Hid (cm (ky a) (ky a) = 0))
    (BC : Hid (cm (ky b) (ky c) = 1))
    (l2 : (FloatKind.f64.format.order a b == some Ordering.gt) = false) (na : (FloatKind.f64.format.order a a != some Ordering.eq) = true) (l1 : (FloatKind.f64.format.order a b == some Ordering.lt) = false) (nb : (FloatKind.f64.format.order b b == some Ordering.eq) = true) (nb' : (FloatKind.f64.format.order b b != some Ordering.eq) = false)
    (KN : Hid (((ky a : Int) != (ky b : Int)) = true)) (w : World) :
    Calls Try.prog 10 #[.float .f64 a, .float .f64 b, .float .f64 c] w fun e w' => e = .returned (.bool true) ∧ Below w.heap.size w w' := by
  go_enter Try.func10, Try.ntmps10
  go_wp2_with fail
  refine (compare_c a b ha hb _).mono ?_
  rintro e w1 ⟨rfl, hb1⟩
  rw [AB.out]
  go_wp2_with fail
  refine (compare_c b c hb hc _).mono ?_
  rintro e w2 ⟨rfl, hb2⟩
  rw [BC.out]
  have c2 := hb1.trans (hb2.mono hb1.size)
  go_wp2_with fail
  refine (compare_c b a hb ha _).mono ?_
  rintro e w3 ⟨rfl, hb3⟩
  rw [BA.out]
  have c3 := c2.trans (hb3.mono c2.size)
  go_wp2_with fail
  refine (compare_c a a ha ha _).mono ?_
  rintro e w4 ⟨rfl, hb4⟩
  rw [AA.out]
  have c4 := c3.trans (hb4.mono c3.size)
  go_wp2_with fail
  have c5 := c4
  refine (key_c a ha _).mono ?_
  rintro e w6 ⟨rfl, hb6⟩
  have c6 := c5.trans (hb6.mono c5.size)
  go_wp2_with fail
  refine (key_c b hb _).mono ?_
  rintro e w7 ⟨rfl, hb7⟩
  have c7 := c6.trans (hb7.mono c6.size)
  have kn := KN.out
  go_wp2_with fail
  refine (live2_c _).mono ?_
  rintro e w8 ⟨rfl, hb8⟩
  go_wp2
  go_ret
  exact ⟨rfl, c7.trans (hb8.mono c7.size)⟩

set_option maxHeartbeats 2000000 in
theorem w_pp_gfnf (a b c : Nat) (ha : a < 18446744073709551616) (hb : b < 18446744073709551616) (hc : c < 18446744073709551616) (AB : Hid (cm (ky a) (ky b) = 1)) (BA : Hid (cm (ky b) (ky a) = -1))
    (AA : Hid (cm (ky a) (ky a) = 0))
    (BC : Hid (cm (ky b) (ky c) = 1))
    (l2 : (FloatKind.f64.format.order a b == some Ordering.gt) = false) (na : (FloatKind.f64.format.order a a != some Ordering.eq) = false) (l1 : (FloatKind.f64.format.order a b == some Ordering.lt) = false)
    (KN : Hid (((ky a : Int) != (ky b : Int)) = true)) (w : World) :
    Calls Try.prog 10 #[.float .f64 a, .float .f64 b, .float .f64 c] w fun e w' => e = .returned (.bool true) ∧ Below w.heap.size w w' := by
  go_enter Try.func10, Try.ntmps10
  go_wp2_with fail
  refine (compare_c a b ha hb _).mono ?_
  rintro e w1 ⟨rfl, hb1⟩
  rw [AB.out]
  go_wp2_with fail
  refine (compare_c b c hb hc _).mono ?_
  rintro e w2 ⟨rfl, hb2⟩
  rw [BC.out]
  have c2 := hb1.trans (hb2.mono hb1.size)
  go_wp2_with fail
  refine (compare_c b a hb ha _).mono ?_
  rintro e w3 ⟨rfl, hb3⟩
  rw [BA.out]
  have c3 := c2.trans (hb3.mono c2.size)
  go_wp2_with fail
  refine (compare_c a a ha ha _).mono ?_
  rintro e w4 ⟨rfl, hb4⟩
  rw [AA.out]
  have c4 := c3.trans (hb4.mono c3.size)
  go_wp2_with fail
  have c5 := c4
  refine (key_c a ha _).mono ?_
  rintro e w6 ⟨rfl, hb6⟩
  have c6 := c5.trans (hb6.mono c5.size)
  go_wp2_with fail
  refine (key_c b hb _).mono ?_
  rintro e w7 ⟨rfl, hb7⟩
  have c7 := c6.trans (hb7.mono c6.size)
  have kn := KN.out
  go_wp2_with fail
  refine (live2_c _).mono ?_
  rintro e w8 ⟨rfl, hb8⟩
  go_wp2
  go_ret
  exact ⟨rfl, c7.trans (hb8.mono c7.size)⟩

theorem walk (a b c : Nat) (wa : (Lit.float .f64 a).wf = true) (wb : (Lit.float .f64 b).wf = true) (wc : (Lit.float .f64 c).wf = true) (w : World) :
    Calls Try.prog 10 #[.float .f64 a, .float .f64 b, .float .f64 c] w fun e w' => e = .returned (.bool true) ∧ Below w.heap.size w w' := by
  have ha := f64_lt wa
  have hb := f64_lt wb
  have hc := f64_lt wc
  have AA := cm_eq (ky a)
  have sa := o_self a ha
  have sb := o_self b hb
  have sb' := o_self' b hb
  rcases cm_tri (ky a) (ky b) with ⟨h1, AB, BA⟩ | ⟨h1, AB, BA⟩ | ⟨h1, AB, BA⟩
  · have KN : ((ky a : Int) != (ky b : Int)) = true := by rw [bne_iff_ne]; omega
    have na : nn a = false := by
      cases h : nn a
      · rfl
      · have := ky_nan_le hb h; omega
    rw [na] at sa
    have l2 := gt_no ha hb (Nat.le_of_lt h1)
    rcases cm_tri (ky b) (ky c) with ⟨h2, BC, _⟩ | ⟨h2, BC, _⟩ | ⟨h2, BC, _⟩
    · have AC : cm (ky a) (ky c) = -1 := by rw [cm_lt (by omega)]
      cases l1 : (FloatKind.f64.format.order a b == some Ordering.lt)
      · exact w_mm_lf a b c ha hb hc AB BA AA BC AC l1 l2 sa KN w
      · exact w_mm_lt a b c ha hb hc AB BA AA BC AC l1 l2 sa KN w
    · have AC : cm (ky a) (ky c) = -1 := by rw [cm_lt (by omega)]
      cases l1 : (FloatKind.f64.format.order a b == some Ordering.lt)
      · exact w_mz_lf a b c ha hb hc AB BA AA BC AC l1 l2 sa KN w
      · exact w_mz_lt a b c ha hb hc AB BA AA BC AC l1 l2 sa KN w
    · cases l1 : (FloatKind.f64.format.order a b == some Ordering.lt)
      · exact w_mp_lf a b c ha hb hc AB BA AA BC l1 l2 sa KN w
      · exact w_mp_lt a b c ha hb hc AB BA AA BC l1 l2 sa KN w
  · have KN : ((ky a : Int) != (ky b : Int)) = false := by rw [h1]; simp
    have l1 := lt_no ha hb (Nat.le_of_eq h1.symm)
    have l2 := gt_no ha hb (Nat.le_of_eq h1)
    rcases cm_tri (ky b) (ky c) with ⟨h2, BC, _⟩ | ⟨h2, BC, _⟩ | ⟨h2, BC, _⟩
    · have AC : cm (ky a) (ky c) = -1 := by rw [cm_lt (by omega)]
      cases na : nn a
      · rw [na] at sa
        exact w_zm_nf a b c ha hb hc AB BA AA BC AC sa l1 l2 KN w
      · have nb : nn b = true := by
          cases h : nn b
          · have := (ky_top hb h).1
            rw [← h1, kyn na] at this; omega
          · rfl
        rw [na] at sa
        rw [nb] at sb sb'
        exact w_zm_nt a b c ha hb hc AB BA AA BC AC sa l1 l2 sb' sb KN w
    · have AC : cm (ky a) (ky c) = 0 := by rw [show ky a = ky c from by omega]; exact cm_eq _
      cases na : nn a
      · rw [na] at sa
        exact w_zz_nf a b c ha hb hc AB BA AA BC AC sa l1 l2 KN w
      · have nb : nn b = true := by
          cases h : nn b
          · have := (ky_top hb h).1
            rw [← h1, kyn na] at this; omega
          · rfl
        rw [na] at sa
        rw [nb] at sb sb'
        exact w_zz_nt a b c ha hb hc AB BA AA BC AC sa l1 l2 sb' sb KN w
    · cases na : nn a
      · rw [na] at sa
        exact w_zp_nf a b c ha hb hc AB BA AA BC sa l1 l2 KN w
      · have nb : nn b = true := by
          cases h : nn b
          · have := (ky_top hb h).1
            rw [← h1, kyn na] at this; omega
          · rfl
        rw [na] at sa
        rw [nb] at sb sb'
        exact w_zp_nt a b c ha hb hc AB BA AA BC sa l1 l2 sb' sb KN w
  · have KN : ((ky a : Int) != (ky b : Int)) = true := by rw [bne_iff_ne]; omega
    have l1 := lt_no ha hb (Nat.le_of_lt h1)
    rcases cm_tri (ky b) (ky c) with ⟨h2, BC, _⟩ | ⟨h2, BC, _⟩ | ⟨h2, BC, _⟩
    · cases na : nn a
      · rw [na] at sa
        cases l2 : (FloatKind.f64.format.order a b == some Ordering.gt)
        · exact w_pm_gfnf a b c ha hb hc AB BA AA BC l2 sa l1 KN w
        · exact w_pm_gtnf a b c ha hb hc AB BA AA BC l2 sa l1 KN w
      · have nb : nn b = false := by
          cases h : nn b
          · rfl
          · have := ky_nan_le ha h; omega
        rw [na] at sa
        rw [nb] at sb sb'
        cases l2 : (FloatKind.f64.format.order a b == some Ordering.gt)
        · exact w_pm_gfnt a b c ha hb hc AB BA AA BC l2 sa l1 sb' sb KN w
        · exact w_pm_gtnt a b c ha hb hc AB BA AA BC l2 sa l1 sb' sb KN w
    · cases na : nn a
      · rw [na] at sa
        cases l2 : (FloatKind.f64.format.order a b == some Ordering.gt)
        · exact w_pz_gfnf a b c ha hb hc AB BA AA BC l2 sa l1 KN w
        · exact w_pz_gtnf a b c ha hb hc AB BA AA BC l2 sa l1 KN w
      · have nb : nn b = false := by
          cases h : nn b
          · rfl
          · have := ky_nan_le ha h; omega
        rw [na] at sa
        rw [nb] at sb sb'
        cases l2 : (FloatKind.f64.format.order a b == some Ordering.gt)
        · exact w_pz_gfnt a b c ha hb hc AB BA AA BC l2 sa l1 sb' sb KN w
        · exact w_pz_gtnt a b c ha hb hc AB BA AA BC l2 sa l1 sb' sb KN w
    · cases na : nn a
      · rw [na] at sa
        cases l2 : (FloatKind.f64.format.order a b == some Ordering.gt)
        · exact w_pp_gfnf a b c ha hb hc AB BA AA BC l2 sa l1 KN w
        · exact w_pp_gtnf a b c ha hb hc AB BA AA BC l2 sa l1 KN w
      · have nb : nn b = false := by
          cases h : nn b
          · rfl
          · have := ky_nan_le ha h; omega
        rw [na] at sa
        rw [nb] at sb sb'
        cases l2 : (FloatKind.f64.format.order a b == some Ordering.gt)
        · exact w_pp_gfnt a b c ha hb hc AB BA AA BC l2 sa l1 sb' sb KN w
        · exact w_pp_gtnt a b c ha hb hc AB BA AA BC l2 sa l1 sb' sb KN w
end rankOrder
end Go.Proofs.Ytaahfcljcejemaa
