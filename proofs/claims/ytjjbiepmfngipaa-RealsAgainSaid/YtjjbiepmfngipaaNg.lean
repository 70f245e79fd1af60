/-
  Contracts of the document's answer for layer 1: Minus, Bits.
-/
import Derived.Test.YtjjbiepmfngipaaNf
import Derived.Test.YtjjbiepmfngipaaFe
namespace Go.Proofs.Ytjjbiepmfngipaa
open Go.RowKit
open Fl
set_option maxRecDepth 100000

theorem rMinus_c (x : Nat) (hx : x < 18446744073709551616) (w : World) :
    Calls Try.prog 66 #[.float .f64 x] w fun e w' => e = .returned (.bool (!nn x && ng x)) ∧ w = w' := by
  cases hn : nn x
  · have hz := o_zero x hx hn
    by_cases h0 : mg x = 0
    · rcases nought_of x hx h0 with ⟨hg, rfl⟩ | ⟨hg, rfl⟩
      · rw [hg]
        have h1 : (FloatKind.f64.format.order 9223372036854775808 0 == some Ordering.lt) = false := by decide
        have h2 : (FloatKind.f64.format.order 9223372036854775808 0 == some Ordering.eq) = true := by decide
        have h3 := fun wx => run_float_arith (P := Try.prog) wx .quo 33 .f64 _ _ _ inv_neg
        have h4 : (FloatKind.f64.format.order 18442240474082181120 0 == some Ordering.lt) = true := by decide
        clear hz h0 hg
        go_enter Try.func66, Try.ntmps66
        go_wp2
        go_ret
        exact ⟨rfl, rfl⟩
      · rw [hg]
        have h1 : (FloatKind.f64.format.order 0 0 == some Ordering.lt) = false := by decide
        have h2 : (FloatKind.f64.format.order 0 0 == some Ordering.eq) = true := by decide
        have h3 := fun wx => run_float_arith (P := Try.prog) wx .quo 33 .f64 _ _ _ inv_pos
        have h4 : (FloatKind.f64.format.order 9218868437227405312 0 == some Ordering.lt) = false := by decide
        clear hz h0 hg
        go_enter Try.func66, Try.ntmps66
        go_wp2
        go_ret
        exact ⟨rfl, rfl⟩
    · rw [decide_eq_false h0] at hz
      cases hg : ng x
      · have h1 := minus_pos x hx hn hg
        go_enter Try.func66, Try.ntmps66
        go_wp2
        go_ret
        exact ⟨rfl, rfl⟩
      · have h1 := minus_neg x hx hn hg h0
        go_enter Try.func66, Try.ntmps66
        go_wp2
        go_ret
        exact ⟨rfl, rfl⟩
  · have h1 : (FloatKind.f64.format.order x 0 == some Ordering.lt) = false := by rw [order_nn_left x 0 hx hn]; rfl
    have h2 : (FloatKind.f64.format.order x 0 == some Ordering.eq) = false := by rw [order_nn_left x 0 hx hn]; rfl
    go_enter Try.func66, Try.ntmps66
    go_wp2
    go_ret
    exact ⟨rfl, rfl⟩
end Go.Proofs.Ytjjbiepmfngipaa
