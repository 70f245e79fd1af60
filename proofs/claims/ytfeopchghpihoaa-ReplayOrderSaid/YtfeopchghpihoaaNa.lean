/-
  Contracts of the small functions that bits leans on (math's, and the two of the document's answer that take nothing), and of bits.powers.
  The contract of bits.powers: the ten rows of powers of two.
  The contract of bits.times: a number times a power of two, where the format holds what comes of it and what lies between.
  Contracts of bits.size and bits.Float: the word of e and m, and of any 64 bits.
  Contracts of bits.part, bits.Kind, bits.Minus, bits.Canon.
  Contracts of bits.Canon, bits.Bits, bits.Same.
  Contracts of the document's answer for layer 1: Minus, Bits.
  Contract of the document's answer for layer 1: Bits. By where the number lies: no number, nought, endless, plain from one on, plain below one, tiny.
  Contract of the document's answer for layer 1: Bits, of plain and tiny numbers.
  Contracts of the document's answer for layer 1: Bits in all, Canon, Kind, Same, and Float.
  Contract of the document's answer for layer 1: Float, and what an operation that has no answer gives.
  Contract of the document's answer for layer 1: Float in all; contracts at whatever integer; and 'live' of layer 1's statements.
  Contracts of package rank's Key, Compare, Unkey, Between and of the document's.
  Contracts of package rank's Unkey and Between and of the document's.
  Contracts of package rank's Between and of the document's.
  Contracts of cmp.Compare of ints, and of the closures of package rank.
  Contract of package rank's first, at the two pairs of ways that are handed to it.
  Contracts of package rank's Before and Less, and of the document's.
  Contracts of the document's Before and Less; and 'live' of layer 2's statements.
-/
import Derived.Test.YtfeopchghpihoaaRows
import Derived.Test.YtfeopchghpihoaaFa
import Derived.WalkKit
import Derived.WalkLawsBesides
import Derived.Lib.Hide
import Derived.Outline
import Derived.Deep.QuietTactic
import Derived.BigQuiet
import Derived.LoopN
import Derived.Handy
section
section
namespace Go.Proofs.Ytfeopchghpihoaa
open Go.RowKit
open Fl
set_option maxRecDepth 100000

/-- a float is stored in its one cell -/
@[go_sem] theorem run_store_float {P : Program} (w : World) (a : Addr) (m : Mode) (k : FloatKind) (x : Nat) : (store a (.float k x) m).run P w = stored P w a (.float k x) m := run_store P w a _ m rfl

/-- the minus before a float -/
@[go_sem] theorem run_neg_float {P : Program} (w : World) (x : Nat) : (Op.unary .neg (.float .f64 x)).run P w = .ok (.float .f64 (Op.negFloat .f64 x)) w := rfl

theorem top_c (w : World) :
    Calls Try.prog 94 #[] w fun e w' => e = .returned (.int .u64 9223372036854775808) ∧ w = w' := by
  go_enter Try.func94, Try.ntmps94
  go_wp2
  go_ret
  exact ⟨rfl, rfl⟩

theorem none_c (w : World) :
    Calls Try.prog 92 #[] w fun e w' => e = .returned (.int .u64 9221120237041090560) ∧ w = w' := by
  go_enter Try.func92, Try.ntmps92
  go_wp2
  go_ret
  exact ⟨rfl, rfl⟩
end Go.Proofs.Ytfeopchghpihoaa
end

section
namespace Go.Proofs.Ytfeopchghpihoaa
open Go.RowKit
open Fl
set_option maxRecDepth 100000

/-- the cells of the rows -/
def powCells : Array Value := #[.int .i64 512, .float .f64 6913025428013711360, .float .f64 2301339409586323456, .int .i64 256, .float .f64 5760103923406864384, .float .f64 3454260914193170432,
  .int .i64 128, .float .f64 5183643171103440896, .float .f64 4030721666496593920, .int .i64 64, .float .f64 4895412794951729152, .float .f64 4318952042648305664,
  .int .i64 32, .float .f64 4751297606875873280, .float .f64 4463067230724161536, .int .i64 16, .float .f64 4679240012837945344, .float .f64 4535124824762089472,
  .int .i64 8, .float .f64 4643211215818981376, .float .f64 4571153621781053440, .int .i64 4, .float .f64 4625196817309499392, .float .f64 4589168020290535424,
  .int .i64 2, .float .f64 4616189618054758400, .float .f64 4598175219545276416, .int .i64 1, .float .f64 4611686018427387904, .float .f64 4602678819172646912]
def powRows : Value := .agg powCells
/-- one row, as it is built -/
def powRow (a : Int) (x y : Nat) : Value := .agg #[.int .i64 a, .float .f64 x, .float .f64 y]

theorem below_setRow1 {B g : Nat} {w0 w : World} (hb : Below B w0 w) (hBg : B ≤ g) (cs : Array Value) : Below B w0 (w.setRow g cs) := by
  refine ⟨hb.os, hb.tape, hb.output, by rw [size_setRow]; exact hb.size, fun k hk => ?_⟩
  rw [setRow_other w g k cs (by omega)]
  exact hb.block k hk

end Go.Proofs.Ytfeopchghpihoaa
end

section
namespace Go.Proofs.Ytfeopchghpihoaa
open Go.RowKit
open Fl
set_option maxRecDepth 100000

/-- block B holds row k -/
def HasRow (B k : Nat) (w : World) : Prop := w.cell? ⟨B, 0, none⟩ = some (.int .i64 (pw k)) ∧ w.cell? ⟨B, 1, none⟩ = some (.float .f64 (pUp k)) ∧ w.cell? ⟨B, 2, none⟩ = some (.float .f64 (pDn k))

theorem hasRow_drewN {B k : Nat} {w : World} (h : HasRow B k w) (n : Nat) : HasRow B k (w.drewN n) := h

end Go.Proofs.Ytfeopchghpihoaa
end

section
namespace Go.Proofs.Ytfeopchghpihoaa
open Go.RowKit
open Fl
set_option maxRecDepth 100000

/-- the word that size makes -/
def szw (e m : Nat) : Nat := if e = 2047 then (if m = 0 then 9218868437227405312 else 9221120237041090561) else e * 4503599627370496 + m

theorem ofNat_en (m : Nat) (hm : m < 9007199254740992) : floatOfInt .f64 (m : Int) = en m B := ofNat_eq m hm

theorem ng_cases (u : Nat) : (ng u = true ∧ 9223372036854775808 ≤ u) ∨ (ng u = false ∧ u < 9223372036854775808) := by
  unfold ng
  by_cases h : 9223372036854775808 ≤ u
  · exact .inl ⟨by simp [h], h⟩
  · exact .inr ⟨by simp [h], by omega⟩

/-- what size makes of e and m, and the minus before it -/
theorem szw_fl (u : Nat) (hu : u < 18446744073709551616) :
    (ng u = false → fl u = szw (u / 4503599627370496 % 2048) (u % 4503599627370496)) ∧ (ng u = true → fl u = Op.negFloat .f64 (szw (u / 4503599627370496 % 2048) (u % 4503599627370496))) := by
  have hs : szw (u / 4503599627370496 % 2048) (u % 4503599627370496) < 9223372036854775808 := by
    unfold szw; split <;> (try split) <;> omega
  have hn := neg_eq false _ hs
  have e1 : wd false (szw (u / 4503599627370496 % 2048) (u % 4503599627370496)) = szw (u / 4503599627370496 % 2048) (u % 4503599627370496) := by simp [wd]
  rw [e1] at hn
  rw [hn]
  unfold fl nn wd
  rcases ng_cases u with ⟨h1, h2⟩ | ⟨h1, h2⟩
  · refine ⟨fun h => absurd (h.symm.trans h1) (by simp), fun _ => ?_⟩
    rw [h1]
    simp only [Bool.not_false, if_true]
    unfold szw
    by_cases hq : 9218868437227405312 < u % 9223372036854775808
    · rw [decide_eq_true hq, if_pos rfl, if_pos (by omega), if_neg (by omega)]
    · rw [decide_eq_false hq, if_neg (by simp)]
      split
      · rw [if_pos (by omega)]; omega
      · omega
  · refine ⟨fun _ => ?_, fun h => absurd (h.symm.trans h1) (by simp)⟩
    rw [h1]
    simp only [Bool.false_eq_true, if_false]
    unfold szw
    by_cases hq : 9218868437227405312 < u % 9223372036854775808
    · rw [decide_eq_true hq, if_pos rfl, if_pos (by omega), if_neg (by omega)]
    · rw [decide_eq_false hq, if_neg (by simp)]
      split
      · rw [if_pos (by omega)]; omega
      · omega

end Go.Proofs.Ytfeopchghpihoaa
end

section
namespace Go.Proofs.Ytfeopchghpihoaa
open Go.RowKit
open Fl
set_option maxRecDepth 100000

end Go.Proofs.Ytfeopchghpihoaa
end

section
namespace Go.Proofs.Ytfeopchghpihoaa
open Go.RowKit
open Fl
set_option maxRecDepth 100000

theorem kd_of (x : Nat) : (nn x = true ∧ kd x = 4 ∧ cb x = 9221120237041090560) ∨ (nn x = false ∧ cb x = x ∧ mg x ≤ 9218868437227405312 ∧
    ((kd x = 3 ∧ mg x = 9218868437227405312) ∨ (kd x = 0 ∧ mg x = 0) ∨ (kd x = 1 ∧ mg x < 4503599627370496) ∨ (kd x = 2 ∧ 4503599627370496 ≤ mg x ∧ mg x < 9218868437227405312))) := by
  cases hn : nn x
  · right
    have hle : mg x ≤ 9218868437227405312 := by rw [nn_mg] at hn; simpa using hn
    refine ⟨rfl, by simp [cb, hn], hle, ?_⟩
    by_cases h1 : mg x = 9218868437227405312
    · exact .inl ⟨by simp [kd, hn, h1], h1⟩
    · by_cases h0 : mg x = 0
      · exact .inr (.inl ⟨by simp [kd, hn, h0], h0⟩)
      · by_cases h2 : mg x < 4503599627370496
        · exact .inr (.inr (.inl ⟨by simp [kd, hn, h0, h1, h2], h2⟩))
        · exact .inr (.inr (.inr ⟨by simp [kd, hn, h0, h1, h2], by omega, by omega⟩))
  · exact .inl ⟨rfl, by simp [kd, hn], by simp [cb, hn]⟩

end Go.Proofs.Ytfeopchghpihoaa
end
end

section
section
namespace Go.Proofs.Ytfeopchghpihoaa
open Go.RowKit
open Fl
set_option maxRecDepth 100000

theorem rMinus_c (x : Nat) (hx : x < 18446744073709551616) (w : World) :
    Calls Try.prog 93 #[.float .f64 x] w fun e w' => e = .returned (.bool (!nn x && ng x)) ∧ w = w' := by
  cases hn : nn x
  · have hz := o_zero x hx hn
    by_cases h0 : mg x = 0
    · rcases nought_of x hx h0 with ⟨hg, rfl⟩ | ⟨hg, rfl⟩
      · rw [hg]
        have h1 : (FloatKind.f64.format.order 9223372036854775808 0 == some Ordering.lt) = false := by decide
        have h2 : (FloatKind.f64.format.order 9223372036854775808 0 == some Ordering.eq) = true := by decide
        have h3 := fun wx => run_float_arith (P := Try.prog) wx .quo 36 .f64 _ _ _ inv_neg
        have h4 : (FloatKind.f64.format.order 18442240474082181120 0 == some Ordering.lt) = true := by decide
        clear hz h0 hg
        go_enter Try.func93, Try.ntmps93
        go_wp2
        go_ret
        exact ⟨rfl, rfl⟩
      · rw [hg]
        have h1 : (FloatKind.f64.format.order 0 0 == some Ordering.lt) = false := by decide
        have h2 : (FloatKind.f64.format.order 0 0 == some Ordering.eq) = true := by decide
        have h3 := fun wx => run_float_arith (P := Try.prog) wx .quo 36 .f64 _ _ _ inv_pos
        have h4 : (FloatKind.f64.format.order 9218868437227405312 0 == some Ordering.lt) = false := by decide
        clear hz h0 hg
        go_enter Try.func93, Try.ntmps93
        go_wp2
        go_ret
        exact ⟨rfl, rfl⟩
    · rw [decide_eq_false h0] at hz
      cases hg : ng x
      · have h1 := minus_pos x hx hn hg
        go_enter Try.func93, Try.ntmps93
        go_wp2
        go_ret
        exact ⟨rfl, rfl⟩
      · have h1 := minus_neg x hx hn hg h0
        go_enter Try.func93, Try.ntmps93
        go_wp2
        go_ret
        exact ⟨rfl, rfl⟩
  · have h1 : (FloatKind.f64.format.order x 0 == some Ordering.lt) = false := by rw [order_nn_left x 0 hx hn]; rfl
    have h2 : (FloatKind.f64.format.order x 0 == some Ordering.eq) = false := by rw [order_nn_left x 0 hx hn]; rfl
    go_enter Try.func93, Try.ntmps93
    go_wp2
    go_ret
    exact ⟨rfl, rfl⟩
end Go.Proofs.Ytfeopchghpihoaa
end

section
namespace Go.Proofs.Ytfeopchghpihoaa
open Go.RowKit
open Fl
set_option maxRecDepth 100000

/-- what comes behind the sign, as the function goes on: from slot 0 (the size) and slot 3 (the sign's share) on -/
theorem rBits_nan (x : Nat) (hx : x < 18446744073709551616) (hn : nn x = true) (w : World) :
    Calls Try.prog 75 #[.float .f64 x] w fun e w' => e = .returned (.int .u64 9221120237041090560) ∧ w = w' := by
  have h1 := o_self x hx
  rw [hn] at h1
  go_enter Try.func75, Try.ntmps75
  go_wp2_with fail
  refine (none_c _).mono ?_
  rintro e w' ⟨rfl, rfl⟩
  go_wp2
  go_ret
  exact ⟨rfl, rfl⟩

theorem rBits_zero (x : Nat) (hx : x < 18446744073709551616) (hn : nn x = false) (h0 : mg x = 0) (w : World) :
    Calls Try.prog 75 #[.float .f64 x] w fun e w' => e = .returned (.int .u64 (x : Int)) ∧ w = w' := by
  have h1 := o_self x hx
  rw [hn] at h1
  have h3 : (FloatKind.f64.format.order 0 0 == some Ordering.eq) = true := by decide
  have hmin := rMinus_c x hx
  rcases nought_of x hx h0 with ⟨hg, hv⟩ | ⟨hg, hv⟩
  · have h4 := neg_mg x hx hg
    rw [h0] at h4
    have HV := Lib.hid hv
    clear hv h0
    rw [hn, hg] at hmin
    have HM := Lib.hid hmin
    clear hmin
    go_enter Try.func75, Try.ntmps75
    go_wp2_with fail
    refine (HM.out _).mono ?_
    rintro e w' ⟨rfl, rfl⟩
    go_wp2_with fail
    refine (top_c _).mono ?_
    rintro e w' ⟨rfl, rfl⟩
    go_wp2
    go_ret
    exact ⟨congrArg (fun n : Nat => Ending.returned (Value.int .u64 (n : Int))) HV.out.symm, rfl⟩
  · subst hv
    rw [hn, hg] at hmin
    have HM := Lib.hid hmin
    clear hmin h0
    go_enter Try.func75, Try.ntmps75
    go_wp2_with fail
    refine (HM.out _).mono ?_
    rintro e w' ⟨rfl, rfl⟩
    go_wp2
    go_ret
    exact ⟨rfl, rfl⟩

theorem rBits_inf (x : Nat) (hx : x < 18446744073709551616) (hn : nn x = false) (h0 : mg x = 9218868437227405312) (w : World) :
    Calls Try.prog 75 #[.float .f64 x] w fun e w' => e = .returned (.int .u64 (x : Int)) ∧ w = w' := by
  have h1 := o_self x hx
  rw [hn] at h1
  have h3 : (FloatKind.f64.format.order 9218868437227405312 0 == some Ordering.eq) = false := by decide
  have h5 : (FloatKind.f64.format.order 9218868437227405312 9218868437227405312 == some Ordering.eq) = true := by decide
  have h6 := fun wx => run_float_arith (P := Try.prog) wx .mul 36 .f64 _ _ _ dbl_inf
  have hmin := rMinus_c x hx
  rcases mg_split x hx with ⟨hg, hv⟩ | ⟨hg, hv⟩
  · have h4 := neg_mg x hx hg
    rw [h0] at h4 hv
    have HV := Lib.hid hv
    clear hv h0
    rw [hn, hg] at hmin
    have HM := Lib.hid hmin
    clear hmin
    go_enter Try.func75, Try.ntmps75
    go_wp2_with fail
    refine (HM.out _).mono ?_
    rintro e w' ⟨rfl, rfl⟩
    go_wp2_with fail
    refine (top_c _).mono ?_
    rintro e w' ⟨rfl, rfl⟩
    go_wp2
    go_ret
    exact ⟨congrArg (fun n : Nat => Ending.returned (Value.int .u64 (n : Int))) HV.out.symm, rfl⟩
  · rw [h0] at hv
    subst hv
    rw [hn, hg] at hmin
    have HM := Lib.hid hmin
    clear hmin h0
    go_enter Try.func75, Try.ntmps75
    go_wp2_with fail
    refine (HM.out _).mono ?_
    rintro e w' ⟨rfl, rfl⟩
    go_wp2
    go_ret
    exact ⟨rfl, rfl⟩
end Go.Proofs.Ytfeopchghpihoaa
end

section
namespace Go.Proofs.Ytfeopchghpihoaa
open Go.RowKit
open Fl
set_option maxRecDepth 100000

theorem ret_u64 {a b : Int} (h : a = b) : Ending.returned (.int .u64 a) = .returned (.int .u64 b) := by rw [h]

set_option maxHeartbeats 1000000 in
theorem rBits_big (x q m : Nat) (hx : x < 18446744073709551616) (hn : nn x = false) (hq1 : 1023 ≤ q) (hq2 : q ≤ 2046) (hm : m < 4503599627370496) (h0 : mg x = nw q m) (w : World) :
    Calls Try.prog 75 #[.float .f64 x] w fun e w' => e = .returned (.int .u64 (x : Int)) ∧ w = w' := by
  have h1 := o_self x hx
  rw [hn] at h1
  have hmin := rMinus_c x hx
  have hnw : nw q m < 9218868437227405312 := nw_lt q m hq2 hm
  have hnw0 : 0 < nw q m := by unfold nw; omega
  have h3 : (FloatKind.f64.format.order (nw q m) 0 == some Ordering.eq) = false := by
    rw [s_eq (nw q m) 0 (by omega) (by omega)]; exact decide_eq_false (by omega)
  obtain ⟨d, hd, hde⟩ := dbl_ne (nw q m) hnw0 hnw
  have hmul := fun wx => run_float_arith (P := Try.prog) wx .mul 36 .f64 _ _ _ hd
  have hsub := fun wx => run_float_arith (P := Try.prog) wx .sub 36 .f64 _ _ _ (sub_nw m hm)
  have hcv := fun wx => run_convert_float_int (P := Try.prog) wx 36 112 .f64 .u64 (en m B) (m : Int) (by kernel_rfl) Try.underlying112 (whole_en m (by omega))
  rcases mg_split x hx with ⟨hg, hv⟩ | ⟨hg, hv⟩
  case' inl =>
    have h4 := neg_mg x hx hg
    rw [h0] at hv h4
    have HV : Hid ((x : Int) = 9223372036854775808 + (q : Int) * 4503599627370496 + m) := by
      show (x : Int) = _
      unfold nw at hv
      omega
    clear hv h0 hd
    rw [hn, hg] at hmin
    have HM := Lib.hid hmin
    clear hmin
    go_enter Try.func75, Try.ntmps75
    go_wp2_with fail
    refine (HM.out _).mono ?_
    rintro e w' ⟨rfl, rfl⟩
    go_wp2_with fail
    refine (top_c _).mono ?_
    rintro e w' ⟨rfl, rfl⟩
    go_wp2
  case' inr =>
    rw [h0] at hv
    subst hv
    have HV : Hid (((nw q m : Nat) : Int) = 0 + (q : Int) * 4503599627370496 + m) := by
      show ((nw q m : Nat) : Int) = _
      unfold nw
      omega
    rw [hn, hg] at hmin
    have HM := Lib.hid hmin
    clear hmin h0 hd
    go_enter Try.func75, Try.ntmps75
    go_wp2_with fail
    refine (HM.out _).mono ?_
    rintro e w' ⟨rfl, rfl⟩
    go_wp2
  all_goals
    clear hmul h1 h3 hde
    go_loop [0, 4] (fun f v => ∃ (k : Nat) (e : Int), f = .float .f64 (nw (q - k) m) ∧ v = .int .u64 e ∧ e ≤ 1023 + k ∧ 1023 + k ≤ e ∧ k + 1023 ≤ q) (fun _ v => (3000 - intOf v).toNat)
    case atStart => exact ⟨0, 1023, rfl, rfl, by omega, by omega, by omega⟩
    case round =>
      obtain ⟨k, e, rfl, rfl, he1, he2, hkq⟩ := hrel
      have hge := s_ge (nw (q - k) m) 4611686018427387904 (by unfold nw; omega) (by omega)
      by_cases hk : k + 1023 < q
      · rw [decide_eq_true (show 4611686018427387904 ≤ nw (q - k) m from by unfold nw; omega)] at hge
        have hmul := fun wx => run_float_arith (P := Try.prog) wx .mul 36 .f64 _ _ _ (mul_nw (q - k) (q - (k + 1)) 1022 m hm (by omega) (by omega) (by omega) (by omega) (by omega) (by omega) (by omega))
        rw [show (1022 * 4503599627370496 : Nat) = 4602678819172646912 from by decide] at hmul
        go_wp2
        go_round
        case rel => exact ⟨k + 1, e + 1, rfl, rfl, by omega, by omega, by omega⟩
        case measure => simp only [intOf]; omega
      · rw [decide_eq_false (show ¬ 4611686018427387904 ≤ nw (q - k) m from by unfold nw; omega)] at hge
        have hqk : q - k = 1023 := by omega
        rw [hqk] at hge ⊢
        clear hqk
        have hlt := s_lt (nw 1023 m) 4607182418800017408 (by unfold nw; omega) (by omega)
        rw [decide_eq_false (show ¬ nw 1023 m < 4607182418800017408 from by unfold nw; omega)] at hlt
        go_wp2
        refine wp_loop_rounds 1 ?_
        rw [rounds_succ]
        go_wp2
        clear hlt hge hsub
        go_loop [0, 5] (fun f v => ∃ j : Nat, j ≤ 52 ∧ v = .int .i64 j ∧ f = .float .f64 (en m (1022 + j))) (fun _ v => (52 - intOf v).toNat)
        case atStart => exact ⟨0, by omega, rfl, rfl⟩
        case round =>
          obtain ⟨j, hj, rfl, rfl⟩ := hrel
          by_cases hj2 : j < 52
          · have hmul := fun wx => run_float_arith (P := Try.prog) wx .mul 36 .f64 _ _ _ (mul_two m (1022 + j) (by omega) (by omega))
            go_wp2
            go_round
            case rel => exact ⟨j + 1, by omega, by go_num, rfl⟩
            case measure => simp only [intOf]; omega
          · obtain rfl : j = 52 := by omega
            rw [show en m (1022 + 52) = en m B from congrArg (en m) (show 1022 + 52 = B from rfl)]
            go_wp2
            go_ret
            exact ⟨ret_u64 (by rw [HV.out]; omega), rfl⟩
set_option maxHeartbeats 1000000 in
theorem rBits_low (x q m : Nat) (hx : x < 18446744073709551616) (hn : nn x = false) (hq1 : 1 ≤ q) (hq2 : q < 1023) (hm : m < 4503599627370496) (h0 : mg x = nw q m) (w : World) :
    Calls Try.prog 75 #[.float .f64 x] w fun e w' => e = .returned (.int .u64 (x : Int)) ∧ w = w' := by
  have h1 := o_self x hx
  rw [hn] at h1
  have hmin := rMinus_c x hx
  have hnw : nw q m < 9218868437227405312 := nw_lt q m (by omega) hm
  have hnw0 : 0 < nw q m := by unfold nw; omega
  have h3 : (FloatKind.f64.format.order (nw q m) 0 == some Ordering.eq) = false := by
    rw [s_eq (nw q m) 0 (by omega) (by omega)]; exact decide_eq_false (by omega)
  obtain ⟨d, hd, hde⟩ := dbl_ne (nw q m) hnw0 hnw
  have hmul := fun wx => run_float_arith (P := Try.prog) wx .mul 36 .f64 _ _ _ hd
  have hsub := fun wx => run_float_arith (P := Try.prog) wx .sub 36 .f64 _ _ _ (sub_nw m hm)
  have hcv := fun wx => run_convert_float_int (P := Try.prog) wx 36 112 .f64 .u64 (en m B) (m : Int) (by kernel_rfl) Try.underlying112 (whole_en m (by omega))
  rcases mg_split x hx with ⟨hg, hv⟩ | ⟨hg, hv⟩
  case' inl =>
    have h4 := neg_mg x hx hg
    rw [h0] at hv h4
    have HV : Hid ((x : Int) = 9223372036854775808 + (q : Int) * 4503599627370496 + m) := by
      show (x : Int) = _
      unfold nw at hv
      omega
    clear hv h0 hd
    rw [hn, hg] at hmin
    have HM := Lib.hid hmin
    clear hmin
    go_enter Try.func75, Try.ntmps75
    go_wp2_with fail
    refine (HM.out _).mono ?_
    rintro e w' ⟨rfl, rfl⟩
    go_wp2_with fail
    refine (top_c _).mono ?_
    rintro e w' ⟨rfl, rfl⟩
    go_wp2
  case' inr =>
    rw [h0] at hv
    subst hv
    have HV : Hid (((nw q m : Nat) : Int) = 0 + (q : Int) * 4503599627370496 + m) := by
      show ((nw q m : Nat) : Int) = _
      unfold nw
      omega
    rw [hn, hg] at hmin
    have HM := Lib.hid hmin
    clear hmin h0 hd
    go_enter Try.func75, Try.ntmps75
    go_wp2_with fail
    refine (HM.out _).mono ?_
    rintro e w' ⟨rfl, rfl⟩
    go_wp2
  all_goals
    clear hmul h1 h3 hde
    have hge := s_ge (nw q m) 4611686018427387904 (by unfold nw; omega) (by omega)
    rw [decide_eq_false (show ¬ 4611686018427387904 ≤ nw q m from by unfold nw; omega)] at hge
    refine wp_loop_rounds 1 ?_
    rw [rounds_succ]
    go_wp2
    clear hge
    go_loop [0, 4] (fun f v => ∃ (j : Nat) (e : Int), f = .float .f64 (nw (q + j) m) ∧ v = .int .u64 e ∧ e + j ≤ 1023 ∧ 1023 ≤ e + j ∧ q + j ≤ 1023) (fun _ v => (intOf v).toNat)
    case atStart => exact ⟨0, 1023, rfl, rfl, by omega, by omega, by omega⟩
    case round =>
      obtain ⟨j, e, rfl, rfl, he1, he2, hjq⟩ := hrel
      have hlt := s_lt (nw (q + j) m) 4607182418800017408 (by unfold nw; omega) (by omega)
      by_cases hj : q + j < 1023
      · rw [decide_eq_true (show nw (q + j) m < 4607182418800017408 from by unfold nw; omega)] at hlt
        have hmul := fun wx => run_float_arith (P := Try.prog) wx .mul 36 .f64 _ _ _ (mul_nw (q + j) (q + (j + 1)) 1024 m hm (by omega) (by omega) (by omega) (by omega) (by omega) (by omega) (by omega))
        rw [show (1024 * 4503599627370496 : Nat) = 4611686018427387904 from by decide] at hmul
        go_wp2
        go_round
        case rel => exact ⟨j + 1, e - 1, rfl, rfl, by omega, by omega, by omega⟩
        case measure => simp only [intOf]; omega
      · rw [decide_eq_false (show ¬ nw (q + j) m < 4607182418800017408 from by unfold nw; omega)] at hlt
        have hqk : q + j = 1023 := by omega
        rw [hqk] at hlt ⊢
        clear hqk
        go_wp2
        clear hlt hsub
        go_loop [0, 5] (fun f v => ∃ j : Nat, j ≤ 52 ∧ v = .int .i64 j ∧ f = .float .f64 (en m (1022 + j))) (fun _ v => (52 - intOf v).toNat)
        case atStart => exact ⟨0, by omega, rfl, rfl⟩
        case round =>
          obtain ⟨j, hj, rfl, rfl⟩ := hrel
          by_cases hj2 : j < 52
          · have hmul := fun wx => run_float_arith (P := Try.prog) wx .mul 36 .f64 _ _ _ (mul_two m (1022 + j) (by omega) (by omega))
            go_wp2
            go_round
            case rel => exact ⟨j + 1, by omega, by go_num, rfl⟩
            case measure => simp only [intOf]; omega
          · obtain rfl : j = 52 := by omega
            rw [show en m (1022 + 52) = en m B from congrArg (en m) (show 1022 + 52 = B from rfl)]
            go_wp2
            go_ret
            exact ⟨ret_u64 (by rw [HV.out]; omega), rfl⟩
set_option maxHeartbeats 1000000 in
theorem rBits_tiny (x m : Nat) (hx : x < 18446744073709551616) (hn : nn x = false) (hm1 : 0 < m) (hm : m < 4503599627370496) (h0 : mg x = m) (w : World) :
    Calls Try.prog 75 #[.float .f64 x] w fun e w' => e = .returned (.int .u64 (x : Int)) ∧ w = w' := by
  have h1 := o_self x hx
  rw [hn] at h1
  have hmin := rMinus_c x hx
  have hnw : m < 9218868437227405312 := by omega
  have hnw0 : 0 < m := hm1
  have h7 := small_en m hm
  have H7 := Lib.hid h7
  clear h7
  have h3 : (FloatKind.f64.format.order (m) 0 == some Ordering.eq) = false := by
    rw [s_eq (m) 0 (by omega) (by omega)]; exact decide_eq_false (by omega)
  obtain ⟨d, hd, hde⟩ := dbl_ne (m) hnw0 hnw
  have hmul := fun wx => run_float_arith (P := Try.prog) wx .mul 36 .f64 _ _ _ hd
  have hcv := fun wx => run_convert_float_int (P := Try.prog) wx 36 112 .f64 .u64 (en m B) (m : Int) (by kernel_rfl) Try.underlying112 (whole_en m (by omega))
  rcases mg_split x hx with ⟨hg, hv⟩ | ⟨hg, hv⟩
  case' inl =>
    have h4 := neg_mg x hx hg
    rw [h0] at hv h4
    have HV : Hid ((x : Int) = 9223372036854775808 + m) := by
      show (x : Int) = _
      omega
    clear hv h0 hd
    rw [hn, hg] at hmin
    have HM := Lib.hid hmin
    clear hmin
    go_enter Try.func75, Try.ntmps75
    go_wp2_with fail
    refine (HM.out _).mono ?_
    rintro e w' ⟨rfl, rfl⟩
    go_wp2_with fail
    refine (top_c _).mono ?_
    rintro e w' ⟨rfl, rfl⟩
    go_wp2
  case' inr =>
    rw [h0] at hv
    subst x
    have HV : Hid (((m : Nat) : Int) = 0 + m) := by
      show ((m : Nat) : Int) = _
      omega
    rw [hn, hg] at hmin
    have HM := Lib.hid hmin
    clear hmin h0 hd
    go_enter Try.func75, Try.ntmps75
    go_wp2_with fail
    refine (HM.out _).mono ?_
    rintro e w' ⟨rfl, rfl⟩
    go_wp2
  all_goals
    clear hmul h1 h3 hde
    have hge := s_ge m 4611686018427387904 (by omega) (by omega)
    rw [decide_eq_false (show ¬ 4611686018427387904 ≤ m from by omega)] at hge
    refine wp_loop_rounds 1 ?_
    rw [rounds_succ]
    go_wp2
    clear hge
    go_loop [0, 4] (fun f v => ∃ (j : Nat) (e : Int), f = .float .f64 (en m j) ∧ v = .int .u64 e ∧ e + j ≤ 1023 ∧ 1023 ≤ e + j ∧ j ≤ 1022) (fun _ v => (intOf v).toNat)
    case atStart => exact ⟨0, 1023, congrArg (Value.float .f64) H7.out, rfl, by omega, by omega, by omega⟩
    case round =>
      obtain ⟨j, e, rfl, rfl, he1, he2, hjq⟩ := hrel
      have hlm := en_small_lt m j hm hjq
      have hlt := s_lt (en m j) 4607182418800017408 (by omega) (by omega)
      rw [decide_eq_true hlm] at hlt
      by_cases hj : j < 1022
      · have hmul := fun wx => run_float_arith (P := Try.prog) wx .mul 36 .f64 _ _ _ (mul_two m j (by omega) (by omega))
        go_wp2
        go_round
        case rel => exact ⟨j + 1, e - 1, rfl, rfl, by omega, by omega, by omega⟩
        case measure => simp only [intOf]; omega
      · obtain rfl : j = 1022 := by omega
        go_wp2
        clear hlt hlm
        go_loop [0, 5] (fun f v => ∃ j : Nat, j ≤ 52 ∧ v = .int .i64 j ∧ f = .float .f64 (en m (1022 + j))) (fun _ v => (52 - intOf v).toNat)
        case atStart => exact ⟨0, by omega, rfl, rfl⟩
        case round =>
          obtain ⟨j, hj, rfl, rfl⟩ := hrel
          by_cases hj2 : j < 52
          · have hmul := fun wx => run_float_arith (P := Try.prog) wx .mul 36 .f64 _ _ _ (mul_two m (1022 + j) (by omega) (by omega))
            go_wp2
            go_round
            case rel => exact ⟨j + 1, by omega, by go_num, rfl⟩
            case measure => simp only [intOf]; omega
          · obtain rfl : j = 52 := by omega
            rw [show en m (1022 + 52) = en m B from congrArg (en m) (show 1022 + 52 = B from rfl)]
            go_wp2
            go_ret
            exact ⟨ret_u64 (by have := HV.out; omega), rfl⟩
end Go.Proofs.Ytfeopchghpihoaa
end

section
namespace Go.Proofs.Ytfeopchghpihoaa
open Go.RowKit
open Fl
set_option maxRecDepth 100000

theorem rBits_c (x : Nat) (hx : x < 18446744073709551616) (w : World) :
    Calls Try.prog 75 #[.float .f64 x] w fun e w' => e = .returned (.int .u64 (cb x : Int)) ∧ w = w' := by
  rcases kd_of x with ⟨hn, _, hc⟩ | ⟨hn, hc, hle, hkk⟩
  · rw [hc]
    exact rBits_nan x hx hn w
  · rw [hc]
    rcases hkk with ⟨_, h3⟩ | ⟨_, h3⟩ | ⟨_, h3⟩ | ⟨_, h3, h4⟩
    · exact rBits_inf x hx hn h3 w
    · exact rBits_zero x hx hn h3 w
    · rcases Nat.eq_zero_or_pos (mg x) with h0 | h0
      · exact rBits_zero x hx hn h0 w
      · exact rBits_tiny x (mg x) hx hn h0 h3 rfl w
    · have hq : mg x = nw (mg x / 4503599627370496) (mg x % 4503599627370496) := by unfold nw; omega
      rcases Nat.lt_or_ge (mg x / 4503599627370496) 1023 with h5 | h5
      · exact rBits_low x _ _ hx hn (by omega) h5 (by omega) hq w
      · exact rBits_big x _ _ hx hn h5 (by omega) (by omega) hq w

theorem rSame_c (x y : Nat) (hx : x < 18446744073709551616) (hy : y < 18446744073709551616) (w : World) :
    Calls Try.prog 58 #[.float .f64 x, .float .f64 y] w fun e w' => e = .returned (.bool ((cb x : Int) == (cb y : Int))) ∧ w = w' := by
  go_enter Try.func58, Try.ntmps58
  go_wp2_with fail
  refine (rBits_c x hx _).mono ?_
  rintro e w1 ⟨rfl, rfl⟩
  go_wp2_with fail
  refine (rBits_c y hy _).mono ?_
  rintro e w2 ⟨rfl, rfl⟩
  go_wp2
  go_ret
  exact ⟨rfl, rfl⟩

/-- e and m of the bits tell the kind -/
theorem kd_cb (x : Nat) :
    (kd x = 4 ∧ cb x / 4503599627370496 % 2048 = 2047 ∧ 0 < cb x % 4503599627370496) ∨ (kd x = 3 ∧ cb x / 4503599627370496 % 2048 = 2047 ∧ cb x % 4503599627370496 = 0) ∨
    (kd x = 2 ∧ cb x / 4503599627370496 % 2048 < 2047 ∧ 0 < cb x / 4503599627370496 % 2048) ∨ (kd x = 1 ∧ cb x / 4503599627370496 % 2048 = 0 ∧ 0 < cb x % 4503599627370496) ∨ (kd x = 0 ∧ cb x / 4503599627370496 % 2048 = 0 ∧ cb x % 4503599627370496 = 0) := by
  rcases kd_of x with ⟨_, hk, hc⟩ | ⟨hn, hc, hle, hkk⟩
  · left
    refine ⟨hk, ?_, ?_⟩ <;> rw [hc] <;> decide
  · right
    rw [hc]
    have hm : mg x = x % 9223372036854775808 := rfl
    rcases hkk with ⟨h, h3⟩ | ⟨h, h3⟩ | ⟨h, h3⟩ | ⟨h, h3, h4⟩
    · exact .inl ⟨h, by omega, by omega⟩
    · exact .inr (.inr (.inr ⟨h, by omega, by omega⟩))
    · by_cases h0 : mg x = 0
      · have : kd x = 0 := by simp [kd, hn, h0]
        rw [this] at h; cases h
      · exact .inr (.inr (.inl ⟨h, by omega, by omega⟩))
    · exact .inr (.inl ⟨h, by omega, by omega⟩)

end Go.Proofs.Ytfeopchghpihoaa
end

section
namespace Go.Proofs.Ytfeopchghpihoaa
open Go.RowKit
open Fl
set_option maxRecDepth 100000

/-- the bits of no number that the run gives where an operation has no answer -/
def nanW (x y : Nat) (w : World) : Nat := (Question.nanBits .f64 x y).cut (w.tape w.drawn (Question.nanBits .f64 x y))
theorem nanW_nn (x y : Nat) (w : World) : nn (nanW x y w) = true ∧ nanW x y w < 18446744073709551616 := by
  unfold nanW
  generalize w.tape w.drawn (Question.nanBits .f64 x y) = t
  have h : (Question.nanBits .f64 x y).cut t = (t % 2) * 2 ^ 63 + 0x7ff0000000000000 + 1 + (t / 2) % (2 ^ 52 - 1) := rfl
  rw [h, p63]
  have h2 : (2 : Nat) ^ 52 - 1 = 4503599627370495 := by decide
  rw [h2]
  unfold nn
  have hr : t / 2 % 4503599627370495 < 4503599627370495 := Nat.mod_lt _ (by omega)
  generalize t / 2 % 4503599627370495 = r at *
  rcases Nat.mod_two_eq_zero_or_one t with h0 | h0
  · rw [h0]
    exact ⟨decide_eq_true (by omega), by omega⟩
  · rw [h0]
    exact ⟨decide_eq_true (by omega), by omega⟩

theorem run_float_none (P : Program) (w : World) (op : BinOp) (t : TypeId) (x y : Nat) (ho : op = .quo ∨ op = .mul ∨ op = .add ∨ op = .sub) (h : floatBits op .f64 x y = none) :
    (binOp op t (.float .f64 x) (.float .f64 y)).run P w = .ok (.float .f64 (nanW x y w)) w.drew := by
  rcases ho with rfl | rfl | rfl | rfl
  all_goals
    have h' := h
    simp only [floatBits] at h'
    simp only [binOp, Op.floatArith]
    rw [h']
    rfl

theorem neg_cases (u r : Nat) (hr : r < 9223372036854775808) (h : mg u = r) (hu : u < 18446744073709551616) : (ng u = true → Op.negFloat .f64 r = u) ∧ (ng u = false → r = u) := by
  rcases mg_split u hu with ⟨h1, h2⟩ | ⟨h1, h2⟩
  · refine ⟨fun _ => ?_, fun h3 => absurd (h3.symm.trans h1) (by simp)⟩
    have := neg_eq false r hr
    have e1 : wd false r = r := by simp [wd]
    have e2 : wd (!false) r = u := by simp only [wd, Bool.not_false, if_true]; omega
    rw [e1, e2] at this
    exact this
  · exact ⟨fun h3 => absurd (h3.symm.trans h1) (by simp), fun _ => by omega⟩

theorem ge_top {u : Nat} {b : Bool} (h : ng u = b) : decide ((9223372036854775808 : Int) ≤ (u : Int)) = b := by
  rw [← h]; unfold ng; exact decide_eq_decide.2 (by omega)

theorem ret_f64 {a b : Nat} (h : a = b) : Ending.returned (.float .f64 a) = .returned (.float .f64 b) := by rw [h]

end Go.Proofs.Ytfeopchghpihoaa
end

section
namespace Go.Proofs.Ytfeopchghpihoaa
open Go.RowKit
open Fl
set_option maxRecDepth 100000

/-- what the document's Float gives for u -/
def RF (u y : Nat) : Prop := y < 18446744073709551616 ∧ (nn u = false → y = u) ∧ (nn u = true → nn y = true)

theorem kd_nan {N : Nat} (h : nn N = true) : kd N = 4 := by simp [kd, h]

end Go.Proofs.Ytfeopchghpihoaa
end
end

section
section
namespace Go.Proofs.Ytfeopchghpihoaa
open Go.RowKit
open Fl
set_option maxRecDepth 100000

end Go.Proofs.Ytfeopchghpihoaa
end

section
namespace Go.Proofs.Ytfeopchghpihoaa
open Go.RowKit
open Fl
set_option maxRecDepth 100000

theorem uk_neg {k : Nat} (h : ng k = false) : uk k = 18446744073709551615 - k := by unfold uk; rw [if_pos (ng_false.1 h)]
theorem uk_pos {k : Nat} (h : ng k = true) (hk : k < 18446744073709551616) : uk k = mg k := by
  have := ng_true.1 h
  unfold uk mg; rw [if_neg (by omega)]; omega

theorem ret_fb {a b : Nat} {p q : Bool} (h1 : a = b) (h2 : p = q) : Ending.returned (.tuple #[.float .f64 a, .bool p]) = .returned (.tuple #[.float .f64 b, .bool q]) := by rw [h1, h2]

theorem cb_rf2 {u y : Nat} (h : RF u y) : cb y = cb u := by
  obtain ⟨_, h1, h2⟩ := h
  cases hn : nn u
  · rw [h1 hn]
  · rw [cb_nan hn, cb_nan (h2 hn)]

/-- what the document's Unkey gives beside the number's word y -/
def rw' (k y : Nat) : Nat := if cn (uk k) then y else 0

theorem key_back {k y : Nat} (hk : k < 18446744073709551616) (h : RF (uk k) y) : ((ky y : Int) != (k : Int)) = !cn (uk k) := by
  have hu := uk_lt k hk
  have e := cb_rf2 h
  have hi := ky_iff h.1 hk
  cases hc : cn (uk k)
  · rw [Bool.not_false, bne_iff_ne]
    intro h2
    have h3 := hi.1 (by omega)
    rw [e] at h3
    have h4 := cn_cb hu
    rw [h3, hc] at h4
    cases h4
  · have h3 : cb (uk k) = uk k := by
      rcases (cn_iff _ hu).1 hc with h4 | h4
      · exact cb_num h4
      · rw [h4]; decide
    have h4 := hi.2 (by rw [e, h3])
    rw [h4]; simp

end Go.Proofs.Ytfeopchghpihoaa
end

section
namespace Go.Proofs.Ytfeopchghpihoaa
open Go.RowKit
open Fl
set_option maxRecDepth 100000

theorem far_iff (a b : Nat) : far a b = true ↔ 2 ≤ max a b - min a b := by unfold far; simp
theorem far_iff' (a b : Nat) : far a b = false ↔ max a b - min a b < 2 := by unfold far; simp

/-- the word that Between gives, and whether there is one -/
def bw (a b : Nat) : Nat := if far (ky a) (ky b) then uw (md (ky a) (ky b)) else 0
def bo (a b : Nat) : Bool := far (ky a) (ky b) && cn (uk (md (ky a) (ky b)))

end Go.Proofs.Ytfeopchghpihoaa
end

section
namespace Go.Proofs.Ytfeopchghpihoaa
open Go.RowKit
open Fl
set_option maxRecDepth 100000

/-- how two ints stand -/
def ci (x y : Int) : Int := if x < y then -1 else if y < x then 1 else 0

theorem cmpInt_c (x y : Int) (w : World) :
    Calls Try.prog 83 #[.int .i64 x, .int .i64 y] w fun e w' => e = .returned (.int .i64 (ci x y)) ∧ w = w' := by
  rcases Int.lt_trichotomy x y with h | h | h
  · have hc : ci x y = -1 := by unfold ci; rw [if_pos h]
    rw [hc]
    go_enter Try.func83, Try.ntmps83
    go_wp2
    go_ret
    exact ⟨rfl, rfl⟩
  · subst h
    have hc : ci x x = 0 := by unfold ci; rw [if_neg (by omega), if_neg (by omega)]
    rw [hc]
    go_enter Try.func83, Try.ntmps83
    go_wp2
    go_ret
    exact ⟨rfl, rfl⟩
  · have hc : ci x y = 1 := by unfold ci; rw [if_neg (by omega), if_pos h]
    rw [hc]
    go_enter Try.func83, Try.ntmps83
    go_wp2
    go_ret
    exact ⟨rfl, rfl⟩


end Go.Proofs.Ytfeopchghpihoaa
end

section
namespace Go.Proofs.Ytfeopchghpihoaa
open Go.RowKit
open Fl
set_option maxRecDepth 100000

/-- what 'first' tells of two ways, by what these tell -/
def fr (v1 v2 : Int) : Int := if v1 = 0 then v2 else v1

end Go.Proofs.Ytfeopchghpihoaa
end

section
namespace Go.Proofs.Ytfeopchghpihoaa
open Go.RowKit
open Fl
set_option maxRecDepth 100000

/-- three blocks, laid one behind the other -/
def three (w : World) (A B C : Array Value) (T T2 : TypeId) : World := ((w.alloc (.cells A T)).alloc (.cells B T)).alloc (.cells C T2)
theorem three_facts (w : World) (A B C : Array Value) (T T2 : TypeId) :
    (∀ j, (three w A B C T T2).cell? ⟨w.heap.size, j, none⟩ = A[j]?) ∧ (∀ j, (three w A B C T T2).cell? ⟨w.heap.size + 1, j, none⟩ = B[j]?) ∧ (∀ j, (three w A B C T T2).cell? ⟨w.heap.size + 1 + 1, j, none⟩ = C[j]?) ∧
    w.heap.size + 1 + 1 < (three w A B C T T2).heap.size ∧ Below w.heap.size w (three w A B C T T2) := by
  have s1 : (w.alloc (.cells A T)).heap.size = w.heap.size + 1 := by simp
  have s2 : ((w.alloc (.cells A T)).alloc (.cells B T)).heap.size = w.heap.size + 1 + 1 := by simp
  have s3 : (three w A B C T T2).heap.size = w.heap.size + 1 + 1 + 1 := by simp [three]
  refine ⟨fun j => ?_, fun j => ?_, fun j => ?_, by omega, ?_⟩
  · unfold three
    rw [World.cell?_alloc_past _ _ _ (by omega), World.cell?_alloc_past _ _ _ (by omega), World.cell?_alloc_at _ _ _ _ rfl]
  · unfold three
    rw [World.cell?_alloc_past _ _ _ (by omega), World.cell?_alloc_at _ _ _ _ s1.symm]
  · unfold three
    rw [World.cell?_alloc_at _ _ _ _ s2.symm]
  · exact (((Below.refl _ _).alloc (Nat.le_refl _) _).alloc (by omega) _).alloc (by omega) _

end Go.Proofs.Ytfeopchghpihoaa
end

section
namespace Go.Proofs.Ytfeopchghpihoaa
open Go.RowKit
open Fl
set_option maxRecDepth 100000

theorem ci_lt {x y : Int} (h : x < y) : ci x y = -1 := by unfold ci; rw [if_pos h]
theorem ci_eq (x : Int) : ci x x = 0 := by unfold ci; rw [if_neg (by omega), if_neg (by omega)]
theorem ci_gt {x y : Int} (h : y < x) : ci x y = 1 := by unfold ci; rw [if_neg (by omega), if_pos h]
theorem ci_neg (x y : Int) : decide (ci x y < 0) = decide (x < y) := by
  rcases Int.lt_trichotomy x y with h | h | h
  · rw [ci_lt h]; exact decide_eq_decide.2 (by omega)
  · subst h; rw [ci_eq]; exact decide_eq_decide.2 (by omega)
  · rw [ci_gt h]; exact decide_eq_decide.2 (by omega)
theorem fr_zero (v : Int) : fr 0 v = v := by simp [fr]
theorem ret_bool {a b : Bool} (h : a = b) : Ending.returned (.bool a) = .returned (.bool b) := by rw [h]

theorem cm_cases (a b : Nat) : (cm a b = -1 ∧ a < b) ∨ (cm a b = 0 ∧ a = b) ∨ (cm a b = 1 ∧ b < a) := by
  unfold cm
  by_cases h : a < b
  · rw [if_pos h]; exact .inl ⟨rfl, h⟩
  · rw [if_neg h]
    by_cases h2 : b < a
    · rw [if_pos h2]; exact .inr (.inr ⟨rfl, h2⟩)
    · rw [if_neg h2]; exact .inr (.inl ⟨rfl, by omega⟩)

end Go.Proofs.Ytfeopchghpihoaa
end
end
