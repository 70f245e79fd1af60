/-
 Contracts of the small functions that bits leans on (math's, and the two of the document's answer that take nothing), and of bits.powers.
 The contract of bits.powers: the ten rows of powers of two.
 The contract of bits.times: a number times a power of two, where the format holds what comes of it and what lies between.
 Contracts of bits.size and bits.Float: the word of e and m, and of any 64 bits.
 Contracts of bits.part, bits.Kind, bits.Minus, bits.Canon.
 Contracts of bits.Canon, bits.Bits, bits.Same.
-/
import Derived.Test.YtkobmnbjeppnaaaGreatRows
import Derived.Test.YtkobmnbjeppnaaaGreatFa
import Derived.WalkKit
import Derived.WalkLawsBesides
import Derived.Lib.Hide
import Derived.Outline
import Derived.Deep.QuietTactic
import Derived.BigQuiet
section
namespace Go.Proofs.YtkobmnbjeppnaaaGreat
open Go.RowKit
open Fl
set_option maxRecDepth 100000
/-- a float is stored in its one cell -/
@[go_sem] theorem run_store_float {P : Program} (w : World) (a : Addr) (m : Mode) (k : FloatKind) (x : Nat) : (store a (.float k x) m).run P w = stored P w a (.float k x) m := run_store P w a _ m rfl
/-- the minus before a float -/
@[go_sem] theorem run_neg_float {P : Program} (w : World) (x : Nat) : (Op.unary .neg (.float .f64 x)).run P w = .ok (.float .f64 (Op.negFloat .f64 x)) w := rfl
theorem bits_of (x : Nat) (w : World) : (callFunc 124 #[.float .f64 x]).run Tryz.prog w = .ok (.value (.int .u64 x)) w := by
 rw [run_callFunc_extern Tryz.func124 (by kernel_rfl) (by kernel_rfl) (by kernel_rfl) (e := Extern.MathFloatBits.float64bits) (by kernel_rfl)]
 rfl
theorem from_bits (n : Int) (w : World) : (callFunc 123 #[.int .u64 n]).run Tryz.prog w = .ok (.value (.float .f64 n.toNat)) w := by
 rw [run_callFunc_extern Tryz.func123 (by kernel_rfl) (by kernel_rfl) (by kernel_rfl) (e := Extern.MathFloatBits.float64frombits) (by kernel_rfl)]
 rfl
theorem isNaN_c (x : Nat) (hx : x < 18446744073709551616) (w : World) :
  Calls Tryz.prog 120 #[.float .f64 x] w fun e w' => e = .returned (.bool (nn x)) ∧ w = w' := by
 have h1 := o_self x hx
 go_enter Tryz.func120, Tryz.ntmps120
 go_wp2
 go_ret
 exact ⟨rfl, rfl⟩
theorem abs_c (x : Nat) (hx : x < 18446744073709551616) (w : World) :
  Calls Tryz.prog 85 #[.float .f64 x] w fun e w' => e = .returned (.float .f64 (mg x)) ∧ w = w' := by
 have h1 := bits_of x
 have h2 := andnot_top x hx
 have h3 := from_bits ((mg x : Nat) : Int)
 go_enter Tryz.func85, Tryz.ntmps85
 go_wp2
 go_ret
 exact ⟨rfl, rfl⟩
theorem isInf_c (x : Nat) (hx : x < 18446744073709551616) (w : World) :
  Calls Tryz.prog 121 #[.float .f64 x, .int .i64 0] w fun e w' => e = .returned (.bool (decide (mg x = 9218868437227405312))) ∧ w = w' := by
 have hm := mg_lt x
 have h1 : (FloatKind.f64.format.order (mg x) 9218868437227405311 == some Ordering.gt) = decide (mg x = 9218868437227405312) := by
  cases h : nn (mg x)
  ·have hq : mg x ≤ 9218868437227405312 := by
    unfold nn at h; rw [Nat.mod_eq_of_lt hm] at h; simpa using h
   rw [o_gt (mg x) _ (by omega) (by omega) h (nn_small _ (by omega)), vl_small _ hm, vl_small _ (by omega)]
   exact decide_eq_decide.2 (by omega)
  ·rw [order_nn_left (mg x) _ (by omega) h]
   have hq : 9218868437227405312 < mg x := by
    unfold nn at h; rw [Nat.mod_eq_of_lt hm] at h; simpa using h
   have : ¬ mg x = 9218868437227405312 := by omega
   rw [decide_eq_false this]; rfl
 go_enter Tryz.func121, Tryz.ntmps121
 go_wp2_with fail
 refine (abs_c x hx _).mono ?_
 rintro e w' ⟨rfl, rfl⟩
 go_wp2
 go_ret
 exact ⟨rfl, rfl⟩
theorem signbit_c (x : Nat) (hx : x < 18446744073709551616) (w : World) :
  Calls Tryz.prog 125 #[.float .f64 x] w fun e w' => e = .returned (.bool (ng x)) ∧ w = w' := by
 have h1 := bits_of x
 have h2 : decide (wrap64 (x : Int) < 0) = ng x := by
  unfold wrap64 ng
  exact decide_eq_decide.2 (by omega)
 go_enter Tryz.func125, Tryz.ntmps125
 go_wp2
 go_ret
 exact ⟨rfl, rfl⟩
theorem top_c (w : World) :
  Calls Tryz.prog 90 #[] w fun e w' => e = .returned (.int .u64 9223372036854775808) ∧ w = w' := by
 go_enter Tryz.func90, Tryz.ntmps90
 go_wp2
 go_ret
 exact ⟨rfl, rfl⟩
theorem none_c (w : World) :
  Calls Tryz.prog 88 #[] w fun e w' => e = .returned (.int .u64 9221120237041090560) ∧ w = w' := by
 go_enter Tryz.func88, Tryz.ntmps88
 go_wp2
 go_ret
 exact ⟨rfl, rfl⟩
end Go.Proofs.YtkobmnbjeppnaaaGreat
end
section
namespace Go.Proofs.YtkobmnbjeppnaaaGreat
open Go.RowKit
open Fl
set_option maxRecDepth 100000
/-- the cells of the rows -/
def powCells : Array Value := #[.int .i64 512, .float .f64 6913025428013711360, .float .f64 2301339409586323456, .int .i64 256, .float .f64 5760103923406864384, .float .f64 3454260914193170432,
 .int .i64 128, .float .f64 5183643171103440896, .float .f64 4030721666496593920, .int .i64 64, .float .f64 4895412794951729152, .float .f64 4318952042648305664,
 .int .i64 32, .float .f64 4751297606875873280, .float .f64 4463067230724161536, .int .i64 16, .float .f64 4679240012837945344, .float .f64 4535124824762089472,
 .int .i64 8, .float .f64 4643211215818981376, .float .f64 4571153621781053440, .int .i64 4, .float .f64 4625196817309499392, .float .f64 4589168020290535424,
 .int .i64 2, .float .f64 4616189618054758400, .float .f64 4598175219545276416, .int .i64 1, .float .f64 4611686018427387904, .float .f64 4602678819172646912]
def powRows : Value := .agg powCells
/-- one row, as it is built -/
def powRow (a : Int) (x y : Nat) : Value := .agg #[.int .i64 a, .float .f64 x, .float .f64 y]
theorem build_row (a : Int) (x y : Nat) (w : World) : (Instr.build 133 #[(0, .int .i64 a), (1, .float .f64 x), (2, .float .f64 y)]).run Tryz.prog w = .ok (powRow a x y) w :=
 run_build w 133 _ _ (by kernel_rfl)
theorem build_all (w : World) : (Instr.build 134 #[(0, powRow 512 6913025428013711360 2301339409586323456), (1, powRow 256 5760103923406864384 3454260914193170432), (2, powRow 128 5183643171103440896 4030721666496593920),
  (3, powRow 64 4895412794951729152 4318952042648305664), (4, powRow 32 4751297606875873280 4463067230724161536), (5, powRow 16 4679240012837945344 4535124824762089472), (6, powRow 8 4643211215818981376 4571153621781053440),
  (7, powRow 4 4625196817309499392 4589168020290535424), (8, powRow 2 4616189618054758400 4598175219545276416), (9, powRow 1 4611686018427387904 4602678819172646912)]).run Tryz.prog w = .ok powRows w :=
 run_build w 134 _ _ (by kernel_rfl)
theorem below_setRow1 {B g : Nat} {w0 w : World} (hb : Below B w0 w) (hBg : B ≤ g) (cs : Array Value) : Below B w0 (w.setRow g cs) := by
 refine ⟨hb.os, hb.tape, hb.output, by rw [size_setRow]; exact hb.size, fun k hk => ?_⟩
 rw [setRow_other w g k cs (by omega)]
 exact hb.block k hk
theorem powers_c (w : World) :
  Calls Tryz.prog 122 #[] w fun e w' => e = .returned powRows ∧ Below w.heap.size w w' := by
 have b1 := build_row
 have b2 := build_all
 go_enter Tryz.func122, Tryz.ntmps122
 go_wp2_with (refine wpList_store_row rfl _ _ _ rfl w.heap.size powCells rfl rfl _ _ (heap_alloc_new _ _) (by kernel_rfl) (by kernel_rfl) (by kernel_rfl) ?_)
 refine bodyPost_ret (v := powRows) (results_cell_row Tryz.results122 _ _ w.heap.size 134 powCells (0, 0) _ rfl (setRow_heap _ _ _ _ _ _ (heap_alloc_new _ _)) Tryz.underlying134 (by kernel_rfl) (by kernel_rfl)) rfl ⟨rfl, ?_⟩
 exact below_setRow1 ((Below.refl _ _).alloc (Nat.le_refl _) _) (Nat.le_refl _) _
end Go.Proofs.YtkobmnbjeppnaaaGreat
end
section
namespace Go.Proofs.YtkobmnbjeppnaaaGreat
open Go.RowKit
open Fl
set_option maxRecDepth 100000
theorem index_row (k : Nat) (hk : k < 10) (w : World) : (Instr.index 134 powRows (.int .i64 (k : Int))).run Tryz.prog w = .ok (.agg #[.int .i64 (pw k), .float .f64 (pUp k), .float .f64 (pDn k)]) w := by
 have h : k = 0 ∨ k = 1 ∨ k = 2 ∨ k = 3 ∨ k = 4 ∨ k = 5 ∨ k = 6 ∨ k = 7 ∨ k = 8 ∨ k = 9 := by omega
 rcases h with rfl | rfl | rfl | rfl | rfl | rfl | rfl | rfl | rfl | rfl
 all_goals (refine Eq.trans (b := .ok _ w) ?_ rfl; kernel_rfl)
/-- block B holds row k -/
def HasRow (B k : Nat) (w : World) : Prop := w.cell? ⟨B, 0, none⟩ = some (.int .i64 (pw k)) ∧ w.cell? ⟨B, 1, none⟩ = some (.float .f64 (pUp k)) ∧ w.cell? ⟨B, 2, none⟩ = some (.float .f64 (pDn k))
theorem hasRow_drewN {B k : Nat} {w : World} (h : HasRow B k w) (n : Nat) : HasRow B k (w.drewN n) := h
theorem hasRow_new (w : World) (k : Nat) : HasRow w.heap.size k (w.alloc (.cells #[.int .i64 (pw k), .float .f64 (pUp k), .float .f64 (pDn k)] 133)) :=
 ⟨by rw [World.cell?_alloc_at _ _ _ _ rfl]; rfl, by rw [World.cell?_alloc_at _ _ _ _ rfl]; rfl, by rw [World.cell?_alloc_at _ _ _ _ rfl]; rfl⟩
set_option maxHeartbeats 1000000 in
theorem times_c (m t t' : Nat) (x : Int) (hm : m < 9007199254740992) (ht : t ≤ 2045) (ht' : t' ≤ 2045) (hx1 : (t : Int) + x ≤ t') (hx2 : (t' : Int) ≤ t + x) (w : World) :
  Calls Tryz.prog 84 #[.float .f64 (en m t), .int .i64 x] w fun e w' => e = .returned (.float .f64 (en m t')) ∧ Below w.heap.size w w' := by
 go_enter Tryz.func84, Tryz.ntmps84
 go_wp2_with fail
 refine (powers_c _).mono ?_
 rintro e w1 ⟨rfl, hb1⟩
 go_wp2_with fail
 go_loopw [0, 1, 8] (fun f x i wr => ∃ (k s : Nat) (y : Int), k ≤ 10 ∧ i = .int .i64 k ∧ f = .float .f64 (en m s) ∧ x = .int .i64 y ∧ s ≤ 2045 ∧ (s : Int) + y ≤ t' ∧ (t' : Int) ≤ s + y ∧ -(bd k) < y ∧ y < bd k ∧ Below w.heap.size w wr)
  (fun _ _ i _ => 10 - (intOf i).toNat)
 case atStart => exact ⟨0, t, x, by omega, rfl, rfl, rfl, ht, hx1, hx2, by rw [bd_zero]; omega, by rw [bd_zero]; omega, hb1⟩
 case round =>
  obtain ⟨k, s, y, hk, rfl, rfl, rfl, hs, hy1, hy2, hb3, hb4, hb⟩ := hrel
  obtain ⟨wo, rfl⟩ : ∃ wo : World, wo = wr := ⟨_, rfl⟩
  by_cases hlt : k < 10
  ·have hp := pw_bd k
   have hidx := index_row k hlt
   go_wp2_with fail
   clear hidx
   go_loopw [0, 1] (fun f x wi => ∃ (s1 : Nat) (y1 : Int), f = .float .f64 (en m s1) ∧ x = .int .i64 y1 ∧ s1 ≤ 2045 ∧ (s1 : Int) + y1 ≤ t' ∧ (t' : Int) ≤ s1 + y1 ∧ -(bd k) < y1 ∧ HasRow wo.heap.size k wi ∧ Below w.heap.size w wi)
    (fun _ x _ => (intOf x).toNat)
   case atStart => exact ⟨s, y, rfl, rfl, hs, hy1, hy2, hb3, hasRow_new _ _, hb.alloc hb.size _⟩
   case round =>
    obtain ⟨s1, y1, rfl, rfl, hs1, hz1, hz2, hz3, hrow, hbi⟩ := hrel
    obtain ⟨c0, c1, c2⟩ := id hrow
    by_cases hge : pw k ≤ y1
    ·have hmul := fun wx => run_float_arith (P := Tryz.prog) wx .mul 26 .f64 _ _ _ (mul_up m s1 k hm (by omega))
     go_wp2_with fail
     go_quiet (fail)
     go_wp2
     go_roundw
     case rel => exact ⟨s1 + (pw k).toNat, y1 - pw k, rfl, rfl, by omega, by omega, by omega, by omega, hasRow_drewN hrow _, below_drewN hbi _⟩
     case measure => simp only [intOf]; omega
    ·clear hs hy1 hy2 hb3 hb4
     go_wp2_with fail
     clear c0 c1 c2
     go_loopw [0, 1] (fun f x wi => ∃ (s2 : Nat) (y2 : Int), f = .float .f64 (en m s2) ∧ x = .int .i64 y2 ∧ s2 ≤ 2045 ∧ (s2 : Int) + y2 ≤ t' ∧ (t' : Int) ≤ s2 + y2 ∧ y2 < pw k ∧ HasRow wo.heap.size k wi ∧ Below w.heap.size w wi)
      (fun _ x _ => (-(intOf x)).toNat)
     case atStart => exact ⟨s1, y1, rfl, rfl, hs1, hz1, hz2, by omega, hrow, hbi⟩
     case round =>
      clear hs1 hz1 hz2 hz3 hge hrow hbi
      obtain ⟨s2, y2, rfl, rfl, hs2, hz1, hz2, hz3, hrow, hbi⟩ := hrel
      obtain ⟨c0, c1, c2⟩ := id hrow
      by_cases hle : y2 ≤ -(pw k)
      ·have hmul := fun wx => run_float_arith (P := Tryz.prog) wx .mul 26 .f64 _ _ _ (mul_dn m s2 k hm hs2 (by omega))
       go_wp2_with fail
       go_quiet (fail)
       go_wp2
       go_roundw
       case rel => exact ⟨s2 - (pw k).toNat, y2 + pw k, rfl, rfl, by omega, by omega, by omega, by omega, hasRow_drewN hrow _, below_drewN hbi _⟩
       case measure => simp only [intOf]; omega
      ·go_wp2
       go_roundw
       case rel => exact ⟨k + 1, s2, y2, by omega, by go_num, rfl, rfl, hs2, hz1, hz2, by rw [bd_succ]; omega, by rw [bd_succ]; omega, hbi⟩
       case measure => simp only [intOf]; omega
  ·obtain rfl : k = 10 := by omega
   rw [bd_ten] at hb3 hb4
   obtain rfl : s = t' := by omega
   go_wp2
   go_ret
   exact ⟨rfl, hb⟩
end Go.Proofs.YtkobmnbjeppnaaaGreat
end
section
namespace Go.Proofs.YtkobmnbjeppnaaaGreat
open Go.RowKit
open Fl
set_option maxRecDepth 100000
theorem ng_cases (u : Nat) : (ng u = true ∧ 9223372036854775808 ≤ u) ∨ (ng u = false ∧ u < 9223372036854775808) := by
 unfold ng
 by_cases h : 9223372036854775808 ≤ u
 ·exact .inl ⟨by simp [h], h⟩
 ·exact .inr ⟨by simp [h], by omega⟩
end Go.Proofs.YtkobmnbjeppnaaaGreat
end
section
namespace Go.Proofs.YtkobmnbjeppnaaaGreat
open Go.RowKit
open Fl
set_option maxRecDepth 100000
set_option maxHeartbeats 1000000 in
theorem part_c (q m : Nat) (hq1 : 1 ≤ q) (hq2 : q ≤ 2046) (hm : m < 4503599627370496) (w : World) :
  Calls Tryz.prog 86 #[.float .f64 (nw q m)] w fun e w' => e = .returned (.tuple #[.float .f64 (nw 1023 m), .int .i64 ((q : Int) - 1023)]) ∧ Below w.heap.size w w' := by
 go_enter Tryz.func86, Tryz.ntmps86
 go_wp2_with fail
 refine (powers_c _).mono ?_
 rintro e w1 ⟨rfl, hb1⟩
 go_wp2_with fail
 go_loopw [0, 4, 8] (fun f x i wr => ∃ (k d : Nat) (y : Int), k ≤ 10 ∧ i = .int .i64 k ∧ f = .float .f64 (nw d m) ∧ x = .int .i64 y ∧ 1 ≤ d ∧ d ≤ 2046 ∧ (d : Int) + y ≤ q ∧ (q : Int) ≤ d + y ∧ 1023 - bd k < d ∧ (d : Int) < 1023 + bd k ∧ Below w.heap.size w wr)
  (fun _ _ i _ => 10 - (intOf i).toNat)
 case atStart => exact ⟨0, q, 0, by omega, rfl, rfl, rfl, hq1, hq2, by omega, by omega, by rw [bd_zero]; omega, by rw [bd_zero]; omega, hb1⟩
 case round =>
  obtain ⟨k, d, y, hk, rfl, rfl, rfl, hd1, hd2, hy1, hy2, hb3, hb4, hb⟩ := hrel
  by_cases hlt : k < 10
  ·have hp := pw_bd k
   have hpd := bd_dbl k hlt
   have hidx := index_row k hlt
   have hup : pUp k = nw (1023 + (pw k).toNat) 0 := by unfold pUp nw; omega
   have hge := s_ge (nw d m) (pUp k) (by unfold nw; omega) (by unfold pUp; omega)
   by_cases h1 : 1023 + pw k ≤ d
   ·have h2 : pUp k ≤ nw d m := by unfold pUp nw; omega
    rw [decide_eq_true h2] at hge
    have hmul := fun wx => run_float_arith (P := Tryz.prog) wx .mul 26 .f64 _ _ _ (mul_nw d (d - (pw k).toNat) (1023 - (pw k).toNat) m hm hd1 hd2 (by omega) (by omega) (by omega) (by omega) (by omega))
    have hdn : (1023 - (pw k).toNat) * 4503599627370496 = pDn k := rfl
    rw [hdn] at hmul
    clear hup hdn h2
    go_wp2_with fail
    go_quiet (fail)
    go_wp2
    go_roundw
    case rel => exact ⟨k + 1, d - (pw k).toNat, y + pw k, by omega, by go_num, rfl, rfl, by omega, by omega, by omega, by omega, by rw [bd_succ]; omega, by rw [bd_succ]; omega, below_drewN (hb.alloc hb.size _) _⟩
    case measure => simp only [intOf]; omega
   ·have h2 : ¬ pUp k ≤ nw d m := by unfold pUp nw; omega
    rw [decide_eq_false h2] at hge
    have hmul := fun wx => run_float_arith (P := Tryz.prog) wx .mul 26 .f64 _ _ _ (mul_nw d (d + (pw k).toNat) (1023 + (pw k).toNat) m hm hd1 hd2 (by omega) (by omega) (by omega) (by omega) (by omega))
    have hdn : (1023 + (pw k).toNat) * 4503599627370496 = pUp k := rfl
    rw [hdn] at hmul
    have htw := s_lt (nw (d + (pw k).toNat) m) 4611686018427387904 (by unfold nw; omega) (by omega)
    clear hup hdn h2
    by_cases h3 : (d : Int) + pw k ≤ 1023
    ·have h4 : nw (d + (pw k).toNat) m < 4611686018427387904 := by unfold nw; omega
     rw [decide_eq_true h4] at htw
     go_wp2_with fail
     go_quiet (fail)
     go_wp2
     go_roundw
     case rel => exact ⟨k + 1, d + (pw k).toNat, y - pw k, by omega, by go_num, rfl, rfl, by omega, by omega, by omega, by omega, by rw [bd_succ]; omega, by rw [bd_succ]; omega, below_drewN (hb.alloc hb.size _) _⟩
     case measure => simp only [intOf]; omega
    ·have h4 : ¬ nw (d + (pw k).toNat) m < 4611686018427387904 := by unfold nw; omega
     rw [decide_eq_false h4] at htw
     go_wp2
     go_roundw
     case rel => exact ⟨k + 1, d, y, by omega, by go_num, rfl, rfl, by omega, by omega, by omega, by omega, by rw [bd_succ]; omega, by rw [bd_succ]; omega, hb.alloc hb.size _⟩
     case measure => simp only [intOf]; omega
  ·obtain rfl : k = 10 := by omega
   rw [bd_ten] at hb3 hb4
   obtain rfl : d = 1023 := by omega
   obtain rfl : y = (q : Int) - 1023 := by omega
   go_wp2
   go_ret2
   exact ⟨rfl, hb⟩
theorem kind_c (x : Nat) (hx : x < 18446744073709551616) (w : World) :
  Calls Tryz.prog 83 #[.float .f64 x] w fun e w' => e = .returned (.int .i64 (kd x)) ∧ w = w' := by
 have hm := mg_lt x
 cases hn : nn x
 ·have hz := o_zero x hx hn
  have hle : mg x ≤ 9218868437227405312 := by rw [nn_mg] at hn; simpa using hn
  by_cases h1 : mg x = 9218868437227405312
  ·have hk : kd x = 3 := by simp [kd, hn, h1]
   rw [hk]
   clear hz
   go_enter Tryz.func83, Tryz.ntmps83
   go_wp2_with (first | (go_at_call 120; refine (isNaN_c x hx _).mono ?_; rintro e w' ⟨rfl, rfl⟩; rw [hn]) | (go_at_call 121; refine (isInf_c x hx _).mono ?_; rintro e w' ⟨rfl, rfl⟩; rw [decide_eq_true h1]))
   go_ret
   exact ⟨rfl, rfl⟩
  ·by_cases h0 : mg x = 0
   ·have hk : kd x = 0 := by simp [kd, hn, h0]
    rw [hk]
    rw [decide_eq_true h0] at hz
    go_enter Tryz.func83, Tryz.ntmps83
    go_wp2_with (first | (go_at_call 120; refine (isNaN_c x hx _).mono ?_; rintro e w' ⟨rfl, rfl⟩; rw [hn]) | (go_at_call 121; refine (isInf_c x hx _).mono ?_; rintro e w' ⟨rfl, rfl⟩; rw [decide_eq_false h1]))
    go_ret
    exact ⟨rfl, rfl⟩
   ·rw [decide_eq_false h0] at hz
    have ht := s_lt (mg x) 4503599627370496 hle (by omega)
    by_cases h2 : mg x < 4503599627370496
    ·have hk : kd x = 1 := by simp [kd, hn, h0, h1, h2]
     rw [hk]
     rw [decide_eq_true h2] at ht
     go_enter Tryz.func83, Tryz.ntmps83
     go_wp2_with (first | (go_at_call 120; refine (isNaN_c x hx _).mono ?_; rintro e w' ⟨rfl, rfl⟩; rw [hn]) | (go_at_call 121; refine (isInf_c x hx _).mono ?_; rintro e w' ⟨rfl, rfl⟩; rw [decide_eq_false h1]) | (go_at_call 85; refine (abs_c x hx _).mono ?_; rintro e w' ⟨rfl, rfl⟩))
     go_ret
     exact ⟨rfl, rfl⟩
    ·have hk : kd x = 2 := by simp [kd, hn, h0, h1, h2]
     rw [hk]
     rw [decide_eq_false h2] at ht
     go_enter Tryz.func83, Tryz.ntmps83
     go_wp2_with (first | (go_at_call 120; refine (isNaN_c x hx _).mono ?_; rintro e w' ⟨rfl, rfl⟩; rw [hn]) | (go_at_call 121; refine (isInf_c x hx _).mono ?_; rintro e w' ⟨rfl, rfl⟩; rw [decide_eq_false h1]) | (go_at_call 85; refine (abs_c x hx _).mono ?_; rintro e w' ⟨rfl, rfl⟩))
     go_ret
     exact ⟨rfl, rfl⟩
 ·have hk : kd x = 4 := by simp [kd, hn]
  rw [hk]
  go_enter Tryz.func83, Tryz.ntmps83
  go_wp2_with (first | (go_at_call 120; refine (isNaN_c x hx _).mono ?_; rintro e w' ⟨rfl, rfl⟩; rw [hn]))
  go_ret
  exact ⟨rfl, rfl⟩
theorem minus_c (x : Nat) (hx : x < 18446744073709551616) (w : World) :
  Calls Tryz.prog 87 #[.float .f64 x] w fun e w' => e = .returned (.bool (!nn x && ng x)) ∧ w = w' := by
 cases hn : nn x
 ·go_enter Tryz.func87, Tryz.ntmps87
  go_wp2_with (first | (go_at_call 120; refine (isNaN_c x hx _).mono ?_; rintro e w' ⟨rfl, rfl⟩; rw [hn]) | (go_at_call 125; refine (signbit_c x hx _).mono ?_; rintro e w' ⟨rfl, rfl⟩))
  go_ret
  exact ⟨by simp, rfl⟩
 ·go_enter Tryz.func87, Tryz.ntmps87
  go_wp2_with (first | (go_at_call 120; refine (isNaN_c x hx _).mono ?_; rintro e w' ⟨rfl, rfl⟩; rw [hn]) | (go_at_call 125; refine (signbit_c x hx _).mono ?_; rintro e w' ⟨rfl, rfl⟩))
  go_ret
  exact ⟨rfl, rfl⟩
end Go.Proofs.YtkobmnbjeppnaaaGreat
end
section
namespace Go.Proofs.YtkobmnbjeppnaaaGreat
open Go.RowKit
open Fl
set_option maxRecDepth 100000
theorem kd_of (x : Nat) : (nn x = true ∧ kd x = 4 ∧ cb x = 9221120237041090560) ∨ (nn x = false ∧ cb x = x ∧ mg x ≤ 9218868437227405312 ∧
  ((kd x = 3 ∧ mg x = 9218868437227405312) ∨ (kd x = 0 ∧ mg x = 0) ∨ (kd x = 1 ∧ mg x < 4503599627370496) ∨ (kd x = 2 ∧ 4503599627370496 ≤ mg x ∧ mg x < 9218868437227405312))) := by
 cases hn : nn x
 ·right
  have hle : mg x ≤ 9218868437227405312 := by rw [nn_mg] at hn; simpa using hn
  refine ⟨rfl, by simp [cb, hn], hle, ?_⟩
  by_cases h1 : mg x = 9218868437227405312
  ·exact .inl ⟨by simp [kd, hn, h1], h1⟩
  ·by_cases h0 : mg x = 0
   ·exact .inr (.inl ⟨by simp [kd, hn, h0], h0⟩)
   ·by_cases h2 : mg x < 4503599627370496
    ·exact .inr (.inr (.inl ⟨by simp [kd, hn, h0, h1, h2], h2⟩))
    ·exact .inr (.inr (.inr ⟨by simp [kd, hn, h0, h1, h2], by omega, by omega⟩))
 ·exact .inl ⟨rfl, by simp [kd, hn], by simp [cb, hn]⟩
set_option maxHeartbeats 1000000 in
theorem bits_c (x : Nat) (hx : x < 18446744073709551616) (w : World) :
  Calls Tryz.prog 61 #[.float .f64 x] w fun e w' => e = .returned (.int .u64 (cb x)) ∧ Below w.heap.size w w' := by
 have hm := mg_lt x
 rcases kd_of x with ⟨hn, hk, hc⟩ | ⟨hn, hc, hle, hkk⟩
 ·rw [hc]
  clear hc
  go_enter Tryz.func61, Tryz.ntmps61
  go_wp2_with fail
  refine (kind_c x hx _).mono ?_
  rintro e w' ⟨rfl, rfl⟩
  rw [hk]
  go_wp2
  go_ret
  exact ⟨rfl, Below.refl _ _⟩
 ·rw [hc]
  have hor := or_top (mg x) hm
  have hsp := mg_split x hx
  rcases hkk with ⟨hk, h3⟩ | ⟨hk, h3⟩ | ⟨hk, h3⟩ | ⟨hk, h3, h4⟩
  ·rw [h3] at hor hsp
   clear h3 hm hle hc
   rcases hsp with ⟨hg, hv⟩ | ⟨hg, hv⟩
   all_goals
    have HV := Lib.hid hv
    clear hv
    go_enter Tryz.func61, Tryz.ntmps61
    go_wp2_with fail
    refine (kind_c x hx _).mono ?_
    rintro e w' ⟨rfl, rfl⟩
    rw [hk]
    go_wp2_with fail
    refine (minus_c x hx _).mono ?_
    rintro e w' ⟨rfl, rfl⟩
    rw [hn, hg]
    go_wp2
    go_ret
    exact ⟨by rw [HV.out]; rfl, Below.refl _ _⟩
  ·rw [h3] at hor hsp
   clear h3 hm hle hc
   rcases hsp with ⟨hg, hv⟩ | ⟨hg, hv⟩
   all_goals
    have HV := Lib.hid hv
    clear hv
    go_enter Tryz.func61, Tryz.ntmps61
    go_wp2_with fail
    refine (kind_c x hx _).mono ?_
    rintro e w' ⟨rfl, rfl⟩
    rw [hk]
    go_wp2_with fail
    refine (minus_c x hx _).mono ?_
    rintro e w' ⟨rfl, rfl⟩
    rw [hn, hg]
    go_wp2
    go_ret
    exact ⟨by rw [HV.out]; rfl, Below.refl _ _⟩
  ·have hcv := fun wx => run_convert_float_int (P := Tryz.prog) wx 26 75 .f64 .u64 (en (mg x) B) (mg x : Int) (by kernel_rfl) Tryz.underlying75 (whole_en (mg x) (by omega))
   have h5 := small_en (mg x) h3
   rcases hsp with ⟨hg, hv⟩ | ⟨hg, hv⟩
   all_goals
    have HV := Lib.hid hv
    have H5 := Lib.hid h5
    clear hv hc h5
    go_enter Tryz.func61, Tryz.ntmps61
    go_wp2_with fail
    refine (kind_c x hx _).mono ?_
    rintro e w' ⟨rfl, rfl⟩
    rw [hk]
    go_wp2_with fail
    refine (abs_c x hx _).mono ?_
    rintro e w' ⟨rfl, rfl⟩
    go_wp2_with fail
    rw [show Value.float .f64 (mg x) = Value.float .f64 (en (mg x) 0) from by rw [← H5.out]]
    refine (times_c (mg x) 0 B _ (by omega) (by omega) (by rw [B_eq]; omega) (by rw [B_eq]; omega) (by rw [B_eq]; omega) _).mono ?_
    rintro e w' ⟨rfl, hb⟩
    go_wp2_with fail
    refine (minus_c x hx _).mono ?_
    rintro e w' ⟨rfl, rfl⟩
    rw [hn, hg]
    go_wp2
    go_ret
    exact ⟨congrArg (fun n : Nat => Ending.returned (Value.int .u64 (n : Int))) HV.out.symm, hb⟩
  ·obtain ⟨q, f, hq1, hq2, hf, hqf⟩ : ∃ q f, 1 ≤ q ∧ q ≤ 2046 ∧ f < 4503599627370496 ∧ mg x = nw q f := ⟨mg x / 4503599627370496, mg x % 4503599627370496, by omega, by omega, by omega, by unfold nw; omega⟩
   have hmul := fun wx => run_float_arith (P := Tryz.prog) wx .mul 26 .f64 _ _ _ (mul_nw 1023 1075 1075 f hf (by omega) (by omega) (by omega) (by omega) (by omega) (by omega) (by omega))
   have hcv := fun wx => run_convert_float_int (P := Tryz.prog) wx 26 75 .f64 .u64 (nw 1075 f) ((4503599627370496 + f : Nat) : Int) (by kernel_rfl) Tryz.underlying75 (whole_nw f hf)
   have hand := and_part (4503599627370496 + f) (by omega)
   rw [show (4503599627370496 + f) % 4503599627370496 = f from by omega] at hand
   have hj : bits .or .u64 ((q : Int) * 4503599627370496) (f : Int) = ((mg x : Nat) : Int) := by
    rw [show (q : Int) * 4503599627370496 = ((q * 4503599627370496 : Nat) : Int) from by omega, or_join q f (by omega) hf, hqf]; rfl
   have h1075 : (1075 * 4503599627370496 : Nat) = 4841369599423283200 := by decide
   rw [h1075] at hmul
   generalize 4503599627370496 + f = hid at *
   rcases hsp with ⟨hg, hv⟩ | ⟨hg, hv⟩
   all_goals
    have HV := Lib.hid hv
    have H5 := Lib.hid hqf
    clear hv hc hqf h1075
    go_enter Tryz.func61, Tryz.ntmps61
    go_wp2_with fail
    refine (kind_c x hx _).mono ?_
    rintro e w' ⟨rfl, rfl⟩
    rw [hk]
    go_wp2_with fail
    refine (abs_c x hx _).mono ?_
    rintro e w' ⟨rfl, rfl⟩
    go_wp2_with fail
    rw [show Value.float .f64 (mg x) = Value.float .f64 (nw q f) from by rw [← H5.out]]
    refine (part_c q f hq1 hq2 hf _).mono ?_
    rintro e w' ⟨rfl, hb⟩
    go_wp2_with fail
    refine (minus_c x hx _).mono ?_
    rintro e w' ⟨rfl, rfl⟩
    rw [hn, hg]
    go_wp2
    go_ret
    exact ⟨congrArg (fun n : Nat => Ending.returned (Value.int .u64 (n : Int))) HV.out.symm, hb⟩
theorem same_c (x y : Nat) (hx : x < 18446744073709551616) (hy : y < 18446744073709551616) (w : World) :
  Calls Tryz.prog 44 #[.float .f64 x, .float .f64 y] w fun e w' => e = .returned (.bool ((cb x : Int) == (cb y : Int))) ∧ Below w.heap.size w w' := by
 go_enter Tryz.func44, Tryz.ntmps44
 go_wp2_with fail
 refine (bits_c x hx _).mono ?_
 rintro e w1 ⟨rfl, hb1⟩
 go_wp2_with fail
 refine (bits_c y hy _).mono ?_
 rintro e w2 ⟨rfl, hb2⟩
 go_wp2
 go_ret
 exact ⟨rfl, hb1.trans (hb2.mono hb1.size)⟩
end Go.Proofs.YtkobmnbjeppnaaaGreat
end
