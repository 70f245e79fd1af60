/-
 Contracts of the small functions that bits leans on (math's, and the two of the document's answer that take nothing), and of bits.powers.
 The contract of bits.powers: the ten rows of powers of two.
-/
import Derived.Test.YtojhenpaeedimaaRows
import Derived.Test.YtojhenpaeedimaaFf
import Derived.WalkKit
import Derived.WalkLawsBesides
import Derived.Lib.Hide
import Derived.Outline
section
namespace Go.Proofs.Ytojhenpaeedimaa
open Go.RowKit
open Fl
set_option maxRecDepth 100000
/-- a float is stored in its one cell -/
@[go_sem] theorem run_store_float {P : Program} (w : World) (a : Addr) (m : Mode) (k : FloatKind) (x : Nat) : (store a (.float k x) m).run P w = stored P w a (.float k x) m := run_store P w a _ m rfl
/-- the minus before a float -/
@[go_sem] theorem run_neg_float {P : Program} (w : World) (x : Nat) : (Op.unary .neg (.float .f64 x)).run P w = .ok (.float .f64 (Op.negFloat .f64 x)) w := rfl
theorem bits_of (x : Nat) (w : World) : (callFunc 72 #[.float .f64 x]).run Try.prog w = .ok (.value (.int .u64 x)) w := by
 rw [run_callFunc_extern Try.func72 (by kernel_rfl) (by kernel_rfl) (by kernel_rfl) (e := Extern.MathFloatBits.float64bits) (by kernel_rfl)]
 rfl
theorem from_bits (n : Int) (w : World) : (callFunc 71 #[.int .u64 n]).run Try.prog w = .ok (.value (.float .f64 n.toNat)) w := by
 rw [run_callFunc_extern Try.func71 (by kernel_rfl) (by kernel_rfl) (by kernel_rfl) (e := Extern.MathFloatBits.float64frombits) (by kernel_rfl)]
 rfl
theorem isNaN_c (x : Nat) (hx : x < 18446744073709551616) (w : World) :
  Calls Try.prog 68 #[.float .f64 x] w fun e w' => e = .returned (.bool (nn x)) ∧ w = w' := by
 have h1 := o_self x hx
 go_enter Try.func68, Try.ntmps68
 go_wp2
 go_ret
 exact ⟨rfl, rfl⟩
theorem abs_c (x : Nat) (hx : x < 18446744073709551616) (w : World) :
  Calls Try.prog 47 #[.float .f64 x] w fun e w' => e = .returned (.float .f64 (mg x)) ∧ w = w' := by
 have h1 := bits_of x
 have h2 := andnot_top x hx
 have h3 := from_bits ((mg x : Nat) : Int)
 go_enter Try.func47, Try.ntmps47
 go_wp2
 go_ret
 exact ⟨rfl, rfl⟩
theorem isInf_c (x : Nat) (hx : x < 18446744073709551616) (w : World) :
  Calls Try.prog 69 #[.float .f64 x, .int .i64 0] w fun e w' => e = .returned (.bool (decide (mg x = 9218868437227405312))) ∧ w = w' := by
 have hm := mg_lt x
 have h1 : (FloatKind.f64.format.order (mg x) 9218868437227405311 == some Ordering.gt) = decide (mg x = 9218868437227405312) := by
  cases h : nn (mg x)
  ·have hq : mg x ≤ 9218868437227405312 := by
    unfold nn at h; rw [Nat.mod_eq_of_lt hm] at h; simpa using h
   rw [o_gt (mg x) _ (by omega) (by omega) h (nn_small _ (by omega)), vl_small _ hm, vl_small _ (by omega)]
   exact decide_eq_decide.2 (by omega)
  ·rw [order_nn_left (mg x) _ (by omega) h]
   have hq : 9218868437227405312 < mg x := by
    unfold nn at h; rw [Nat.mod_eq_of_lt hm] at h; simpa using h
   have : ¬ mg x = 9218868437227405312 := by omega
   rw [decide_eq_false this]; rfl
 go_enter Try.func69, Try.ntmps69
 go_wp2_with fail
 refine (abs_c x hx _).mono ?_
 rintro e w' ⟨rfl, rfl⟩
 go_wp2
 go_ret
 exact ⟨rfl, rfl⟩
theorem signbit_c (x : Nat) (hx : x < 18446744073709551616) (w : World) :
  Calls Try.prog 73 #[.float .f64 x] w fun e w' => e = .returned (.bool (ng x)) ∧ w = w' := by
 have h1 := bits_of x
 have h2 : decide (wrap64 (x : Int) < 0) = ng x := by
  unfold wrap64 ng
  exact decide_eq_decide.2 (by omega)
 go_enter Try.func73, Try.ntmps73
 go_wp2
 go_ret
 exact ⟨rfl, rfl⟩
theorem nan_c (w : World) :
  Calls Try.prog 107 #[] w fun e w' => e = .returned (.float .f64 9221120237041090561) ∧ w = w' := by
 have h3 := from_bits 9221120237041090561
 go_enter Try.func107, Try.ntmps107
 go_wp2
 go_ret
 exact ⟨rfl, rfl⟩
theorem inf_c (w : World) :
  Calls Try.prog 108 #[.int .i64 1] w fun e w' => e = .returned (.float .f64 9218868437227405312) ∧ w = w' := by
 have h3 := from_bits 9218868437227405312
 go_enter Try.func108, Try.ntmps108
 go_wp2
 go_ret
 exact ⟨rfl, rfl⟩
theorem top_c (w : World) :
  Calls Try.prog 52 #[] w fun e w' => e = .returned (.int .u64 9223372036854775808) ∧ w = w' := by
 go_enter Try.func52, Try.ntmps52
 go_wp2
 go_ret
 exact ⟨rfl, rfl⟩
theorem none_c (w : World) :
  Calls Try.prog 50 #[] w fun e w' => e = .returned (.int .u64 9221120237041090560) ∧ w = w' := by
 go_enter Try.func50, Try.ntmps50
 go_wp2
 go_ret
 exact ⟨rfl, rfl⟩
end Go.Proofs.Ytojhenpaeedimaa
end
section
namespace Go.Proofs.Ytojhenpaeedimaa
open Go.RowKit
open Fl
set_option maxRecDepth 100000
/-- the cells of the rows -/
def powCells : Array Value := #[.int .i64 512, .float .f64 6913025428013711360, .float .f64 2301339409586323456, .int .i64 256, .float .f64 5760103923406864384, .float .f64 3454260914193170432,
 .int .i64 128, .float .f64 5183643171103440896, .float .f64 4030721666496593920, .int .i64 64, .float .f64 4895412794951729152, .float .f64 4318952042648305664,
 .int .i64 32, .float .f64 4751297606875873280, .float .f64 4463067230724161536, .int .i64 16, .float .f64 4679240012837945344, .float .f64 4535124824762089472,
 .int .i64 8, .float .f64 4643211215818981376, .float .f64 4571153621781053440, .int .i64 4, .float .f64 4625196817309499392, .float .f64 4589168020290535424,
 .int .i64 2, .float .f64 4616189618054758400, .float .f64 4598175219545276416, .int .i64 1, .float .f64 4611686018427387904, .float .f64 4602678819172646912]
def powRows : Value := .agg powCells
/-- one row, as it is built -/
def powRow (a : Int) (x y : Nat) : Value := .agg #[.int .i64 a, .float .f64 x, .float .f64 y]
theorem build_row (a : Int) (x y : Nat) (w : World) : (Instr.build 100 #[(0, .int .i64 a), (1, .float .f64 x), (2, .float .f64 y)]).run Try.prog w = .ok (powRow a x y) w :=
 run_build w 100 _ _ (by kernel_rfl)
theorem build_all (w : World) : (Instr.build 101 #[(0, powRow 512 6913025428013711360 2301339409586323456), (1, powRow 256 5760103923406864384 3454260914193170432), (2, powRow 128 5183643171103440896 4030721666496593920),
  (3, powRow 64 4895412794951729152 4318952042648305664), (4, powRow 32 4751297606875873280 4463067230724161536), (5, powRow 16 4679240012837945344 4535124824762089472), (6, powRow 8 4643211215818981376 4571153621781053440),
  (7, powRow 4 4625196817309499392 4589168020290535424), (8, powRow 2 4616189618054758400 4598175219545276416), (9, powRow 1 4611686018427387904 4602678819172646912)]).run Try.prog w = .ok powRows w :=
 run_build w 101 _ _ (by kernel_rfl)
theorem below_setRow1 {B g : Nat} {w0 w : World} (hb : Below B w0 w) (hBg : B ≤ g) (cs : Array Value) : Below B w0 (w.setRow g cs) := by
 refine ⟨hb.os, hb.tape, hb.output, by rw [size_setRow]; exact hb.size, fun k hk => ?_⟩
 rw [setRow_other w g k cs (by omega)]
 exact hb.block k hk
theorem powers_c (w : World) :
  Calls Try.prog 70 #[] w fun e w' => e = .returned powRows ∧ Below w.heap.size w w' := by
 have b1 := build_row
 have b2 := build_all
 go_enter Try.func70, Try.ntmps70
 go_wp2_with (refine wpList_store_row rfl _ _ _ rfl w.heap.size powCells rfl rfl _ _ (heap_alloc_new _ _) (by kernel_rfl) (by kernel_rfl) (by kernel_rfl) ?_)
 refine bodyPost_ret (v := powRows) (results_cell_row Try.results70 _ _ w.heap.size 101 powCells (0, 0) _ rfl (setRow_heap _ _ _ _ _ _ (heap_alloc_new _ _)) Try.underlying101 (by kernel_rfl) (by kernel_rfl)) rfl ⟨rfl, ?_⟩
 exact below_setRow1 ((Below.refl _ _).alloc (Nat.le_refl _) _) (Nat.le_refl _) _
end Go.Proofs.Ytojhenpaeedimaa
end
