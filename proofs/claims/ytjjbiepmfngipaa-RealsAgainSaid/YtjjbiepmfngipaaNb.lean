/-
  The contract of bits.powers: the ten rows of powers of two.
-/
import Derived.Test.YtjjbiepmfngipaaNa
namespace Go.Proofs.Ytjjbiepmfngipaa
open Go.RowKit
open Fl
set_option maxRecDepth 100000

/-- the cells of the rows -/
def powCells : Array Value := #[.int .i64 512, .float .f64 6913025428013711360, .float .f64 2301339409586323456, .int .i64 256, .float .f64 5760103923406864384, .float .f64 3454260914193170432,
  .int .i64 128, .float .f64 5183643171103440896, .float .f64 4030721666496593920, .int .i64 64, .float .f64 4895412794951729152, .float .f64 4318952042648305664,
  .int .i64 32, .float .f64 4751297606875873280, .float .f64 4463067230724161536, .int .i64 16, .float .f64 4679240012837945344, .float .f64 4535124824762089472,
  .int .i64 8, .float .f64 4643211215818981376, .float .f64 4571153621781053440, .int .i64 4, .float .f64 4625196817309499392, .float .f64 4589168020290535424,
  .int .i64 2, .float .f64 4616189618054758400, .float .f64 4598175219545276416, .int .i64 1, .float .f64 4611686018427387904, .float .f64 4602678819172646912]
def powRows : Value := .agg powCells
/-- one row, as it is built -/
def powRow (a : Int) (x y : Nat) : Value := .agg #[.int .i64 a, .float .f64 x, .float .f64 y]

theorem build_row (a : Int) (x y : Nat) (w : World) : (Instr.build 93 #[(0, .int .i64 a), (1, .float .f64 x), (2, .float .f64 y)]).run Try.prog w = .ok (powRow a x y) w :=
  run_build w 93 _ _ (by kernel_rfl)
theorem build_all (w : World) : (Instr.build 94 #[(0, powRow 512 6913025428013711360 2301339409586323456), (1, powRow 256 5760103923406864384 3454260914193170432), (2, powRow 128 5183643171103440896 4030721666496593920),
    (3, powRow 64 4895412794951729152 4318952042648305664), (4, powRow 32 4751297606875873280 4463067230724161536), (5, powRow 16 4679240012837945344 4535124824762089472), (6, powRow 8 4643211215818981376 4571153621781053440),
    (7, powRow 4 4625196817309499392 4589168020290535424), (8, powRow 2 4616189618054758400 4598175219545276416), (9, powRow 1 4611686018427387904 4602678819172646912)]).run Try.prog w = .ok powRows w :=
  run_build w 94 _ _ (by kernel_rfl)

theorem below_setRow1 {B g : Nat} {w0 w : World} (hb : Below B w0 w) (hBg : B ≤ g) (cs : Array Value) : Below B w0 (w.setRow g cs) := by
  refine ⟨hb.os, hb.tape, hb.output, by rw [size_setRow]; exact hb.size, fun k hk => ?_⟩
  rw [setRow_other w g k cs (by omega)]
  exact hb.block k hk

theorem powers_c (w : World) :
    Calls Try.prog 77 #[] w fun e w' => e = .returned powRows ∧ Below w.heap.size w w' := by
  have b1 := build_row
  have b2 := build_all
  go_enter Try.func77, Try.ntmps77
  go_wp2_with (refine wpList_store_row rfl _ _ _ rfl w.heap.size powCells rfl rfl _ _ (heap_alloc_new _ _) (by kernel_rfl) (by kernel_rfl) (by kernel_rfl) ?_)
  refine bodyPost_ret (v := powRows) (results_cell_row Try.results77 _ _ w.heap.size 94 powCells (0, 0) _ rfl (setRow_heap _ _ _ _ _ _ (heap_alloc_new _ _)) Try.underlying94 (by kernel_rfl) (by kernel_rfl)) rfl ⟨rfl, ?_⟩
  exact below_setRow1 ((Below.refl _ _).alloc (Nat.le_refl _) _) (Nat.le_refl _) _
end Go.Proofs.Ytjjbiepmfngipaa
