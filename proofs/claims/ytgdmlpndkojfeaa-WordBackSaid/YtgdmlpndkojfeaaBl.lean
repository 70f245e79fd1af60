/-
  The document's examples of layer 3: 'live'.
-/
import Derived.Test.YtgdmlpndkojfeaaBi
import Derived.Test.YtgdmlpndkojfeaaBb
namespace Go.Proofs.Ytgdmlpndkojfeaa
open Go.RowKit
open Pk
set_option maxRecDepth 100000

theorem below_only {B g : Nat} {a w w' : World} (hb : Below B a w) (ho : w.grownBy w' (some g)) (hB : B ≤ w.heap.size) (hg : B ≤ g) : Below B a w' :=
  hb.grown ho hB (fun k hk => by injection hk with hk; omega)
theorem only_size {a w : World} {row : Option Nat} (h : a.grownBy w row) : a.heap.size ≤ w.heap.size := h.size

namespace live3
def s0 : St := ⟨[172, 2, 1, 97, 98, 5, 0, 0, 0, 0, 0, 0, 0, 128], 0⟩
def s1 : St := ⟨[1, 97, 98, 5, 0, 0, 0, 0, 0, 0, 0, 128], 0⟩
def s2 : St := ⟨[97, 98, 5, 0, 0, 0, 0, 0, 0, 0, 128], 0⟩
def s3 : St := ⟨[5, 0, 0, 0, 0, 0, 0, 0, 128], 0⟩
def s4 : St := ⟨[128], 0⟩
def s5 : St := ⟨[128], 2⟩
theorem n0 : numS s0 = s1 := by rfl
theorem v0 : numV s0 = 300 := by rfl
theorem n1 : numS s1 = s2 := by rfl
theorem v1 : zag (numV s1) = -1 := by rfl
theorem n2 : takeS 2 s2 = s3 := by rfl
theorem v2 : takeV 2 s2 = [97, 98] := by rfl
theorem n3 : fixS s3 = s4 := by rfl
theorem v3 : fixV s3 = 5 := by rfl
theorem l4 : s4.l.length = 1 := by rfl
theorem d4 : doneV s4 = 5 := by rfl
theorem n4 : numS s4 = s5 := by rfl
theorem v4 : numV s4 = 0 := by rfl
theorem e5 : s5.e = 2 := by rfl
theorem l5 : s5.l.length = 1 := by rfl
theorem d5 : doneV s5 = 2 := by rfl
theorem n5 : takeS 0 s5 = s5 := by rfl
theorem v5 : takeV 0 s5 = [] := by rfl
theorem p300 : put 300 = [172, 2] := by rw [put_hi (by omega), put_lo (by omega)]; rfl
theorem p0 : put 0 = [0] := by rw [put_lo (by omega)]; rfl
theorem f258 : fixed 8 258 = [2, 1, 0, 0, 0, 0, 0, 0] := by rfl
end live3

open live3 in
set_option maxHeartbeats 2000000 in
theorem live3_c (w : World) :
    Calls Try.prog 23 #[] w fun e w' => e = .returned (.bool true) ∧ Below w.heap.size w w' := by
  go_enter Try.func23, Try.ntmps23
  go_wp2_with fail
  refine (new_c s0.l w).mono ?_
  rintro e w0 ⟨rfl, hr0, hw0⟩
  have hb0 : Below w.heap.size w w0 := by rw [hw0]; exact (Below.refl _ _).alloc (Nat.le_refl _) _
  clear hw0
  go_wp2_with fail
  refine (num_m _ s0 _ hr0).mono ?_
  rintro e w1 ⟨rfl, hr1, ho1⟩
  rw [n0] at hr1
  rw [v0]
  have hb1 := below_only hb0 ho1 hb0.size (Nat.le_refl _)
  clear ho1
  go_wp2_with fail
  refine (int_m _ s1 _ hr1).mono ?_
  rintro e w2 ⟨rfl, hr2, ho2⟩
  rw [n1] at hr2
  rw [v1]
  have hb2 := below_only hb1 ho2 hb1.size (Nat.le_refl _)
  clear ho2
  go_wp2_with fail
  refine (take_m _ 2 s2 _ hr2).mono ?_
  rintro e w3 ⟨rfl, hr3, ho3⟩
  rw [n2] at hr3
  rw [v2, show ba [97, 98] = (⟨#[97, 98]⟩ : ByteArray) from rfl]
  have hb3 := below_only hb2 ho3 hb2.size (Nat.le_refl _)
  clear ho3
  go_wp2_with fail
  refine (fix_m _ s3 _ hr3).mono ?_
  rintro e w4 ⟨rfl, hr4, ho4⟩
  rw [n3] at hr4
  rw [v3]
  have hb4 := below_only hb3 ho4 hb3.size (Nat.le_refl _)
  clear ho4
  go_wp2_with fail
  refine (left_c _ s4 _ hr4).mono ?_
  rintro e wz ⟨rfl, rfl⟩
  rw [l4]
  go_wp2_with fail
  refine (done_c _ s4 _ hr4).mono ?_
  rintro e wz ⟨rfl, rfl⟩
  rw [d4]
  go_wp2_with fail
  refine (num_m _ s4 _ hr4).mono ?_
  rintro e w5 ⟨rfl, hr5, ho5⟩
  rw [n4] at hr5
  rw [v4]
  have hb5 := below_only hb4 ho5 hb4.size (Nat.le_refl _)
  clear ho5
  go_wp2_with fail
  refine (put_c 300 (by omega) _).mono ?_
  rintro e w6 ⟨rfl, hm6⟩
  rw [p300, show ba [172, 2] = (⟨#[172, 2]⟩ : ByteArray) from rfl]
  have hr6 : Rdr w6 w.heap.size s5 := is_below hr5 hm6 (is_lt hr5)
  have hb6 := hb5.trans (hm6.mono hb5.size)
  clear hm6
  go_wp2_with fail
  refine (put_c 0 (by omega) _).mono ?_
  rintro e w7 ⟨rfl, hm7⟩
  rw [p0, show ba [0] = (⟨#[0]⟩ : ByteArray) from rfl]
  have hr7 : Rdr w7 w.heap.size s5 := is_below hr6 hm7 (is_lt hr6)
  have hb7 := hb6.trans (hm7.mono hb6.size)
  clear hm7
  go_wp2_with fail
  refine (zig_c (-1) (by omega) (by omega) _).mono ?_
  rintro e wz ⟨rfl, rfl⟩
  rw [show (zig (-1) : Int) = 1 from rfl]
  go_wp2_with fail
  refine (zig_c 2 (by omega) (by omega) _).mono ?_
  rintro e wz ⟨rfl, rfl⟩
  rw [show (zig 2 : Int) = 4 from rfl]
  go_wp2_with fail
  refine (zag_c 3 (by omega) _).mono ?_
  rintro e wz ⟨rfl, rfl⟩
  rw [show zag 3 = -2 from rfl]
  go_wp2_with fail
  refine (fixed_c 258 (by omega) _).mono ?_
  rintro e w8 ⟨rfl, hm8⟩
  rw [f258, show ba [2, 1, 0, 0, 0, 0, 0, 0] = (⟨#[2, 1, 0, 0, 0, 0, 0, 0]⟩ : ByteArray) from rfl]
  have hr8 : Rdr w8 w.heap.size s5 := is_below hr7 hm8 (is_lt hr7)
  have hb8 := hb7.trans (hm8.mono hb7.size)
  clear hm8
  go_wp2_with fail
  refine (err_c _ s5 _ hr8).mono ?_
  rintro e wz ⟨rfl, rfl⟩
  rw [e5]
  go_wp2_with fail
  refine (left_c _ s5 _ hr8).mono ?_
  rintro e wz ⟨rfl, rfl⟩
  rw [l5]
  go_wp2_with fail
  refine (done_c _ s5 _ hr8).mono ?_
  rintro e wz ⟨rfl, rfl⟩
  rw [d5]
  go_wp2_with fail
  refine (take_m _ 0 s5 _ hr8).mono ?_
  rintro e w9 ⟨rfl, hr9, ho9⟩
  rw [n5] at hr9
  rw [v5, show ba [] = (⟨#[]⟩ : ByteArray) from rfl]
  have hb9 := below_only hb8 ho9 hb8.size (Nat.le_refl _)
  clear ho9
  go_wp2
  go_ret
  exact ⟨rfl, hb9⟩
end Go.Proofs.Ytgdmlpndkojfeaa
