/-
 Contracts of package rank's Key, Compare and Less, and of the document's.
 Two kids held against each other, and two kids that change places: the closures that sort.SliceStable is handed.
-/
import Derived.Test.YtkobmnbjeppnaaaGreatNm
import Derived.LoopN
import Derived.Handy
import Derived.Test.YtkobmnbjeppnaaaGreatXm
import Derived.Test.YtkobmnbjeppnaaaGreatSb
import Derived.Lib.ReflectliteSwap
import Derived.Shelf.GgSortFunc.SmallK
section
namespace Go.Proofs.YtkobmnbjeppnaaaGreat
open Go.RowKit
open Fl
set_option maxRecDepth 100000
theorem key_c (x : Nat) (hx : x < 18446744073709551616) (w : World) :
  Calls Tryz.prog 107 #[.float .f64 x] w fun e w' => e = .returned (.int .u64 (ky x : Int)) ∧ Below w.heap.size w w' := by
 have hc := cb_lt x hx
 have h1 := and_top (cb x) hc
 rcases ng_cases (cb x) with ⟨h, _⟩ | ⟨h, h0⟩
 ·rw [h] at h1
  simp only [if_true] at h1
  rw [ky_neg h]
  have h2 := not_max (cb x) hc
  go_enter Tryz.func107, Tryz.ntmps107
  go_wp2_with fail
  refine (bits_c x hx _).mono ?_
  rintro e w1 ⟨rfl, hb1⟩
  go_wp2
  go_ret
  exact ⟨rfl, hb1⟩
 ·rw [h] at h1
  simp only [Bool.false_eq_true, if_false] at h1
  rw [ky_pos h]
  have h2 := or_top (cb x) h0
  go_enter Tryz.func107, Tryz.ntmps107
  go_wp2_with fail
  refine (bits_c x hx _).mono ?_
  rintro e w1 ⟨rfl, hb1⟩
  go_wp2
  go_ret
  exact ⟨rfl, hb1⟩
theorem rKey_c (x : Nat) (hx : x < 18446744073709551616) (w : World) :
  Calls Tryz.prog 80 #[.float .f64 x] w fun e w' => e = .returned (.int .u64 (ky x : Int)) ∧ w = w' := by
 have hc := cb_lt x hx
 rcases ng_cases (cb x) with ⟨h, h0⟩ | ⟨h, h0⟩
 ·have h1 : decide ((cb x : Int) < 9223372036854775808) = false := decide_eq_false (by omega)
  rw [ky_neg h]
  have hz : (18446744073709551615 : Int) - (cb x : Int) = ((18446744073709551615 - cb x : Nat) : Int) := by omega
  have HZ := Lib.hid hz
  clear h0 hz
  go_enter Tryz.func80, Tryz.ntmps80
  go_wp2_with fail
  refine (rBits_c x hx _).mono ?_
  rintro e w1 ⟨rfl, rfl⟩
  go_wp2
  go_ret
  exact ⟨ret_u64 HZ.out, rfl⟩
 ·have h1 : decide ((cb x : Int) < 9223372036854775808) = true := decide_eq_true (by omega)
  rw [ky_pos h]
  have hu : (cb x : Int) + 9223372036854775808 ≤ 18446744073709551615 := by omega
  clear h0
  go_enter Tryz.func80, Tryz.ntmps80
  go_wp2_with fail
  refine (rBits_c x hx _).mono ?_
  rintro e w1 ⟨rfl, rfl⟩
  go_wp2
  go_ret
  exact ⟨rfl, rfl⟩
theorem cmp64_c (x y : Nat) (w : World) :
  Calls Tryz.prog 106 #[.int .u64 (x : Int), .int .u64 (y : Int)] w fun e w' => e = .returned (.int .i64 (cm x y)) ∧ w = w' := by
 rcases Nat.lt_trichotomy x y with h | h | h
 ·have hc : cm x y = -1 := by unfold cm; rw [if_pos h]
  rw [hc]
  go_enter Tryz.func106, Tryz.ntmps106
  go_wp2
  go_ret
  exact ⟨rfl, rfl⟩
 ·subst h
  have hc : cm x x = 0 := by unfold cm; rw [if_neg (by omega), if_neg (by omega)]
  rw [hc]
  go_enter Tryz.func106, Tryz.ntmps106
  go_wp2
  go_ret
  exact ⟨rfl, rfl⟩
 ·have hc : cm x y = 1 := by unfold cm; rw [if_neg (by omega), if_pos h]
  rw [hc]
  go_enter Tryz.func106, Tryz.ntmps106
  go_wp2
  go_ret
  exact ⟨rfl, rfl⟩
theorem compare_c (x y : Nat) (hx : x < 18446744073709551616) (hy : y < 18446744073709551616) (w : World) :
  Calls Tryz.prog 76 #[.float .f64 x, .float .f64 y] w fun e w' => e = .returned (.int .i64 (cm (ky x) (ky y))) ∧ Below w.heap.size w w' := by
 go_enter Tryz.func76, Tryz.ntmps76
 go_wp2_with fail
 refine (key_c x hx _).mono ?_
 rintro e w1 ⟨rfl, hb1⟩
 go_wp2_with fail
 refine (key_c y hy _).mono ?_
 rintro e w2 ⟨rfl, hb2⟩
 go_wp2_with fail
 refine (cmp64_c (ky x) (ky y) _).mono ?_
 rintro e w3 ⟨rfl, rfl⟩
 go_wp2
 go_ret
 exact ⟨rfl, hb1.trans (hb2.mono hb1.size)⟩
theorem rCompare_c (x y : Nat) (hx : x < 18446744073709551616) (hy : y < 18446744073709551616) (w : World) :
  Calls Tryz.prog 57 #[.float .f64 x, .float .f64 y] w fun e w' => e = .returned (.int .i64 (cm (ky x) (ky y))) ∧ w = w' := by
 have hkx := ky_lt x
 have hky := ky_lt y
 rcases Nat.lt_trichotomy (ky x) (ky y) with h | h | h
 ·have hc : cm (ky x) (ky y) = -1 := by unfold cm; rw [if_pos h]
  rw [hc]
  go_enter Tryz.func57, Tryz.ntmps57
  go_wp2_with fail
  refine (rKey_c x hx _).mono ?_
  rintro e w1 ⟨rfl, rfl⟩
  go_wp2_with fail
  refine (rKey_c y hy _).mono ?_
  rintro e w1 ⟨rfl, rfl⟩
  go_wp2
  go_ret
  exact ⟨rfl, rfl⟩
 ·have hc : cm (ky x) (ky y) = 0 := by unfold cm; rw [if_neg (by omega), if_neg (by omega)]
  rw [hc]
  have h1 : ¬ ky x < ky y := by omega
  have h2 : ¬ ky y < ky x := by omega
  clear h hc
  go_enter Tryz.func57, Tryz.ntmps57
  go_wp2_with fail
  refine (rKey_c x hx _).mono ?_
  rintro e w1 ⟨rfl, rfl⟩
  go_wp2_with fail
  refine (rKey_c y hy _).mono ?_
  rintro e w1 ⟨rfl, rfl⟩
  go_wp2_with fail
  refine (rKey_c x hx _).mono ?_
  rintro e w1 ⟨rfl, rfl⟩
  go_wp2_with fail
  refine (rKey_c y hy _).mono ?_
  rintro e w1 ⟨rfl, rfl⟩
  go_wp2
  go_ret
  exact ⟨rfl, rfl⟩
 ·have hc : cm (ky x) (ky y) = 1 := by unfold cm; rw [if_neg (by omega), if_pos h]
  rw [hc]
  go_enter Tryz.func57, Tryz.ntmps57
  go_wp2_with fail
  refine (rKey_c x hx _).mono ?_
  rintro e w1 ⟨rfl, rfl⟩
  go_wp2_with fail
  refine (rKey_c y hy _).mono ?_
  rintro e w1 ⟨rfl, rfl⟩
  go_wp2_with fail
  refine (rKey_c x hx _).mono ?_
  rintro e w1 ⟨rfl, rfl⟩
  go_wp2_with fail
  refine (rKey_c y hy _).mono ?_
  rintro e w1 ⟨rfl, rfl⟩
  go_wp2
  go_ret
  exact ⟨rfl, rfl⟩
theorem les2_c (Ba Bb : Nat) (x y : Int) (w : World) (h1 : w.cell? ⟨Ba, 0, none⟩ = some (.int .i64 x)) (h2 : w.cell? ⟨Bb, 0, none⟩ = some (.int .i64 y)) :
  Calls Tryz.prog 77 #[.pointer (some ⟨Ba, 0, none⟩), .pointer (some ⟨Bb, 0, none⟩)] w fun e w' => e = .returned (.int .i64 (ci x y)) ∧ w = w' := by
 go_enter Tryz.func77, Tryz.ntmps77
 go_wp2_with fail
 refine (cmpInt_c x y _).mono ?_
 rintro e w1 ⟨rfl, rfl⟩
 go_wp2
 go_ret
 exact ⟨rfl, rfl⟩
theorem les1_c (Ba Bb : Nat) (x y : Nat) (hx : x < 18446744073709551616) (hy : y < 18446744073709551616) (w : World) (h1 : w.cell? ⟨Ba, 3, none⟩ = some (.float .f64 x)) (h2 : w.cell? ⟨Bb, 3, none⟩ = some (.float .f64 y)) :
  Calls Tryz.prog 75 #[.pointer (some ⟨Ba, 0, none⟩), .pointer (some ⟨Bb, 0, none⟩)] w fun e w' => e = .returned (.int .i64 (cm (ky x) (ky y))) ∧ Below w.heap.size w w' := by
 go_enter Tryz.func75, Tryz.ntmps75
 go_wp2_with fail
 refine (compare_c x y hx hy _).mono ?_
 rintro e w1 ⟨rfl, hb1⟩
 go_wp2
 go_ret
 exact ⟨rfl, hb1⟩
set_option maxHeartbeats 1000000 in
theorem firstL_c (p q : Value) (B : Nat) (v1 v2 : Int) (w : World)
  (hc1 : w.cell? ⟨B, 0, none⟩ = some (.func (.func 75) #[] #[p, q])) (hc2 : w.cell? ⟨B, 1, none⟩ = some (.func (.func 77) #[] #[p, q])) (hB : B < w.heap.size)
  (H1 : Hid (∀ wx, Below w.heap.size w wx → Calls Tryz.prog 75 #[p, q] wx fun e w' => e = .returned (.int .i64 v1) ∧ Below w.heap.size w w'))
  (H2 : Hid (∀ wx, Below w.heap.size w wx → Calls Tryz.prog 77 #[p, q] wx fun e w' => e = .returned (.int .i64 v2) ∧ Below w.heap.size w w')) :
  Calls Tryz.prog 74 #[.slice (some ⟨B, 0, none⟩) 2 2] w fun e w' => e = .returned (.int .i64 (fr v1 v2)) ∧ Below w.heap.size w w' := by
 by_cases h0 : v1 = 0
 ·subst h0
  have hfr : fr 0 v2 = v2 := by simp [fr]
  rw [hfr]
  clear hfr
  by_cases h2 : v2 = 0
  ·subst h2
   go_enter Tryz.func74, Tryz.ntmps74
   go_wp2_with fail
   refine wp_loop_rounds 3 ?_
   rw [rounds_succ]
   go_wp2_with fail
   refine (H1.out _ (Below.refl _ _)).mono ?_
   rintro e w1 ⟨rfl, hb1⟩
   have hc2' := (hb1.cell (p := ⟨B, 1, none⟩) hB).trans hc2
   go_wp2_with fail
   rw [rounds_succ]
   go_wp2_with fail
   refine (H2.out _ hb1).mono ?_
   rintro e w2 ⟨rfl, hb2⟩
   clear hc2'
   go_wp2
   rw [rounds_succ]
   go_wp2
   go_ret
   exact ⟨rfl, hb2⟩
  ·have h3 : (v2 != 0) = true := by rw [bne_iff_ne]; exact h2
   go_enter Tryz.func74, Tryz.ntmps74
   go_wp2_with fail
   refine wp_loop_rounds 2 ?_
   rw [rounds_succ]
   go_wp2_with fail
   refine (H1.out _ (Below.refl _ _)).mono ?_
   rintro e w1 ⟨rfl, hb1⟩
   have hc2' := (hb1.cell (p := ⟨B, 1, none⟩) hB).trans hc2
   go_wp2_with fail
   rw [rounds_succ]
   go_wp2_with fail
   refine (H2.out _ hb1).mono ?_
   rintro e w2 ⟨rfl, hb2⟩
   clear hc2'
   go_wp2
   go_ret
   exact ⟨rfl, hb2⟩
 ·have hfr : fr v1 v2 = v1 := by simp [fr, h0]
  rw [hfr]
  clear hfr
  have h3 : (v1 != 0) = true := by rw [bne_iff_ne]; exact h0
  go_enter Tryz.func74, Tryz.ntmps74
  go_wp2_with fail
  refine wp_loop_rounds 1 ?_
  rw [rounds_succ]
  go_wp2_with fail
  refine (H1.out _ (Below.refl _ _)).mono ?_
  rintro e w1 ⟨rfl, hb1⟩
  go_wp2
  go_ret
  exact ⟨rfl, hb1⟩
theorem less_c (a1 p1 a2 p2 : Int) (n1 n2 : ByteArray) (x y : Nat) (hx : x < 18446744073709551616) (hy : y < 18446744073709551616) (w : World) :
  Calls Tryz.prog 54 #[.agg #[.int .i64 a1, .int .i64 p1, .string n1, .float .f64 x], .agg #[.int .i64 a2, .int .i64 p2, .string n2, .float .f64 y]] w fun e w' => e = .returned (.bool (decide (fr (cm (ky x) (ky y)) (ci a1 a2) < 0))) ∧ Below w.heap.size w w' := by
 have hF := three_facts w #[.int .i64 a1, .int .i64 p1, .string n1, .float .f64 x] #[.int .i64 a2, .int .i64 p2, .string n2, .float .f64 y]
  #[.func (.func 75) #[] #[.pointer (some ⟨w.heap.size, 0, none⟩), .pointer (some ⟨w.heap.size + 1, 0, none⟩)], .func (.func 77) #[] #[.pointer (some ⟨w.heap.size, 0, none⟩), .pointer (some ⟨w.heap.size + 1, 0, none⟩)]] 28 94
 have HF := Lib.hid hF
 clear hF
 go_enter Tryz.func54, Tryz.ntmps54
 go_wp2_with fail
 obtain ⟨f1, f2, f3, f4, f5⟩ := HF.out
 refine (firstL_c (.pointer (some ⟨w.heap.size, 0, none⟩)) (.pointer (some ⟨w.heap.size + 1, 0, none⟩)) (w.heap.size + 1 + 1) (cm (ky x) (ky y)) (ci a1 a2)
  (three w #[.int .i64 a1, .int .i64 p1, .string n1, .float .f64 x] #[.int .i64 a2, .int .i64 p2, .string n2, .float .f64 y]
   #[.func (.func 75) #[] #[.pointer (some ⟨w.heap.size, 0, none⟩), .pointer (some ⟨w.heap.size + 1, 0, none⟩)], .func (.func 77) #[] #[.pointer (some ⟨w.heap.size, 0, none⟩), .pointer (some ⟨w.heap.size + 1, 0, none⟩)]] 28 94)
  (f3 0) (f3 1) f4 ?_ ?_).mono ?_
 ·intro wx hb
  refine (les1_c w.heap.size (w.heap.size + 1) x y hx hy wx ((hb.cell (p := ⟨w.heap.size, 3, none⟩) (Nat.lt_of_succ_lt (Nat.lt_of_succ_lt f4))).trans (f1 3)) ((hb.cell (p := ⟨w.heap.size + 1, 3, none⟩) (Nat.lt_of_succ_lt f4)).trans (f2 3))).mono ?_
  rintro e w' ⟨rfl, hb2⟩
  exact ⟨rfl, hb.trans (hb2.mono hb.size)⟩
 ·intro wx hb
  refine (les2_c w.heap.size (w.heap.size + 1) a1 a2 wx ((hb.cell (p := ⟨w.heap.size, 0, none⟩) (Nat.lt_of_succ_lt (Nat.lt_of_succ_lt f4))).trans (f1 0)) ((hb.cell (p := ⟨w.heap.size + 1, 0, none⟩) (Nat.lt_of_succ_lt f4)).trans (f2 0))).mono ?_
  rintro e w' ⟨rfl, rfl⟩
  exact ⟨rfl, hb⟩
 ·rintro e w' ⟨rfl, hb⟩
  clear f1 f2 f3
  go_wp2
  go_ret
  exact ⟨rfl, f5.trans (hb.mono f5.size)⟩
theorem rLess_c (a1 p1 a2 p2 : Int) (n1 n2 : ByteArray) (x y : Nat) (hx : x < 18446744073709551616) (hy : y < 18446744073709551616) (w : World) :
  Calls Tryz.prog 34 #[.agg #[.int .i64 a1, .int .i64 p1, .string n1, .float .f64 x], .agg #[.int .i64 a2, .int .i64 p2, .string n2, .float .f64 y]] w fun e w' => e = .returned (.bool (decide (fr (cm (ky x) (ky y)) (ci a1 a2) < 0))) ∧ Below w.heap.size w w' := by
 rcases cm_cases (ky x) (ky y) with ⟨h, _⟩ | ⟨h, _⟩ | ⟨h, _⟩
 ·have hv : decide (fr (cm (ky x) (ky y)) (ci a1 a2) < 0) = true := by rw [h]; rfl
  rw [hv]
  clear hv
  go_enter Tryz.func34, Tryz.ntmps34
  go_wp2_with fail
  refine (rCompare_c x y hx hy _).mono ?_
  rintro e w1 ⟨rfl, rfl⟩
  rw [h]
  go_wp2
  go_ret
  exact ⟨rfl, by go_grown⟩
 ·have hv : decide (fr (cm (ky x) (ky y)) (ci a1 a2) < 0) = decide (a1 < a2) := by rw [h, fr_zero, ci_neg]
  rw [hv]
  clear hv
  go_enter Tryz.func34, Tryz.ntmps34
  go_wp2_with fail
  refine (rCompare_c x y hx hy _).mono ?_
  rintro e w1 ⟨rfl, rfl⟩
  rw [h]
  go_wp2
  go_ret
  exact ⟨rfl, by go_grown⟩
 ·have hv : decide (fr (cm (ky x) (ky y)) (ci a1 a2) < 0) = false := by rw [h]; rfl
  rw [hv]
  clear hv
  go_enter Tryz.func34, Tryz.ntmps34
  go_wp2_with fail
  refine (rCompare_c x y hx hy _).mono ?_
  rintro e w1 ⟨rfl, rfl⟩
  rw [h]
  go_wp2
  go_ret
  exact ⟨rfl, by go_grown⟩
end Go.Proofs.YtkobmnbjeppnaaaGreat
end
section
namespace Go.Proofs.YtkobmnbjeppnaaaGreat
open Go.RowKit Go.IntWalk
namespace Kk
open Fl
set_option maxRecDepth 100000
attribute [local go_sem] Oper.semAt_some
/-- the kids that lie in their own row, named in the box kb: of the world w nothing else is turned -/
structure KIn (w : World) (B g n cap kb : Nat) (L : List Rw) (W : World) : Prop where
 lies : Lies B g n cap L W
 box : W.cell? ⟨kb, 0, none⟩ = some (.slice (some ⟨g, 0, none⟩) n cap)
 bne : kb ≠ g
 blt : kb < W.heap.size
 rows : S64 L
 grown : w.grownBy W (some g)
theorem KIn.keep {w : World} {B g n cap kb : Nat} {L : List Rw} {W W' : World} (h : KIn w B g n cap kb L W) (k : Below W.heap.size W W') : KIn w B g n cap kb L W' :=
 ⟨h.lies.keep k, (k.cell (p := ⟨kb, 0, none⟩) h.blt).trans h.box, h.bne, Nat.lt_of_lt_of_le h.blt k.size, h.rows, grown_of_below h.grown k⟩
theorem KIn.drew {w : World} {B g n cap kb : Nat} {L : List Rw} {W : World} (h : KIn w B g n cap kb L W) : KIn w B g n cap kb L W.drew :=
 ⟨h.lies.drew, h.box, h.bne, h.blt, h.rows, grown_drew h.grown⟩
theorem KIn.start {w : World} {B g n cap kb : Nat} {L : List Rw} {W : World} (h : KIn w B g n cap kb L W) : KIn W B g n cap kb L W := ⟨h.lies, h.box, h.bne, h.blt, h.rows, grown_refl _ _⟩
theorem KIn.alloc {w : World} {B g n cap kb : Nat} {L : List Rw} {W : World} (h : KIn w B g n cap kb L W) (o : Obj) : KIn (W.alloc o) B g n cap kb L (W.alloc o) := (h.keep ((Below.refl _ _).alloc (Nat.le_refl _) o)).start
theorem KIn.since {w w0 : World} {B g n cap kb : Nat} {L : List Rw} {W : World} (h : KIn w0 B g n cap kb L W) (k : w.grownBy w0 (some g)) : KIn w B g n cap kb L W :=
 ⟨h.lies, h.box, h.bne, h.blt, h.rows, grown_trans k h.grown⟩
theorem grown_alloc (w : World) (o : Obj) (g : Nat) : w.grownBy (w.alloc o) (some g) := grown_of_below (grown_refl _ _) ((Below.refl _ _).alloc (Nat.le_refl _) o)
/-- what lay there, off the row, lies there still -/
theorem KIn.cell {w : World} {B g n cap kb : Nat} {L : List Rw} {W : World} (h : KIn w B g n cap kb L W) {b i : Nat} (hb : b < w.heap.size) (hne : b ≠ g) : W.cell? ⟨b, i, none⟩ = w.cell? ⟨b, i, none⟩ :=
 World.cell?_of_block (a := ⟨b, i, none⟩) (h.grown.block b hb (fun e => hne (by injection e)))
set_option maxHeartbeats 2000000 in
theorem KIn.swap {w : World} {B g n cap kb i j : Nat} {L : List Rw} {W : World} {x y : Rw} (h : KIn w B g n cap kb L W) (hi : L[i]? = some x) (hj : L[j]? = some y) :
  KIn w B g n cap kb ((L.set i y).set j x) ((W.setCells g (i * 4) (rcs y)).setCells g (j * 4) (rcs x)) := by
 have hil := (List.getElem?_eq_some_iff.1 hi).1
 have hjl := (List.getElem?_eq_some_iff.1 hj).1
 have hn := h.lies.len
 have e : (W.setCells g (i * 4) (rcs y)).setCells g (j * 4) (rcs x) = ((((((((W.setCell ⟨g, i * 4, none⟩ (.int .i64 (ch y))).setCell ⟨g, i * 4 + 1, none⟩ (.int .i64 (pa y))).setCell ⟨g, i * 4 + 2, none⟩ (.string (ba (nm y)))).setCell ⟨g, i * 4 + 3, none⟩ (.float .f64 (rk y))).setCell ⟨g, j * 4, none⟩ (.int .i64 (ch x))).setCell ⟨g, j * 4 + 1, none⟩ (.int .i64 (pa x))).setCell ⟨g, j * 4 + 2, none⟩ (.string (ba (nm x)))).setCell ⟨g, j * 4 + 3, none⟩ (.float .f64 (rk x))) := by
  simp only [World.setCells, rcs, Nat.add_assoc, Nat.reduceAdd]
 rw [e]
 have g4 := grown_set4 (k := j) (grown_set4 (k := i) h.grown (.int .i64 (ch y)) (.int .i64 (pa y)) (.string (ba (nm y))) (.float .f64 (rk y))) (.int .i64 (ch x)) (.int .i64 (pa x)) (.string (ba (nm x))) (.float .f64 (rk x))
 have hin : i < n := by omega
 have hjn : j < n := by omega
 have l1 := h.lies.set y hin
 have l2 := l1.set x hjn
 refine ⟨l2, ?_, h.bne, ?_, fun z hz => ?_, g4⟩
 ·have g5 := grown_set4 (k := j) (grown_set4 (k := i) (grown_refl W (some g)) (.int .i64 (ch y)) (.int .i64 (pa y)) (.string (ba (nm y))) (.float .f64 (rk y))) (.int .i64 (ch x)) (.int .i64 (pa x)) (.string (ba (nm x))) (.float .f64 (rk x))
  exact (World.cell?_of_block (a := ⟨kb, 0, none⟩) (g5.block kb h.blt (fun e => h.bne (by injection e)))).trans h.box
 ·simpa using h.blt
 ·rcases List.mem_or_eq_of_mem_set hz with hz | rfl
  ·rcases List.mem_or_eq_of_mem_set hz with hz | rfl
   ·exact h.rows z hz
   ·exact h.rows _ (List.mem_of_getElem? hj)
  ·exact h.rows _ (List.mem_of_getElem? hi)
theorem less_kk {x y : Rw} {b : Bool} (h : decide (kk x < kk y) = b) (hx : R64 x) (hy : R64 y) (w : World) :
  Calls Tryz.prog 54 #[.agg #[.int .i64 (ch x), .int .i64 (pa x), .string (ba (nm x)), .float .f64 (rk x)], .agg #[.int .i64 (ch y), .int .i64 (pa y), .string (ba (nm y)), .float .f64 (rk y)]] w fun e w' => e = .returned (.bool b) ∧ Below w.heap.size w w' := by
 rw [← h, ← lsP_eq hx hy]
 exact less_c (ch x) (pa x) (ch y) (pa y) (ba (nm x)) (ba (nm y)) (rk x) (rk y) hx.2 hy.2 w
set_option maxHeartbeats 4000000 in
theorem kless {w : World} {B g n cap kb i j : Nat} {L : List Rw} {W : World} {x y : Rw} (b : Bool) (h : KIn w B g n cap kb L W) (hi : L[i]? = some x) (hj : L[j]? = some y) (hb : decide (kk x < kk y) = b) :
  Calls Tryz.prog 53 #[.int .i64 (i : Int), .int .i64 (j : Int), .pointer (some ⟨kb, 0, none⟩)] W fun e w' => e = .returned (.bool b) ∧ Below W.heap.size W w' := by
 have hil := (List.getElem?_eq_some_iff.1 hi).1
 have hjl := (List.getElem?_eq_some_iff.1 hj).1
 have hn := h.lies.len
 have hi0 : (0 : Int) ≤ (i : Int) := by omega
 have hin : (i : Int) < (n : Int) := by omega
 have hj0 : (0 : Int) ≤ (j : Int) := by omega
 have hjn : (j : Int) < (n : Int) := by omega
 have hx := h.rows _ (List.mem_of_getElem? hi)
 have hy := h.rows _ (List.mem_of_getElem? hj)
 have H := Lib.hid h.start
 have HI := Lib.hid hi
 have HJ := Lib.hid hj
 have HX := Lib.hid hx
 have HY := Lib.hid hy
 have HB := Lib.hid hb
 clear h hi hj hx hy hb hil hjl hn
 go_enter Tryz.func53, Tryz.ntmps53
 go_wp2_with fail
 refine quiet_held (fun W' => KIn W B g n cap kb L W' ∧ Below W.heap.size W W') (by kernel_rfl) (by kernel_rfl) ⟨H.out.drew, (Below.refl _ _).drew⟩ ?_
 repeat (first
  | go_big_quiet_skip
  | (go_big_quiet_want; go_big_quiet_op; go_big_quiet_on)
  | (go_big_quiet_want; apply Exists.intro; refine ⟨fun wq hq => ?_, ?_⟩; (focus (obtain ⟨⟨d0, d1, d2, d3⟩, -⟩ := hq.1.lies.facts HI.out; obtain ⟨⟨g0, g1, g2, g3⟩, -⟩ := hq.1.lies.facts HJ.out; have hbx := hq.1.box; unfold Oper.quietAt; go_simp; all_goals (first | rfl | (refine (less_kk HB.out HX.out HY.out _).mono ?_; rintro e w5 ⟨rfl, hbn⟩; exact ⟨rfl, hq.1.keep hbn, hq.2.trans (hbn.mono hq.2.size)⟩)))); simp only [Act.put, List.setIfInBounds_toArray, List.set_cons_zero, List.set_cons_succ]; go_big_quiet_on))
 refine wpQuiet_nil ?_
 intro wq hq
 have HQ := Lib.hid hq
 clear hq
 go_wp2_with fail
 go_ret
 exact ⟨rfl, HQ.out.2⟩
noncomputable def rowI : TypeInfo := (Tryz.prog.info? 28).get (by kernel_rfl)
theorem kswap {w : World} {B g n cap kb i j : Nat} {L : List Rw} {W : World} {x y : Rw} (h : KIn w B g n cap kb L W) (hi : L[i]? = some x) (hj : L[j]? = some y) :
  (callFunc 103 #[.int .i64 (i : Int), .int .i64 (j : Int), .slice (some ⟨g, 0, none⟩) n cap, typeHandle Tryz.prog 28]).run Tryz.prog W = .ok (.value (.tuple #[])) ((W.setCells g (i * 4) (rcs y)).setCells g (j * 4) (rcs x)) := by
 have hil := (List.getElem?_eq_some_iff.1 hi).1
 have hjl := (List.getElem?_eq_some_iff.1 hj).1
 have hn := h.lies.len
 obtain ⟨⟨d0, d1, d2, d3⟩, fz⟩ := h.lies.facts hi
 obtain ⟨⟨g0, g1, g2, g3⟩, -⟩ := h.lies.facts hj
 have hs : rowI.size = 4 := by kernel_rfl
 have cc : ∀ (q : Nat) (z : Rw) (k : Nat) (v : Value), (rcs z)[k]? = some v → W.cell? ⟨g, q * 4, none⟩ = some (.int .i64 (ch z)) → W.cell? ⟨g, q * 4 + 1, none⟩ = some (.int .i64 (pa z)) → W.cell? ⟨g, q * 4 + 2, none⟩ = some (.string (ba (nm z))) → W.cell? ⟨g, q * 4 + 3, none⟩ = some (.float .f64 (rk z)) → W.cell? ⟨g, 0 + q * rowI.size + k, none⟩ = some v := by
  intro q z k v hv e0 e1 e2 e3
  rw [hs, Nat.zero_add]
  match k, hv with
  | 0, hv => cases hv; exact e0
  | 1, hv => cases hv; exact e1
  | 2, hv => cases hv; exact e2
  | 3, hv => cases hv; exact e3
 have := Lib.run_swap_cells (P := Tryz.prog) false 28 rowI (by kernel_rfl) (fun _ => by kernel_rfl) g 0 n cap i j (by omega) (by omega) (rcs x) (rcs y) hs.symm hs.symm
  (fun v hv => by simp [rcs] at hv; rcases hv with rfl | rfl | rfl | rfl <;> rfl) (fun v hv => by simp [rcs] at hv; rcases hv with rfl | rfl | rfl | rfl <;> rfl) W
  (fun k v hv => cc i x k v hv d0 d1 d2 d3) (fun k v hv => cc j y k v hv g0 g1 g2 g3) (fun k _ => fz _) (fun k _ => fz _)
 rw [run_callFunc_extern Tryz.func103 (by kernel_rfl) (by kernel_rfl) (by kernel_rfl) (e := Extern.ReflectliteSwapper.swap false) (by kernel_rfl), this, hs, Nat.zero_add, Nat.zero_add]
 rfl
end Kk
end Go.Proofs.YtkobmnbjeppnaaaGreat
end
