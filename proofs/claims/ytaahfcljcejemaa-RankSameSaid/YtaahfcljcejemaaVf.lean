/-
  The walk of RankSame.
-/
import Derived.Test.YtaahfcljcejemaaVe
import Derived.Test.YtaahfcljcejemaaFi
namespace Go.Proofs.Ytaahfcljcejemaa
open Go.RowKit
open Fl
set_option maxRecDepth 100000

namespace rankSame
/-- two blocks, one behind the other -/
def two (w : World) (A B : Array Value) (T : TypeId) : World := (w.alloc (.cells A T)).alloc (.cells B T)
theorem two_facts (w : World) (A B : Array Value) (T : TypeId) :
    (∀ j, (two w A B T).cell? ⟨w.heap.size, j, none⟩ = A[j]?) ∧ (∀ j, (two w A B T).cell? ⟨w.heap.size + 1, j, none⟩ = B[j]?) ∧
    w.heap.size + 1 < (two w A B T).heap.size ∧ Below w.heap.size w (two w A B T) := by
  have s1 : (w.alloc (.cells A T)).heap.size = w.heap.size + 1 := by simp
  have s2 : (two w A B T).heap.size = w.heap.size + 1 + 1 := by simp [two]
  refine ⟨fun j => ?_, fun j => ?_, by omega, ?_⟩
  · unfold two
    rw [World.cell?_alloc_past _ _ _ (by omega), World.cell?_alloc_at _ _ _ _ rfl]
  · unfold two
    rw [World.cell?_alloc_at _ _ _ _ s1.symm]
  · exact ((Below.refl _ _).alloc (Nat.le_refl _) _).alloc (by omega) _

/-- what the two blocks hold, and that all that was there is as it was -/
def Holds2 (B : Nat) (a1 p1 a2 p2 : Int) (n1 n2 : ByteArray) (x y : Nat) (w w' : World) : Prop :=
  w'.cell? ⟨B, 0, none⟩ = some (.int .i64 a1) ∧ w'.cell? ⟨B, 1, none⟩ = some (.int .i64 p1) ∧ w'.cell? ⟨B, 2, none⟩ = some (.string n1) ∧ w'.cell? ⟨B, 3, none⟩ = some (.float .f64 x) ∧
  w'.cell? ⟨B + 1, 0, none⟩ = some (.int .i64 a2) ∧ w'.cell? ⟨B + 1, 1, none⟩ = some (.int .i64 p2) ∧ w'.cell? ⟨B + 1, 2, none⟩ = some (.string n2) ∧ w'.cell? ⟨B + 1, 3, none⟩ = some (.float .f64 y) ∧
  B + 1 < w'.heap.size ∧ Below w.heap.size w w'
theorem keep2 {B : Nat} {a1 p1 a2 p2 : Int} {n1 n2 : ByteArray} {x y : Nat} {w w1 w2 : World} (h : Holds2 B a1 p1 a2 p2 n1 n2 x y w w1) (hb : Below w1.heap.size w1 w2) : Holds2 B a1 p1 a2 p2 n1 n2 x y w w2 := by
  obtain ⟨h0, h1, h2, h3, h4, h5, h6, h7, hs, hw⟩ := h
  have g : ∀ b o, b ≤ B + 1 → w2.cell? ⟨b, o, none⟩ = w1.cell? ⟨b, o, none⟩ := fun b o hbo => hb.cell (p := ⟨b, o, none⟩) (Nat.lt_of_le_of_lt hbo hs)
  exact ⟨(g _ _ (by omega)).trans h0, (g _ _ (by omega)).trans h1, (g _ _ (by omega)).trans h2, (g _ _ (by omega)).trans h3, (g _ _ (by omega)).trans h4, (g _ _ (by omega)).trans h5, (g _ _ (by omega)).trans h6, (g _ _ (by omega)).trans h7,
    Nat.lt_of_lt_of_le hs hb.size, hw.trans (hb.mono hw.size)⟩
/-- beside them a third block, which lies behind -/
def Holds1 (O : Nat) (a p : Int) (n : ByteArray) (x : Nat) (w' : World) : Prop :=
  w'.cell? ⟨O, 0, none⟩ = some (.int .i64 a) ∧ w'.cell? ⟨O, 1, none⟩ = some (.int .i64 p) ∧ w'.cell? ⟨O, 2, none⟩ = some (.string n) ∧ w'.cell? ⟨O, 3, none⟩ = some (.float .f64 x) ∧ O < w'.heap.size
theorem keep1 {O : Nat} {a p : Int} {n : ByteArray} {x : Nat} {w1 w2 : World} (h : Holds1 O a p n x w1) (hb : Below w1.heap.size w1 w2) : Holds1 O a p n x w2 := by
  obtain ⟨h0, h1, h2, h3, hs⟩ := h
  have g : ∀ o, w2.cell? ⟨O, o, none⟩ = w1.cell? ⟨O, o, none⟩ := fun o => hb.cell (p := ⟨O, o, none⟩) hs
  exact ⟨(g _).trans h0, (g _).trans h1, (g _).trans h2, (g _).trans h3, Nat.lt_of_lt_of_le hs hb.size⟩
theorem new1 (w : World) (a p : Int) (n : ByteArray) (x : Nat) (T : TypeId) : Holds1 w.heap.size a p n x (w.alloc (.cells #[.int .i64 a, .int .i64 p, .string n, .float .f64 x] T)) :=
  ⟨by rw [World.cell?_alloc_at _ _ _ _ rfl]; rfl, by rw [World.cell?_alloc_at _ _ _ _ rfl]; rfl, by rw [World.cell?_alloc_at _ _ _ _ rfl]; rfl, by rw [World.cell?_alloc_at _ _ _ _ rfl]; rfl, by simp⟩

theorem walk_out (a1 p1 a2 p2 : Int) (n1 n2 : ByteArray) (x y : Nat) (h : 200 < n1.size ∨ (n1.size ≤ 200 ∧ 200 < n2.size)) (w : World) :
    Calls Try.prog 14 #[.agg #[.int .i64 a1, .int .i64 p1, .string n1, .float .f64 x], .agg #[.int .i64 a2, .int .i64 p2, .string n2, .float .f64 y]] w fun e w' => e = .returned (.bool true) ∧ Below w.heap.size w w' := by
  have hF := (two_facts w #[.int .i64 a1, .int .i64 p1, .string n1, .float .f64 x] #[.int .i64 a2, .int .i64 p2, .string n2, .float .f64 y] 41).2.2.2
  rcases h with h | ⟨h0, h⟩
  all_goals
    go_enter Try.func14, Try.ntmps14
    go_wp2_with fail
    refine (live2_c (two w #[.int .i64 a1, .int .i64 p1, .string n1, .float .f64 x] #[.int .i64 a2, .int .i64 p2, .string n2, .float .f64 y] 41)).mono ?_
    rintro e w5 ⟨rfl, hb5⟩
    go_wp2
    go_ret
    exact ⟨rfl, hF.trans (hb5.mono hF.size)⟩

set_option maxHeartbeats 4000000 in
theorem w_ne_t (a1 p1 a2 p2 : Int) (n1 n2 : ByteArray) (x y : Nat) (hx : x < 18446744073709551616) (hy : y < 18446744073709551616) (h1 : n1.size ≤ 200) (h2 : n2.size ≤ 200)
    (AB : Hid (decide (fr (cm (ky x) (ky y)) (ci a1 a2) < 0) = true)) (BA : Hid (decide (fr (cm (ky y) (ky x)) (ci a2 a1) < 0) = false)) (AA : Hid (decide (fr (cm (ky x) (ky x)) (ci a1 a1) < 0) = false)) (e1 : (a1 == a2) = false) (w : World) :
    Calls Try.prog 14 #[.agg #[.int .i64 a1, .int .i64 p1, .string n1, .float .f64 x], .agg #[.int .i64 a2, .int .i64 p2, .string n2, .float .f64 y]] w fun e w' => e = .returned (.bool true) ∧ Below w.heap.size w w' := by
  have hF := two_facts w #[.int .i64 a1, .int .i64 p1, .string n1, .float .f64 x] #[.int .i64 a2, .int .i64 p2, .string n2, .float .f64 y] 41
  obtain ⟨W, hW⟩ : ∃ W, W = two w #[.int .i64 a1, .int .i64 p1, .string n1, .float .f64 x] #[.int .i64 a2, .int .i64 p2, .string n2, .float .f64 y] 41 := ⟨_, rfl⟩
  rw [← hW] at hF
  obtain ⟨f1, f2, f4, f5⟩ := hF
  obtain ⟨B, hB⟩ : ∃ B, B = w.heap.size := ⟨_, rfl⟩
  have HW := Lib.hid hW
  have HB := Lib.hid hB
  rw [← hB] at f1 f2 f4
  have H0 : Holds2 B a1 p1 a2 p2 n1 n2 x y w W := ⟨f1 0, f1 1, f1 2, f1 3, f2 0, f2 1, f2 2, f2 3, f4, f5⟩
  clear hW hB f1 f2 f4 f5
  go_enter Try.func14, Try.ntmps14
  go_wp2_with fail
  refine (less_c a1 p1 a2 p2 n1 n2 x y hx hy (two w #[.int .i64 a1, .int .i64 p1, .string n1, .float .f64 x] #[.int .i64 a2, .int .i64 p2, .string n2, .float .f64 y] 41)).mono ?_
  rw [← HW.out, ← HB.out]
  rintro e w1 ⟨rfl, hb1⟩
  rw [AB.out]
  have H1 := keep2 H0 hb1
  clear H0 hb1
  obtain ⟨k0, k1, k2, k3, k4, k5, k6, k7, ks, _⟩ := id H1
  go_wp2_with fail
  refine (less_c a2 p2 a1 p1 n2 n1 y x hy hx _).mono ?_
  rintro e w2 ⟨rfl, hb2⟩
  rw [BA.out]
  have H2 := keep2 H1 hb2
  clear H1 hb2 k0 k1 k2 k3 k4 k5 k6 k7 ks
  obtain ⟨k0, k1, k2, k3, k4, k5, k6, k7, ks, _⟩ := id H2
  go_wp2_with fail
  have H3 := keep2 H2 ((Below.refl _ _).alloc (Nat.le_refl _) (.cells #[.int .i64 a1, .int .i64 p2, .string n2, .float .f64 x] 41))
  have O3 := new1 w2 a1 p2 n2 x 41
  refine (less_c a1 p2 a2 p2 n2 n2 x y hx hy _).mono ?_
  rintro e w3 ⟨rfl, hb3⟩
  rw [AB.out]
  have H4 := keep2 H3 hb3
  have O4 := keep1 O3 hb3
  generalize w2.heap.size = O at *
  clear H2 H3 O3 hb3 k0 k1 k2 k3 k4 k5 k6 k7 ks
  obtain ⟨k0, k1, k2, k3, k4, k5, k6, k7, ks, _⟩ := id H4
  obtain ⟨o0, o1, o2, o3, os⟩ := id O4
  go_wp2_with fail
  refine (less_c a2 p2 a1 p2 n2 n2 y x hy hx _).mono ?_
  rintro e w4 ⟨rfl, hb4⟩
  rw [BA.out]
  have H5 := keep2 H4 hb4
  clear H4 O4 hb4 k0 k1 k2 k3 k4 k5 k6 k7 ks o0 o1 o2 o3 os
  obtain ⟨k0, k1, k2, k3, k4, k5, k6, k7, ks, _⟩ := id H5
  go_wp2_with fail
  refine (less_c a1 p1 a1 p1 n1 n1 x x hx hx _).mono ?_
  rintro e w5 ⟨rfl, hb5⟩
  rw [AA.out]
  have H6 := keep2 H5 hb5
  clear H5 hb5 k0 k1 k2 k3 k4 k5 k6 k7 ks
  obtain ⟨k0, k1, k2, k3, k4, k5, k6, k7, ks, c6⟩ := id H6
  go_wp2_with fail
  have c7 := c6
  refine (live2_c _).mono ?_
  rintro e w9 ⟨rfl, hb9⟩
  go_wp2
  go_ret
  exact ⟨rfl, c7.trans (hb9.mono c7.size)⟩

set_option maxHeartbeats 4000000 in
theorem w_ne_f (a1 p1 a2 p2 : Int) (n1 n2 : ByteArray) (x y : Nat) (hx : x < 18446744073709551616) (hy : y < 18446744073709551616) (h1 : n1.size ≤ 200) (h2 : n2.size ≤ 200)
    (AB : Hid (decide (fr (cm (ky x) (ky y)) (ci a1 a2) < 0) = false)) (BA : Hid (decide (fr (cm (ky y) (ky x)) (ci a2 a1) < 0) = true)) (AA : Hid (decide (fr (cm (ky x) (ky x)) (ci a1 a1) < 0) = false)) (e1 : (a1 == a2) = false) (w : World) :
    Calls Try.prog 14 #[.agg #[.int .i64 a1, .int .i64 p1, .string n1, .float .f64 x], .agg #[.int .i64 a2, .int .i64 p2, .string n2, .float .f64 y]] w fun e w' => e = .returned (.bool true) ∧ Below w.heap.size w w' := by
  have hF := two_facts w #[.int .i64 a1, .int .i64 p1, .string n1, .float .f64 x] #[.int .i64 a2, .int .i64 p2, .string n2, .float .f64 y] 41
  obtain ⟨W, hW⟩ : ∃ W, W = two w #[.int .i64 a1, .int .i64 p1, .string n1, .float .f64 x] #[.int .i64 a2, .int .i64 p2, .string n2, .float .f64 y] 41 := ⟨_, rfl⟩
  rw [← hW] at hF
  obtain ⟨f1, f2, f4, f5⟩ := hF
  obtain ⟨B, hB⟩ : ∃ B, B = w.heap.size := ⟨_, rfl⟩
  have HW := Lib.hid hW
  have HB := Lib.hid hB
  rw [← hB] at f1 f2 f4
  have H0 : Holds2 B a1 p1 a2 p2 n1 n2 x y w W := ⟨f1 0, f1 1, f1 2, f1 3, f2 0, f2 1, f2 2, f2 3, f4, f5⟩
  clear hW hB f1 f2 f4 f5
  go_enter Try.func14, Try.ntmps14
  go_wp2_with fail
  refine (less_c a1 p1 a2 p2 n1 n2 x y hx hy (two w #[.int .i64 a1, .int .i64 p1, .string n1, .float .f64 x] #[.int .i64 a2, .int .i64 p2, .string n2, .float .f64 y] 41)).mono ?_
  rw [← HW.out, ← HB.out]
  rintro e w1 ⟨rfl, hb1⟩
  rw [AB.out]
  have H1 := keep2 H0 hb1
  clear H0 hb1
  obtain ⟨k0, k1, k2, k3, k4, k5, k6, k7, ks, _⟩ := id H1
  go_wp2_with fail
  refine (less_c a2 p2 a1 p1 n2 n1 y x hy hx _).mono ?_
  rintro e w2 ⟨rfl, hb2⟩
  rw [BA.out]
  have H2 := keep2 H1 hb2
  clear H1 hb2 k0 k1 k2 k3 k4 k5 k6 k7 ks
  obtain ⟨k0, k1, k2, k3, k4, k5, k6, k7, ks, _⟩ := id H2
  go_wp2_with fail
  have H3 := keep2 H2 ((Below.refl _ _).alloc (Nat.le_refl _) (.cells #[.int .i64 a1, .int .i64 p2, .string n2, .float .f64 x] 41))
  have O3 := new1 w2 a1 p2 n2 x 41
  refine (less_c a1 p2 a2 p2 n2 n2 x y hx hy _).mono ?_
  rintro e w3 ⟨rfl, hb3⟩
  rw [AB.out]
  have H4 := keep2 H3 hb3
  have O4 := keep1 O3 hb3
  generalize w2.heap.size = O at *
  clear H2 H3 O3 hb3 k0 k1 k2 k3 k4 k5 k6 k7 ks
  obtain ⟨k0, k1, k2, k3, k4, k5, k6, k7, ks, _⟩ := id H4
  obtain ⟨o0, o1, o2, o3, os⟩ := id O4
  go_wp2_with fail
  refine (less_c a2 p2 a1 p2 n2 n2 y x hy hx _).mono ?_
  rintro e w4 ⟨rfl, hb4⟩
  rw [BA.out]
  have H5 := keep2 H4 hb4
  clear H4 O4 hb4 k0 k1 k2 k3 k4 k5 k6 k7 ks o0 o1 o2 o3 os
  obtain ⟨k0, k1, k2, k3, k4, k5, k6, k7, ks, _⟩ := id H5
  go_wp2_with fail
  refine (less_c a1 p1 a1 p1 n1 n1 x x hx hx _).mono ?_
  rintro e w5 ⟨rfl, hb5⟩
  rw [AA.out]
  have H6 := keep2 H5 hb5
  clear H5 hb5 k0 k1 k2 k3 k4 k5 k6 k7 ks
  obtain ⟨k0, k1, k2, k3, k4, k5, k6, k7, ks, c6⟩ := id H6
  go_wp2_with fail
  have c7 := c6
  refine (live2_c _).mono ?_
  rintro e w9 ⟨rfl, hb9⟩
  go_wp2
  go_ret
  exact ⟨rfl, c7.trans (hb9.mono c7.size)⟩

set_option maxHeartbeats 4000000 in
theorem w_eq_t (a1 p1 a2 p2 : Int) (n1 n2 : ByteArray) (x y : Nat) (hx : x < 18446744073709551616) (hy : y < 18446744073709551616) (h1 : n1.size ≤ 200) (h2 : n2.size ≤ 200)
    (AB : Hid (decide (fr (cm (ky x) (ky y)) (ci a1 a2) < 0) = true)) (BA : Hid (decide (fr (cm (ky y) (ky x)) (ci a2 a1) < 0) = false)) (AA : Hid (decide (fr (cm (ky x) (ky x)) (ci a1 a1) < 0) = false)) (e1 : (a1 == a2) = true) (CZ : (cm (ky x) (ky y) == 0) = false) (w : World) :
    Calls Try.prog 14 #[.agg #[.int .i64 a1, .int .i64 p1, .string n1, .float .f64 x], .agg #[.int .i64 a2, .int .i64 p2, .string n2, .float .f64 y]] w fun e w' => e = .returned (.bool true) ∧ Below w.heap.size w w' := by
  have hF := two_facts w #[.int .i64 a1, .int .i64 p1, .string n1, .float .f64 x] #[.int .i64 a2, .int .i64 p2, .string n2, .float .f64 y] 41
  obtain ⟨W, hW⟩ : ∃ W, W = two w #[.int .i64 a1, .int .i64 p1, .string n1, .float .f64 x] #[.int .i64 a2, .int .i64 p2, .string n2, .float .f64 y] 41 := ⟨_, rfl⟩
  rw [← hW] at hF
  obtain ⟨f1, f2, f4, f5⟩ := hF
  obtain ⟨B, hB⟩ : ∃ B, B = w.heap.size := ⟨_, rfl⟩
  have HW := Lib.hid hW
  have HB := Lib.hid hB
  rw [← hB] at f1 f2 f4
  have H0 : Holds2 B a1 p1 a2 p2 n1 n2 x y w W := ⟨f1 0, f1 1, f1 2, f1 3, f2 0, f2 1, f2 2, f2 3, f4, f5⟩
  clear hW hB f1 f2 f4 f5
  go_enter Try.func14, Try.ntmps14
  go_wp2_with fail
  refine (less_c a1 p1 a2 p2 n1 n2 x y hx hy (two w #[.int .i64 a1, .int .i64 p1, .string n1, .float .f64 x] #[.int .i64 a2, .int .i64 p2, .string n2, .float .f64 y] 41)).mono ?_
  rw [← HW.out, ← HB.out]
  rintro e w1 ⟨rfl, hb1⟩
  rw [AB.out]
  have H1 := keep2 H0 hb1
  clear H0 hb1
  obtain ⟨k0, k1, k2, k3, k4, k5, k6, k7, ks, _⟩ := id H1
  go_wp2_with fail
  refine (less_c a2 p2 a1 p1 n2 n1 y x hy hx _).mono ?_
  rintro e w2 ⟨rfl, hb2⟩
  rw [BA.out]
  have H2 := keep2 H1 hb2
  clear H1 hb2 k0 k1 k2 k3 k4 k5 k6 k7 ks
  obtain ⟨k0, k1, k2, k3, k4, k5, k6, k7, ks, _⟩ := id H2
  go_wp2_with fail
  have H3 := keep2 H2 ((Below.refl _ _).alloc (Nat.le_refl _) (.cells #[.int .i64 a1, .int .i64 p2, .string n2, .float .f64 x] 41))
  have O3 := new1 w2 a1 p2 n2 x 41
  refine (less_c a1 p2 a2 p2 n2 n2 x y hx hy _).mono ?_
  rintro e w3 ⟨rfl, hb3⟩
  rw [AB.out]
  have H4 := keep2 H3 hb3
  have O4 := keep1 O3 hb3
  generalize w2.heap.size = O at *
  clear H2 H3 O3 hb3 k0 k1 k2 k3 k4 k5 k6 k7 ks
  obtain ⟨k0, k1, k2, k3, k4, k5, k6, k7, ks, _⟩ := id H4
  obtain ⟨o0, o1, o2, o3, os⟩ := id O4
  go_wp2_with fail
  refine (less_c a2 p2 a1 p2 n2 n2 y x hy hx _).mono ?_
  rintro e w4 ⟨rfl, hb4⟩
  rw [BA.out]
  have H5 := keep2 H4 hb4
  clear H4 O4 hb4 k0 k1 k2 k3 k4 k5 k6 k7 ks o0 o1 o2 o3 os
  obtain ⟨k0, k1, k2, k3, k4, k5, k6, k7, ks, _⟩ := id H5
  go_wp2_with fail
  refine (less_c a1 p1 a1 p1 n1 n1 x x hx hx _).mono ?_
  rintro e w5 ⟨rfl, hb5⟩
  rw [AA.out]
  have H6 := keep2 H5 hb5
  clear H5 hb5 k0 k1 k2 k3 k4 k5 k6 k7 ks
  obtain ⟨k0, k1, k2, k3, k4, k5, k6, k7, ks, c6⟩ := id H6
  go_wp2_with fail
  refine (compare_c x y hx hy _).mono ?_
  rintro e w6 ⟨rfl, hb6⟩
  have c7 := c6.trans (hb6.mono c6.size)
  clear k0 k1 k2 k3 k4 k5 k6 k7 ks
  go_wp2_with fail
  refine (live2_c _).mono ?_
  rintro e w9 ⟨rfl, hb9⟩
  go_wp2
  go_ret
  exact ⟨rfl, c7.trans (hb9.mono c7.size)⟩

set_option maxHeartbeats 4000000 in
theorem w_eq_f (a1 p1 a2 p2 : Int) (n1 n2 : ByteArray) (x y : Nat) (hx : x < 18446744073709551616) (hy : y < 18446744073709551616) (h1 : n1.size ≤ 200) (h2 : n2.size ≤ 200)
    (AB : Hid (decide (fr (cm (ky x) (ky y)) (ci a1 a2) < 0) = false)) (BA : Hid (decide (fr (cm (ky y) (ky x)) (ci a2 a1) < 0) = true)) (AA : Hid (decide (fr (cm (ky x) (ky x)) (ci a1 a1) < 0) = false)) (e1 : (a1 == a2) = true) (CZ : (cm (ky x) (ky y) == 0) = false) (w : World) :
    Calls Try.prog 14 #[.agg #[.int .i64 a1, .int .i64 p1, .string n1, .float .f64 x], .agg #[.int .i64 a2, .int .i64 p2, .string n2, .float .f64 y]] w fun e w' => e = .returned (.bool true) ∧ Below w.heap.size w w' := by
  have hF := two_facts w #[.int .i64 a1, .int .i64 p1, .string n1, .float .f64 x] #[.int .i64 a2, .int .i64 p2, .string n2, .float .f64 y] 41
  obtain ⟨W, hW⟩ : ∃ W, W = two w #[.int .i64 a1, .int .i64 p1, .string n1, .float .f64 x] #[.int .i64 a2, .int .i64 p2, .string n2, .float .f64 y] 41 := ⟨_, rfl⟩
  rw [← hW] at hF
  obtain ⟨f1, f2, f4, f5⟩ := hF
  obtain ⟨B, hB⟩ : ∃ B, B = w.heap.size := ⟨_, rfl⟩
  have HW := Lib.hid hW
  have HB := Lib.hid hB
  rw [← hB] at f1 f2 f4
  have H0 : Holds2 B a1 p1 a2 p2 n1 n2 x y w W := ⟨f1 0, f1 1, f1 2, f1 3, f2 0, f2 1, f2 2, f2 3, f4, f5⟩
  clear hW hB f1 f2 f4 f5
  go_enter Try.func14, Try.ntmps14
  go_wp2_with fail
  refine (less_c a1 p1 a2 p2 n1 n2 x y hx hy (two w #[.int .i64 a1, .int .i64 p1, .string n1, .float .f64 x] #[.int .i64 a2, .int .i64 p2, .string n2, .float .f64 y] 41)).mono ?_
  rw [← HW.out, ← HB.out]
  rintro e w1 ⟨rfl, hb1⟩
  rw [AB.out]
  have H1 := keep2 H0 hb1
  clear H0 hb1
  obtain ⟨k0, k1, k2, k3, k4, k5, k6, k7, ks, _⟩ := id H1
  go_wp2_with fail
  refine (less_c a2 p2 a1 p1 n2 n1 y x hy hx _).mono ?_
  rintro e w2 ⟨rfl, hb2⟩
  rw [BA.out]
  have H2 := keep2 H1 hb2
  clear H1 hb2 k0 k1 k2 k3 k4 k5 k6 k7 ks
  obtain ⟨k0, k1, k2, k3, k4, k5, k6, k7, ks, _⟩ := id H2
  go_wp2_with fail
  have H3 := keep2 H2 ((Below.refl _ _).alloc (Nat.le_refl _) (.cells #[.int .i64 a1, .int .i64 p2, .string n2, .float .f64 x] 41))
  have O3 := new1 w2 a1 p2 n2 x 41
  refine (less_c a1 p2 a2 p2 n2 n2 x y hx hy _).mono ?_
  rintro e w3 ⟨rfl, hb3⟩
  rw [AB.out]
  have H4 := keep2 H3 hb3
  have O4 := keep1 O3 hb3
  generalize w2.heap.size = O at *
  clear H2 H3 O3 hb3 k0 k1 k2 k3 k4 k5 k6 k7 ks
  obtain ⟨k0, k1, k2, k3, k4, k5, k6, k7, ks, _⟩ := id H4
  obtain ⟨o0, o1, o2, o3, os⟩ := id O4
  go_wp2_with fail
  refine (less_c a2 p2 a1 p2 n2 n2 y x hy hx _).mono ?_
  rintro e w4 ⟨rfl, hb4⟩
  rw [BA.out]
  have H5 := keep2 H4 hb4
  clear H4 O4 hb4 k0 k1 k2 k3 k4 k5 k6 k7 ks o0 o1 o2 o3 os
  obtain ⟨k0, k1, k2, k3, k4, k5, k6, k7, ks, _⟩ := id H5
  go_wp2_with fail
  refine (less_c a1 p1 a1 p1 n1 n1 x x hx hx _).mono ?_
  rintro e w5 ⟨rfl, hb5⟩
  rw [AA.out]
  have H6 := keep2 H5 hb5
  clear H5 hb5 k0 k1 k2 k3 k4 k5 k6 k7 ks
  obtain ⟨k0, k1, k2, k3, k4, k5, k6, k7, ks, c6⟩ := id H6
  go_wp2_with fail
  refine (compare_c x y hx hy _).mono ?_
  rintro e w6 ⟨rfl, hb6⟩
  have c7 := c6.trans (hb6.mono c6.size)
  clear k0 k1 k2 k3 k4 k5 k6 k7 ks
  go_wp2_with fail
  refine (live2_c _).mono ?_
  rintro e w9 ⟨rfl, hb9⟩
  go_wp2
  go_ret
  exact ⟨rfl, c7.trans (hb9.mono c7.size)⟩

set_option maxHeartbeats 4000000 in
theorem w_same (a1 p1 a2 p2 : Int) (n1 n2 : ByteArray) (x y : Nat) (hx : x < 18446744073709551616) (hy : y < 18446744073709551616) (h1 : n1.size ≤ 200) (h2 : n2.size ≤ 200)
    (AB : Hid (decide (fr (cm (ky x) (ky y)) (ci a1 a2) < 0) = false)) (BA : Hid (decide (fr (cm (ky y) (ky x)) (ci a2 a1) < 0) = false)) (AA : Hid (decide (fr (cm (ky x) (ky x)) (ci a1 a1) < 0) = false)) (e1 : (a1 == a2) = true) (CZ : Hid (cm (ky x) (ky y) = 0)) (w : World) :
    Calls Try.prog 14 #[.agg #[.int .i64 a1, .int .i64 p1, .string n1, .float .f64 x], .agg #[.int .i64 a2, .int .i64 p2, .string n2, .float .f64 y]] w fun e w' => e = .returned (.bool true) ∧ Below w.heap.size w w' := by
  have hF := two_facts w #[.int .i64 a1, .int .i64 p1, .string n1, .float .f64 x] #[.int .i64 a2, .int .i64 p2, .string n2, .float .f64 y] 41
  obtain ⟨W, hW⟩ : ∃ W, W = two w #[.int .i64 a1, .int .i64 p1, .string n1, .float .f64 x] #[.int .i64 a2, .int .i64 p2, .string n2, .float .f64 y] 41 := ⟨_, rfl⟩
  rw [← hW] at hF
  obtain ⟨f1, f2, f4, f5⟩ := hF
  obtain ⟨B, hB⟩ : ∃ B, B = w.heap.size := ⟨_, rfl⟩
  have HW := Lib.hid hW
  have HB := Lib.hid hB
  rw [← hB] at f1 f2 f4
  have H0 : Holds2 B a1 p1 a2 p2 n1 n2 x y w W := ⟨f1 0, f1 1, f1 2, f1 3, f2 0, f2 1, f2 2, f2 3, f4, f5⟩
  clear hW hB f1 f2 f4 f5
  go_enter Try.func14, Try.ntmps14
  go_wp2_with fail
  refine (less_c a1 p1 a2 p2 n1 n2 x y hx hy (two w #[.int .i64 a1, .int .i64 p1, .string n1, .float .f64 x] #[.int .i64 a2, .int .i64 p2, .string n2, .float .f64 y] 41)).mono ?_
  rw [← HW.out, ← HB.out]
  rintro e w1 ⟨rfl, hb1⟩
  rw [AB.out]
  have H1 := keep2 H0 hb1
  clear H0 hb1
  obtain ⟨k0, k1, k2, k3, k4, k5, k6, k7, ks, _⟩ := id H1
  go_wp2_with fail
  refine (less_c a2 p2 a1 p1 n2 n1 y x hy hx _).mono ?_
  rintro e w2 ⟨rfl, hb2⟩
  rw [BA.out]
  have H2 := keep2 H1 hb2
  clear H1 hb2 k0 k1 k2 k3 k4 k5 k6 k7 ks
  obtain ⟨k0, k1, k2, k3, k4, k5, k6, k7, ks, _⟩ := id H2
  go_wp2_with fail
  have H3 := keep2 H2 ((Below.refl _ _).alloc (Nat.le_refl _) (.cells #[.int .i64 a1, .int .i64 p2, .string n2, .float .f64 x] 41))
  have O3 := new1 w2 a1 p2 n2 x 41
  refine (less_c a1 p2 a2 p2 n2 n2 x y hx hy _).mono ?_
  rintro e w3 ⟨rfl, hb3⟩
  rw [AB.out]
  have H4 := keep2 H3 hb3
  have O4 := keep1 O3 hb3
  generalize w2.heap.size = O at *
  clear H2 H3 O3 hb3 k0 k1 k2 k3 k4 k5 k6 k7 ks
  obtain ⟨k0, k1, k2, k3, k4, k5, k6, k7, ks, _⟩ := id H4
  obtain ⟨o0, o1, o2, o3, os⟩ := id O4
  go_wp2_with fail
  refine (less_c a2 p2 a1 p2 n2 n2 y x hy hx _).mono ?_
  rintro e w4 ⟨rfl, hb4⟩
  rw [BA.out]
  have H5 := keep2 H4 hb4
  clear H4 O4 hb4 k0 k1 k2 k3 k4 k5 k6 k7 ks o0 o1 o2 o3 os
  obtain ⟨k0, k1, k2, k3, k4, k5, k6, k7, ks, _⟩ := id H5
  go_wp2_with fail
  refine (less_c a1 p1 a1 p1 n1 n1 x x hx hx _).mono ?_
  rintro e w5 ⟨rfl, hb5⟩
  rw [AA.out]
  have H6 := keep2 H5 hb5
  clear H5 hb5 k0 k1 k2 k3 k4 k5 k6 k7 ks
  obtain ⟨k0, k1, k2, k3, k4, k5, k6, k7, ks, c6⟩ := id H6
  go_wp2_with fail
  refine (compare_c x y hx hy _).mono ?_
  rintro e w6 ⟨rfl, hb6⟩
  rw [CZ.out]
  have c7 := c6.trans (hb6.mono c6.size)
  clear k0 k1 k2 k3 k4 k5 k6 k7 ks
  go_wp2_with fail
  refine (live2_c _).mono ?_
  rintro e w9 ⟨rfl, hb9⟩
  go_wp2
  go_ret
  exact ⟨rfl, c7.trans (hb9.mono c7.size)⟩

theorem walk (a1 p1 a2 p2 : Int) (n1 n2 : ByteArray) (x y : Nat) (hx : x < 18446744073709551616) (hy : y < 18446744073709551616) (w : World) :
    Calls Try.prog 14 #[.agg #[.int .i64 a1, .int .i64 p1, .string n1, .float .f64 x], .agg #[.int .i64 a2, .int .i64 p2, .string n2, .float .f64 y]] w fun e w' => e = .returned (.bool true) ∧ Below w.heap.size w w' := by
  rcases Nat.lt_or_ge 200 n1.size with h1 | h1
  · exact walk_out a1 p1 a2 p2 n1 n2 x y (.inl h1) w
  · rcases Nat.lt_or_ge 200 n2.size with h2 | h2
    · exact walk_out a1 p1 a2 p2 n1 n2 x y (.inr ⟨h1, h2⟩) w
    · have AA : decide (fr (cm (ky x) (ky x)) (ci a1 a1) < 0) = false := by rw [cm_eq, fr_zero, ci_eq]; rfl
      rcases cm_tri (ky x) (ky y) with ⟨_, c1, c2⟩ | ⟨_, c1, c2⟩ | ⟨_, c1, c2⟩
      · have AB : decide (fr (cm (ky x) (ky y)) (ci a1 a2) < 0) = true := by rw [c1]; rfl
        have BA : decide (fr (cm (ky y) (ky x)) (ci a2 a1) < 0) = false := by rw [c2]; rfl
        cases e1 : (a1 == a2)
        · exact w_ne_t a1 p1 a2 p2 n1 n2 x y hx hy h1 h2 AB BA AA e1 w
        · exact w_eq_t a1 p1 a2 p2 n1 n2 x y hx hy h1 h2 AB BA AA e1 (by rw [c1]; rfl) w
      · rcases Int.lt_trichotomy a1 a2 with h | h | h
        · have AB : decide (fr (cm (ky x) (ky y)) (ci a1 a2) < 0) = true := by rw [c1, fr_zero, ci_lt h]; rfl
          have BA : decide (fr (cm (ky y) (ky x)) (ci a2 a1) < 0) = false := by rw [c2, fr_zero, ci_gt h]; rfl
          exact w_ne_t a1 p1 a2 p2 n1 n2 x y hx hy h1 h2 AB BA AA (by rw [beq_eq_false_iff_ne]; omega) w
        · subst h
          have AB : decide (fr (cm (ky x) (ky y)) (ci a1 a1) < 0) = false := by rw [c1, fr_zero, ci_eq]; rfl
          have BA : decide (fr (cm (ky y) (ky x)) (ci a1 a1) < 0) = false := by rw [c2, fr_zero, ci_eq]; rfl
          exact w_same a1 p1 a1 p2 n1 n2 x y hx hy h1 h2 AB BA AA (by simp) c1 w
        · have AB : decide (fr (cm (ky x) (ky y)) (ci a1 a2) < 0) = false := by rw [c1, fr_zero, ci_gt h]; rfl
          have BA : decide (fr (cm (ky y) (ky x)) (ci a2 a1) < 0) = true := by rw [c2, fr_zero, ci_lt h]; rfl
          exact w_ne_f a1 p1 a2 p2 n1 n2 x y hx hy h1 h2 AB BA AA (by rw [beq_eq_false_iff_ne]; omega) w
      · have AB : decide (fr (cm (ky x) (ky y)) (ci a1 a2) < 0) = false := by rw [c1]; rfl
        have BA : decide (fr (cm (ky y) (ky x)) (ci a2 a1) < 0) = true := by rw [c2]; rfl
        cases e1 : (a1 == a2)
        · exact w_ne_f a1 p1 a2 p2 n1 n2 x y hx hy h1 h2 AB BA AA e1 w
        · exact w_eq_f a1 p1 a2 p2 n1 n2 x y hx hy h1 h2 AB BA AA e1 (by rw [c1]; rfl) w
end rankSame
end Go.Proofs.Ytaahfcljcejemaa
