/-
  The walk of RankRows.
-/
import Derived.Test.YtaahfcljcejemaaBt
import Derived.Test.YtaahfcljcejemaaWa
import Derived.Deep.RegionHeld3
namespace Go.Proofs.Ytaahfcljcejemaa
open Go.RowKit
open Fl
set_option maxRecDepth 100000

namespace rankRows
theorem walk_out (a1 p1 a2 p2 : Int) (n1 n2 : ByteArray) (x y : Nat) (c1 r1 c2 r2 : Int) (h : 200 < n1.size ∨ (n1.size ≤ 200 ∧ 200 < n2.size)) (w : World) :
    Calls Try.prog 9 #[.agg #[.int .i64 a1, .int .i64 p1, .string n1, .float .f64 x], .agg #[.int .i64 a2, .int .i64 p2, .string n2, .float .f64 y], .agg #[.int .i64 c1, .int .i64 r1, .int .i64 c2, .int .i64 r2]] w fun e w' => e = .returned (.bool true) ∧ Below w.heap.size w w' := by
  have hF := (three_facts w #[.int .i64 a1, .int .i64 p1, .string n1, .float .f64 x] #[.int .i64 a2, .int .i64 p2, .string n2, .float .f64 y] #[.int .i64 c1, .int .i64 r1, .int .i64 c2, .int .i64 r2] 41 44).2.2.2.2
  rcases h with h | ⟨h0, h⟩
  all_goals
    go_enter Try.func9, Try.ntmps9
    go_wp2_with fail
    refine (live2_c (three w #[.int .i64 a1, .int .i64 p1, .string n1, .float .f64 x] #[.int .i64 a2, .int .i64 p2, .string n2, .float .f64 y] #[.int .i64 c1, .int .i64 r1, .int .i64 c2, .int .i64 r2] 41 44)).mono ?_
    rintro e w5 ⟨rfl, hb5⟩
    go_wp2
    go_ret
    exact ⟨rfl, hF.trans (hb5.mono hF.size)⟩

/-- what the three blocks hold, and that all that was there is as it was -/
def Holds3 (B : Nat) (a1 p1 a2 p2 : Int) (n1 n2 : ByteArray) (x y : Nat) (c1 r1 c2 r2 : Int) (w w' : World) : Prop :=
  w'.cell? ⟨B, 0, none⟩ = some (.int .i64 a1) ∧ w'.cell? ⟨B, 1, none⟩ = some (.int .i64 p1) ∧ w'.cell? ⟨B, 2, none⟩ = some (.string n1) ∧ w'.cell? ⟨B, 3, none⟩ = some (.float .f64 x) ∧
  w'.cell? ⟨B + 1, 0, none⟩ = some (.int .i64 a2) ∧ w'.cell? ⟨B + 1, 1, none⟩ = some (.int .i64 p2) ∧ w'.cell? ⟨B + 1, 2, none⟩ = some (.string n2) ∧ w'.cell? ⟨B + 1, 3, none⟩ = some (.float .f64 y) ∧
  w'.cell? ⟨B + 1 + 1, 0, none⟩ = some (.int .i64 c1) ∧ w'.cell? ⟨B + 1 + 1, 1, none⟩ = some (.int .i64 r1) ∧ w'.cell? ⟨B + 1 + 1, 2, none⟩ = some (.int .i64 c2) ∧ w'.cell? ⟨B + 1 + 1, 3, none⟩ = some (.int .i64 r2) ∧
  B + 1 + 1 < w'.heap.size ∧ Below w.heap.size w w'

theorem hold_keep {B : Nat} {a1 p1 a2 p2 : Int} {n1 n2 : ByteArray} {x y : Nat} {c1 r1 c2 r2 : Int} {w w1 w2 : World} (h : Holds3 B a1 p1 a2 p2 n1 n2 x y c1 r1 c2 r2 w w1) (hb : Below w1.heap.size w1 w2) : Holds3 B a1 p1 a2 p2 n1 n2 x y c1 r1 c2 r2 w w2 := by
  obtain ⟨h0, h1, h2, h3, h4, h5, h6, h7, h8, h9, ha, hb', hs, hw⟩ := h
  have g : ∀ b o, b ≤ B + 1 + 1 → w2.cell? ⟨b, o, none⟩ = w1.cell? ⟨b, o, none⟩ := fun b o hbo => hb.cell (p := ⟨b, o, none⟩) (Nat.lt_of_le_of_lt hbo hs)
  exact ⟨(g _ _ (by omega)).trans h0, (g _ _ (by omega)).trans h1, (g _ _ (by omega)).trans h2, (g _ _ (by omega)).trans h3, (g _ _ (by omega)).trans h4, (g _ _ (by omega)).trans h5, (g _ _ (by omega)).trans h6, (g _ _ (by omega)).trans h7,
    (g _ _ (by omega)).trans h8, (g _ _ (by omega)).trans h9, (g _ _ (by omega)).trans ha, (g _ _ (by omega)).trans hb', Nat.lt_of_lt_of_le hs hb.size, hw.trans (hb.mono hw.size)⟩
theorem hold_drew {B : Nat} {a1 p1 a2 p2 : Int} {n1 n2 : ByteArray} {x y : Nat} {c1 r1 c2 r2 : Int} {w w1 : World} (h : Holds3 B a1 p1 a2 p2 n1 n2 x y c1 r1 c2 r2 w w1) : Holds3 B a1 p1 a2 p2 n1 n2 x y c1 r1 c2 r2 w w1.drew :=
  hold_keep h (Below.refl _ _).drew

theorem hold_below {B : Nat} {a1 p1 a2 p2 : Int} {n1 n2 : ByteArray} {x y : Nat} {c1 r1 c2 r2 : Int} {w w1 : World} (h : Holds3 B a1 p1 a2 p2 n1 n2 x y c1 r1 c2 r2 w w1) : Below w.heap.size w w1 := by
  obtain ⟨_, _, _, _, _, _, _, _, _, _, _, _, _, hw⟩ := h
  exact hw

set_option maxHeartbeats 4000000 in
theorem walk_in (a1 p1 a2 p2 : Int) (n1 n2 : ByteArray) (x y : Nat) (hx : x < 18446744073709551616) (hy : y < 18446744073709551616) (c1 r1 c2 r2 : Int) (h1 : n1.size ≤ 200) (h2 : n2.size ≤ 200) (w : World) :
    Calls Try.prog 9 #[.agg #[.int .i64 a1, .int .i64 p1, .string n1, .float .f64 x], .agg #[.int .i64 a2, .int .i64 p2, .string n2, .float .f64 y], .agg #[.int .i64 c1, .int .i64 r1, .int .i64 c2, .int .i64 r2]] w fun e w' => e = .returned (.bool true) ∧ Below w.heap.size w w' := by
  have hF := three_facts w #[.int .i64 a1, .int .i64 p1, .string n1, .float .f64 x] #[.int .i64 a2, .int .i64 p2, .string n2, .float .f64 y] #[.int .i64 c1, .int .i64 r1, .int .i64 c2, .int .i64 r2] 41 44
  obtain ⟨W, hW⟩ : ∃ W, W = three w #[.int .i64 a1, .int .i64 p1, .string n1, .float .f64 x] #[.int .i64 a2, .int .i64 p2, .string n2, .float .f64 y] #[.int .i64 c1, .int .i64 r1, .int .i64 c2, .int .i64 r2] 41 44 := ⟨_, rfl⟩
  rw [← hW] at hF
  obtain ⟨f1, f2, f3, f4, f5⟩ := hF
  obtain ⟨B, hB⟩ : ∃ B, B = w.heap.size := ⟨_, rfl⟩
  have HW := Lib.hid hW
  have HB := Lib.hid hB
  rw [← hB] at f1 f2 f3 f4
  have F1 := Lib.hid f1
  have F2 := Lib.hid f2
  have F3 := Lib.hid f3
  clear hW hB f1 f2 f3
  go_enter Try.func9, Try.ntmps9
  go_wp2_with fail
  change Code.wp _ _ _ _ (three w #[.int .i64 a1, .int .i64 p1, .string n1, .float .f64 x] #[.int .i64 a2, .int .i64 p2, .string n2, .float .f64 y] #[.int .i64 c1, .int .i64 r1, .int .i64 c2, .int .i64 r2] 41 44)
  rw [← HW.out, ← HB.out]
  have k0 := F1.out 0
  have k1 := F1.out 1
  have k2 := F1.out 2
  have k3 := F1.out 3
  have k4 := F2.out 0
  have k5 := F2.out 1
  have k6 := F2.out 2
  have k7 := F2.out 3
  have k8 := F3.out 0
  have k9 := F3.out 1
  have ka := F3.out 2
  have kb := F3.out 3
  simp only [List.getElem?_toArray, List.getElem?_cons_zero, List.getElem?_cons_succ] at k0 k1 k2 k3 k4 k5 k6 k7 k8 k9 ka kb
  go_region_held3 (fun w' => w'.cell? ⟨B, 0, none⟩ = some (.int .i64 a1) ∧ w'.cell? ⟨B, 1, none⟩ = some (.int .i64 p1) ∧ w'.cell? ⟨B, 2, none⟩ = some (.string n1) ∧ w'.cell? ⟨B, 3, none⟩ = some (.float .f64 x) ∧
  w'.cell? ⟨B + 1, 0, none⟩ = some (.int .i64 a2) ∧ w'.cell? ⟨B + 1, 1, none⟩ = some (.int .i64 p2) ∧ w'.cell? ⟨B + 1, 2, none⟩ = some (.string n2) ∧ w'.cell? ⟨B + 1, 3, none⟩ = some (.float .f64 y) ∧
  w'.cell? ⟨B + 1 + 1, 0, none⟩ = some (.int .i64 c1) ∧ w'.cell? ⟨B + 1 + 1, 1, none⟩ = some (.int .i64 r1) ∧ w'.cell? ⟨B + 1 + 1, 2, none⟩ = some (.int .i64 c2) ∧ w'.cell? ⟨B + 1 + 1, 3, none⟩ = some (.int .i64 r2) ∧
  B + 1 + 1 < w'.heap.size ∧ Below w.heap.size w w')
    (first
      | (exact hold_keep (by assumption) hbn)
      | (exact hold_drew (by assumption))
      | (exact hold_drew ⟨k0, k1, k2, k3, k4, k5, k6, k7, k8, k9, ka, kb, f4, f5⟩)
      | go_keep)
    (first
      | (go_at_call 37; refine (less_c _ _ _ _ _ _ _ _ hx hy _).mono ?_; rintro e w2 ⟨rfl, hbn⟩)
      | (go_at_call 38; refine (rLess_c _ _ _ _ _ _ _ _ hx hy _).mono ?_; rintro e w2 ⟨rfl, hbn⟩)
      | (go_at_call 39; refine (before_c _ _ _ _ _).mono ?_; rintro e w2 ⟨rfl, hbn⟩)
      | (go_at_call 40; refine (rBefore_c _ _ _ _ _).mono ?_; rintro e w2 ⟨rfl, hbn⟩)
      | (go_at_call 36; refine (live2_c _).mono ?_; rintro e w2 ⟨rfl, hbn⟩))
  go_wp2
  go_ret
  exact ⟨rfl, hold_below (B := B) (a1 := a1) (p1 := p1) (a2 := a2) (p2 := p2) (n1 := n1) (n2 := n2) (x := x) (y := y) (c1 := c1) (r1 := r1) (c2 := c2) (r2 := r2) (by assumption)⟩

theorem walk (a1 p1 a2 p2 : Int) (n1 n2 : ByteArray) (x y : Nat) (hx : x < 18446744073709551616) (hy : y < 18446744073709551616) (c1 r1 c2 r2 : Int) (w : World) :
    Calls Try.prog 9 #[.agg #[.int .i64 a1, .int .i64 p1, .string n1, .float .f64 x], .agg #[.int .i64 a2, .int .i64 p2, .string n2, .float .f64 y], .agg #[.int .i64 c1, .int .i64 r1, .int .i64 c2, .int .i64 r2]] w fun e w' => e = .returned (.bool true) ∧ Below w.heap.size w w' := by
  rcases Nat.lt_or_ge 200 n1.size with h1 | h1
  · exact walk_out a1 p1 a2 p2 n1 n2 x y c1 r1 c2 r2 (.inl h1) w
  · rcases Nat.lt_or_ge 200 n2.size with h2 | h2
    · exact walk_out a1 p1 a2 p2 n1 n2 x y c1 r1 c2 r2 (.inr ⟨h1, h2⟩) w
    · exact walk_in a1 p1 a2 p2 n1 n2 x y hx hy c1 r1 c2 r2 h1 h2 w
end rankRows
end Go.Proofs.Ytaahfcljcejemaa
