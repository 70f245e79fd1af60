/-
  'live' of layer 15's statements: some answers that are written out.
-/
import Derived.Test.YtnkckoilhhbllaaHg
import Derived.Test.YtnkckoilhhbllaaHh
import Derived.Test.YtnkckoilhhbllaaHi
import Derived.Test.YtnkckoilhhbllaaQd
import Derived.Test.YtnkckoilhhbllaaSe
import Derived.Deep.RegionHeld3
namespace Go.Proofs.Ytnkckoilhhbllaa
open Go.RowKit Go.IntWalk
set_option maxRecDepth 100000
attribute [local go_sem] Oper.semAt_some

abbrev ms15 : List Mv := [mv0 1 0 [97], mv0 1 5 [98], mv0 1 1 []]
abbrev r15a : Rw := (1, 0, [97], 0)
abbrev r15b : Rw := (1, 5, [98], 0)
abbrev s15a : Sp := (mv0 1 0 [97], true, false, zr)
abbrev s15b : Sp := (mv0 1 5 [98], true, true, r15a)
abbrev s15c : Sp := (mv0 1 1 [], false, false, zr)
abbrev s15 : List Sp := [s15a, s15b, s15c]
theorem f15_all : allP [] ms15 = [r15b] := by decide
theorem f15_steps : stepsP [] ms15 = s15 := by rfl
theorem run15_c {A2 : Option Addr} {cap2 : Nat} {w : World} (hc2 : At w w.heap.size A2 (mvs ms15)) :
    Calls Try.prog 43 #[.slice none 0 0, .slice A2 3 cap2] w fun e w' => ∃ A cap A2 cap2, e = .returned (.tuple #[.slice A 1 cap, .slice A2 3 cap2]) ∧ At w' w'.heap.size A (tvs [r15b]) ∧ (A = none → cap = 0) ∧ 1 ≤ cap ∧ At w' w'.heap.size A2 (pvs s15) ∧ (A2 = none → cap2 = 0) ∧ 3 ≤ cap2 ∧ Below w.heap.size w w' := by
  have := murun_c none A2 0 cap2 [] ms15 (by simp) (fun _ => rfl) (by simp) (fun k hk A cap a b w hc => above_any (by have := allP_len [] (ms15.take k); simp at this ⊢; omega) A cap a b w hc) w (At.nil _ _ _) hc2
  rw [f15_all, f15_steps] at this
  exact this
theorem undo15a {A : Option Addr} {cap : Nat} (w : World) :
    Calls Try.prog 41 #[.slice A 1 cap, .agg #[.int .i64 0, .int .i64 0, .int .i64 1, .int .i64 1, .string ⟨#[]⟩, .float .f64 0, .bool false, .bool false, .int .i64 0, .int .i64 0, .string ⟨#[]⟩, .float .f64 0]] w fun e w' => e = .returned (.slice A 1 cap) ∧ Below w.heap.size w w' := by
  have hb := (Below.refl w.heap.size w).alloc (Nat.le_refl _) (.cells #[.int .i64 0, .int .i64 0, .int .i64 1, .int .i64 1, .string ⟨#[]⟩, .float .f64 0, .bool false, .bool false, .int .i64 0, .int .i64 0, .string ⟨#[]⟩, .float .f64 0] 51)
  go_enter Try.func41, Try.ntmps41
  go_wp2_with fail
  go_ret
  exact ⟨rfl, hb⟩
theorem f15_undo : undoP [r15b] s15b = [r15a] := by decide
theorem undo15b {A : Option Addr} {cap : Nat} (hA : A = none → cap = 0) (hcap : 1 ≤ cap) {w : World} (hc : At w w.heap.size A (tvs [r15b])) :
    Calls Try.prog 41 #[.slice A 1 cap, .agg #[.int .i64 0, .int .i64 0, .int .i64 5, .int .i64 1, .string ⟨#[98]⟩, .float .f64 0, .bool true, .bool true, .int .i64 1, .int .i64 0, .string ⟨#[97]⟩, .float .f64 0]] w fun e w' => ∃ A cap, e = .returned (.slice A 1 cap) ∧ At w' w'.heap.size A (tvs [r15a]) ∧ (A = none → cap = 0) ∧ 1 ≤ cap ∧ Below w.heap.size w w' := by
  have := mundo_c A cap [r15b] s15b (by decide) hA hcap w hc
  rw [f15_undo] at this
  exact this
theorem f15_do : doP [r15a] (mv0 2 1 []) = [r15a, (2, 1, [], 0)] := by decide
theorem f15_step : stepP [r15a] (mv0 2 1 []) = (mv0 2 1 [], true, false, zr) := by rfl
theorem do15_c {A : Option Addr} {cap : Nat} (hA : A = none → cap = 0) (hcap : 1 ≤ cap) {w : World} (hc : At w w.heap.size A (tvs [r15a])) :
    Calls Try.prog 38 #[.slice A 1 cap, .agg #[.int .i64 0, .int .i64 0, .int .i64 1, .int .i64 2, .string ⟨#[]⟩, .float .f64 0]] w fun e w' => ∃ A cap, e = .returned (.tuple #[.slice A 2 cap, .agg #[.int .i64 0, .int .i64 0, .int .i64 1, .int .i64 2, .string ⟨#[]⟩, .float .f64 0, .bool true, .bool false, .int .i64 0, .int .i64 0, .string ⟨#[]⟩, .float .f64 0]]) ∧ Below w.heap.size w w' := by
  have := mudo_c A cap [r15a] (mv0 2 1 []) (by decide) hA hcap (fun a b W h => above_any (by decide) A cap a b W h) w hc
  rw [f15_do, f15_step] at this
  refine this.mono ?_
  rintro e w1 ⟨A1, c1, rfl, -, -, -, hb, -⟩
  exact ⟨A1, c1, rfl, hb⟩
theorem f15_back : backP [r15b] s15 = [] := by decide
theorem back15_c {A A2 : Option Addr} {cap cap2 : Nat} (hA : A = none → cap = 0) (hcap : 1 ≤ cap) {w : World} (hc : At w w.heap.size A (tvs [r15b])) (hc2 : At w w.heap.size A2 (pvs s15)) :
    Calls Try.prog 46 #[.slice A 1 cap, .slice A2 3 cap2] w fun e w' => ∃ A cap, e = .returned (.slice A 0 cap) ∧ Below w.heap.size w w' := by
  have := muback_c A A2 cap cap2 [r15b] s15 (by decide) hA hcap w hc hc2
  rw [f15_back] at this
  refine this.mono ?_
  rintro e w1 ⟨A1, c1, rfl, -, -, -, hb⟩
  exact ⟨A1, c1, rfl, hb⟩
theorem moves15_c {A2 : Option Addr} {cap2 : Nat} {w : World} (hc2 : At w w.heap.size A2 (pvs s15)) :
    Calls Try.prog 49 #[.slice A2 3 cap2] w fun e w' => ∃ A cap, e = .returned (.slice A 3 cap) ∧ Below w.heap.size w w' := by
  refine (umoves_c A2 cap2 s15 (by decide) w hc2).mono ?_
  rintro e w1 ⟨A1, c1, rfl, -, hb⟩
  exact ⟨A1, c1, rfl, hb⟩
theorem f15_ok : Steps_ s15 := by
  intro s hs
  simp only [List.mem_cons, List.not_mem_nil, or_false] at hs
  unfold maxLen
  rcases hs with rfl | rfl | rfl <;> exact ⟨by decide, by decide, by decide, by decide⟩
theorem same15_c {A A2 : Option Addr} {cap cap2 : Nat} {w : World} (hc : At w w.heap.size A (pvs s15)) (hc2 : At w w.heap.size A2 (pvs s15)) :
    Calls Try.prog 51 #[.slice A 3 cap, .slice A2 3 cap2] w fun e w' => e = .returned (.bool true) ∧ Below w.heap.size w w' := by
  have := musame_c A A2 cap cap2 s15 s15 (by decide) (by decide) f15_ok f15_ok w hc hc2
  rw [sameS_refl] at this
  exact this
theorem same15_d {A A2 : Option Addr} {cap cap2 : Nat} {w : World} (hc : At w w.heap.size A (pvs s15)) (hc2 : At w w.heap.size A2 (pvs (s15.take 2))) :
    Calls Try.prog 51 #[.slice A 3 cap, .slice A2 2 cap2] w fun e w' => e = .returned (.bool false) ∧ Below w.heap.size w w' := by
  have := musame_c A A2 cap cap2 s15 (s15.take 2) (by decide) (by decide) f15_ok (fun s hs => f15_ok s (List.mem_of_mem_take hs)) w hc hc2
  rw [sameS_len (by decide)] at this
  exact this

theorem hold24 {B2 o2 : Nat} {w1 W W' : World} (h : W.cell? ⟨B2, o2 + 2 * 12, none⟩ = some (.int .i64 0) ∧ W.cell? ⟨B2, o2 + 2 * 12 + 1, none⟩ = some (.int .i64 0) ∧ W.cell? ⟨B2, o2 + 2 * 12 + 2, none⟩ = some (.int .i64 1) ∧ W.cell? ⟨B2, o2 + 2 * 12 + 3, none⟩ = some (.int .i64 1) ∧ W.cell? ⟨B2, o2 + 2 * 12 + 4, none⟩ = some (.string ⟨#[]⟩) ∧ W.cell? ⟨B2, o2 + 2 * 12 + 5, none⟩ = some (.float .f64 0) ∧ W.cell? ⟨B2, o2 + 2 * 12 + 6, none⟩ = some (.bool false) ∧ W.cell? ⟨B2, o2 + 2 * 12 + 7, none⟩ = some (.bool false) ∧ W.cell? ⟨B2, o2 + 2 * 12 + 8, none⟩ = some (.int .i64 0) ∧ W.cell? ⟨B2, o2 + 2 * 12 + 9, none⟩ = some (.int .i64 0) ∧ W.cell? ⟨B2, o2 + 2 * 12 + 10, none⟩ = some (.string ⟨#[]⟩) ∧ W.cell? ⟨B2, o2 + 2 * 12 + 11, none⟩ = some (.float .f64 0) ∧ W.cell? ⟨B2, o2 + 1 * 12, none⟩ = some (.int .i64 0) ∧ W.cell? ⟨B2, o2 + 1 * 12 + 1, none⟩ = some (.int .i64 0) ∧ W.cell? ⟨B2, o2 + 1 * 12 + 2, none⟩ = some (.int .i64 5) ∧ W.cell? ⟨B2, o2 + 1 * 12 + 3, none⟩ = some (.int .i64 1) ∧ W.cell? ⟨B2, o2 + 1 * 12 + 4, none⟩ = some (.string ⟨#[98]⟩) ∧ W.cell? ⟨B2, o2 + 1 * 12 + 5, none⟩ = some (.float .f64 0) ∧ W.cell? ⟨B2, o2 + 1 * 12 + 6, none⟩ = some (.bool true) ∧ W.cell? ⟨B2, o2 + 1 * 12 + 7, none⟩ = some (.bool true) ∧ W.cell? ⟨B2, o2 + 1 * 12 + 8, none⟩ = some (.int .i64 1) ∧ W.cell? ⟨B2, o2 + 1 * 12 + 9, none⟩ = some (.int .i64 0) ∧ W.cell? ⟨B2, o2 + 1 * 12 + 10, none⟩ = some (.string ⟨#[97]⟩) ∧ W.cell? ⟨B2, o2 + 1 * 12 + 11, none⟩ = some (.float .f64 0) ∧ Below w1.heap.size w1 W) (hb : Below W.heap.size W W') : W'.cell? ⟨B2, o2 + 2 * 12, none⟩ = some (.int .i64 0) ∧ W'.cell? ⟨B2, o2 + 2 * 12 + 1, none⟩ = some (.int .i64 0) ∧ W'.cell? ⟨B2, o2 + 2 * 12 + 2, none⟩ = some (.int .i64 1) ∧ W'.cell? ⟨B2, o2 + 2 * 12 + 3, none⟩ = some (.int .i64 1) ∧ W'.cell? ⟨B2, o2 + 2 * 12 + 4, none⟩ = some (.string ⟨#[]⟩) ∧ W'.cell? ⟨B2, o2 + 2 * 12 + 5, none⟩ = some (.float .f64 0) ∧ W'.cell? ⟨B2, o2 + 2 * 12 + 6, none⟩ = some (.bool false) ∧ W'.cell? ⟨B2, o2 + 2 * 12 + 7, none⟩ = some (.bool false) ∧ W'.cell? ⟨B2, o2 + 2 * 12 + 8, none⟩ = some (.int .i64 0) ∧ W'.cell? ⟨B2, o2 + 2 * 12 + 9, none⟩ = some (.int .i64 0) ∧ W'.cell? ⟨B2, o2 + 2 * 12 + 10, none⟩ = some (.string ⟨#[]⟩) ∧ W'.cell? ⟨B2, o2 + 2 * 12 + 11, none⟩ = some (.float .f64 0) ∧ W'.cell? ⟨B2, o2 + 1 * 12, none⟩ = some (.int .i64 0) ∧ W'.cell? ⟨B2, o2 + 1 * 12 + 1, none⟩ = some (.int .i64 0) ∧ W'.cell? ⟨B2, o2 + 1 * 12 + 2, none⟩ = some (.int .i64 5) ∧ W'.cell? ⟨B2, o2 + 1 * 12 + 3, none⟩ = some (.int .i64 1) ∧ W'.cell? ⟨B2, o2 + 1 * 12 + 4, none⟩ = some (.string ⟨#[98]⟩) ∧ W'.cell? ⟨B2, o2 + 1 * 12 + 5, none⟩ = some (.float .f64 0) ∧ W'.cell? ⟨B2, o2 + 1 * 12 + 6, none⟩ = some (.bool true) ∧ W'.cell? ⟨B2, o2 + 1 * 12 + 7, none⟩ = some (.bool true) ∧ W'.cell? ⟨B2, o2 + 1 * 12 + 8, none⟩ = some (.int .i64 1) ∧ W'.cell? ⟨B2, o2 + 1 * 12 + 9, none⟩ = some (.int .i64 0) ∧ W'.cell? ⟨B2, o2 + 1 * 12 + 10, none⟩ = some (.string ⟨#[97]⟩) ∧ W'.cell? ⟨B2, o2 + 1 * 12 + 11, none⟩ = some (.float .f64 0) ∧ Below w1.heap.size w1 W' := by
  obtain ⟨p0, p1, p2, p3, p4, p5, p6, p7, p8, p9, p10, p11, q0, q1, q2, q3, q4, q5, q6, q7, q8, q9, q10, q11, hB⟩ := h
  exact ⟨keep_cell hb p0, keep_cell hb p1, keep_cell hb p2, keep_cell hb p3, keep_cell hb p4, keep_cell hb p5, keep_cell hb p6, keep_cell hb p7, keep_cell hb p8, keep_cell hb p9, keep_cell hb p10, keep_cell hb p11, keep_cell hb q0, keep_cell hb q1, keep_cell hb q2, keep_cell hb q3, keep_cell hb q4, keep_cell hb q5, keep_cell hb q6, keep_cell hb q7, keep_cell hb q8, keep_cell hb q9, keep_cell hb q10, keep_cell hb q11, hB.trans (hb.mono hB.size)⟩
theorem hold24d {B2 o2 : Nat} {w1 W : World} (h : W.cell? ⟨B2, o2 + 2 * 12, none⟩ = some (.int .i64 0) ∧ W.cell? ⟨B2, o2 + 2 * 12 + 1, none⟩ = some (.int .i64 0) ∧ W.cell? ⟨B2, o2 + 2 * 12 + 2, none⟩ = some (.int .i64 1) ∧ W.cell? ⟨B2, o2 + 2 * 12 + 3, none⟩ = some (.int .i64 1) ∧ W.cell? ⟨B2, o2 + 2 * 12 + 4, none⟩ = some (.string ⟨#[]⟩) ∧ W.cell? ⟨B2, o2 + 2 * 12 + 5, none⟩ = some (.float .f64 0) ∧ W.cell? ⟨B2, o2 + 2 * 12 + 6, none⟩ = some (.bool false) ∧ W.cell? ⟨B2, o2 + 2 * 12 + 7, none⟩ = some (.bool false) ∧ W.cell? ⟨B2, o2 + 2 * 12 + 8, none⟩ = some (.int .i64 0) ∧ W.cell? ⟨B2, o2 + 2 * 12 + 9, none⟩ = some (.int .i64 0) ∧ W.cell? ⟨B2, o2 + 2 * 12 + 10, none⟩ = some (.string ⟨#[]⟩) ∧ W.cell? ⟨B2, o2 + 2 * 12 + 11, none⟩ = some (.float .f64 0) ∧ W.cell? ⟨B2, o2 + 1 * 12, none⟩ = some (.int .i64 0) ∧ W.cell? ⟨B2, o2 + 1 * 12 + 1, none⟩ = some (.int .i64 0) ∧ W.cell? ⟨B2, o2 + 1 * 12 + 2, none⟩ = some (.int .i64 5) ∧ W.cell? ⟨B2, o2 + 1 * 12 + 3, none⟩ = some (.int .i64 1) ∧ W.cell? ⟨B2, o2 + 1 * 12 + 4, none⟩ = some (.string ⟨#[98]⟩) ∧ W.cell? ⟨B2, o2 + 1 * 12 + 5, none⟩ = some (.float .f64 0) ∧ W.cell? ⟨B2, o2 + 1 * 12 + 6, none⟩ = some (.bool true) ∧ W.cell? ⟨B2, o2 + 1 * 12 + 7, none⟩ = some (.bool true) ∧ W.cell? ⟨B2, o2 + 1 * 12 + 8, none⟩ = some (.int .i64 1) ∧ W.cell? ⟨B2, o2 + 1 * 12 + 9, none⟩ = some (.int .i64 0) ∧ W.cell? ⟨B2, o2 + 1 * 12 + 10, none⟩ = some (.string ⟨#[97]⟩) ∧ W.cell? ⟨B2, o2 + 1 * 12 + 11, none⟩ = some (.float .f64 0) ∧ Below w1.heap.size w1 W) : W.drew.cell? ⟨B2, o2 + 2 * 12, none⟩ = some (.int .i64 0) ∧ W.drew.cell? ⟨B2, o2 + 2 * 12 + 1, none⟩ = some (.int .i64 0) ∧ W.drew.cell? ⟨B2, o2 + 2 * 12 + 2, none⟩ = some (.int .i64 1) ∧ W.drew.cell? ⟨B2, o2 + 2 * 12 + 3, none⟩ = some (.int .i64 1) ∧ W.drew.cell? ⟨B2, o2 + 2 * 12 + 4, none⟩ = some (.string ⟨#[]⟩) ∧ W.drew.cell? ⟨B2, o2 + 2 * 12 + 5, none⟩ = some (.float .f64 0) ∧ W.drew.cell? ⟨B2, o2 + 2 * 12 + 6, none⟩ = some (.bool false) ∧ W.drew.cell? ⟨B2, o2 + 2 * 12 + 7, none⟩ = some (.bool false) ∧ W.drew.cell? ⟨B2, o2 + 2 * 12 + 8, none⟩ = some (.int .i64 0) ∧ W.drew.cell? ⟨B2, o2 + 2 * 12 + 9, none⟩ = some (.int .i64 0) ∧ W.drew.cell? ⟨B2, o2 + 2 * 12 + 10, none⟩ = some (.string ⟨#[]⟩) ∧ W.drew.cell? ⟨B2, o2 + 2 * 12 + 11, none⟩ = some (.float .f64 0) ∧ W.drew.cell? ⟨B2, o2 + 1 * 12, none⟩ = some (.int .i64 0) ∧ W.drew.cell? ⟨B2, o2 + 1 * 12 + 1, none⟩ = some (.int .i64 0) ∧ W.drew.cell? ⟨B2, o2 + 1 * 12 + 2, none⟩ = some (.int .i64 5) ∧ W.drew.cell? ⟨B2, o2 + 1 * 12 + 3, none⟩ = some (.int .i64 1) ∧ W.drew.cell? ⟨B2, o2 + 1 * 12 + 4, none⟩ = some (.string ⟨#[98]⟩) ∧ W.drew.cell? ⟨B2, o2 + 1 * 12 + 5, none⟩ = some (.float .f64 0) ∧ W.drew.cell? ⟨B2, o2 + 1 * 12 + 6, none⟩ = some (.bool true) ∧ W.drew.cell? ⟨B2, o2 + 1 * 12 + 7, none⟩ = some (.bool true) ∧ W.drew.cell? ⟨B2, o2 + 1 * 12 + 8, none⟩ = some (.int .i64 1) ∧ W.drew.cell? ⟨B2, o2 + 1 * 12 + 9, none⟩ = some (.int .i64 0) ∧ W.drew.cell? ⟨B2, o2 + 1 * 12 + 10, none⟩ = some (.string ⟨#[97]⟩) ∧ W.drew.cell? ⟨B2, o2 + 1 * 12 + 11, none⟩ = some (.float .f64 0) ∧ Below w1.heap.size w1 W.drew := by
  obtain ⟨p0, p1, p2, p3, p4, p5, p6, p7, p8, p9, p10, p11, q0, q1, q2, q3, q4, q5, q6, q7, q8, q9, q10, q11, hB⟩ := h
  exact ⟨p0, p1, p2, p3, p4, p5, p6, p7, p8, p9, p10, p11, q0, q1, q2, q3, q4, q5, q6, q7, q8, q9, q10, q11, hB.drew⟩
theorem hold24b {B2 o2 : Nat} {w1 W : World} (h : W.cell? ⟨B2, o2 + 2 * 12, none⟩ = some (.int .i64 0) ∧ W.cell? ⟨B2, o2 + 2 * 12 + 1, none⟩ = some (.int .i64 0) ∧ W.cell? ⟨B2, o2 + 2 * 12 + 2, none⟩ = some (.int .i64 1) ∧ W.cell? ⟨B2, o2 + 2 * 12 + 3, none⟩ = some (.int .i64 1) ∧ W.cell? ⟨B2, o2 + 2 * 12 + 4, none⟩ = some (.string ⟨#[]⟩) ∧ W.cell? ⟨B2, o2 + 2 * 12 + 5, none⟩ = some (.float .f64 0) ∧ W.cell? ⟨B2, o2 + 2 * 12 + 6, none⟩ = some (.bool false) ∧ W.cell? ⟨B2, o2 + 2 * 12 + 7, none⟩ = some (.bool false) ∧ W.cell? ⟨B2, o2 + 2 * 12 + 8, none⟩ = some (.int .i64 0) ∧ W.cell? ⟨B2, o2 + 2 * 12 + 9, none⟩ = some (.int .i64 0) ∧ W.cell? ⟨B2, o2 + 2 * 12 + 10, none⟩ = some (.string ⟨#[]⟩) ∧ W.cell? ⟨B2, o2 + 2 * 12 + 11, none⟩ = some (.float .f64 0) ∧ W.cell? ⟨B2, o2 + 1 * 12, none⟩ = some (.int .i64 0) ∧ W.cell? ⟨B2, o2 + 1 * 12 + 1, none⟩ = some (.int .i64 0) ∧ W.cell? ⟨B2, o2 + 1 * 12 + 2, none⟩ = some (.int .i64 5) ∧ W.cell? ⟨B2, o2 + 1 * 12 + 3, none⟩ = some (.int .i64 1) ∧ W.cell? ⟨B2, o2 + 1 * 12 + 4, none⟩ = some (.string ⟨#[98]⟩) ∧ W.cell? ⟨B2, o2 + 1 * 12 + 5, none⟩ = some (.float .f64 0) ∧ W.cell? ⟨B2, o2 + 1 * 12 + 6, none⟩ = some (.bool true) ∧ W.cell? ⟨B2, o2 + 1 * 12 + 7, none⟩ = some (.bool true) ∧ W.cell? ⟨B2, o2 + 1 * 12 + 8, none⟩ = some (.int .i64 1) ∧ W.cell? ⟨B2, o2 + 1 * 12 + 9, none⟩ = some (.int .i64 0) ∧ W.cell? ⟨B2, o2 + 1 * 12 + 10, none⟩ = some (.string ⟨#[97]⟩) ∧ W.cell? ⟨B2, o2 + 1 * 12 + 11, none⟩ = some (.float .f64 0) ∧ Below w1.heap.size w1 W) : Below w1.heap.size w1 W := h.2.2.2.2.2.2.2.2.2.2.2.2.2.2.2.2.2.2.2.2.2.2.2.2
theorem hold24s {B2 o2 : Nat} {w1 : World} (p0 : w1.cell? ⟨B2, o2 + 2 * 12, none⟩ = some (.int .i64 0))
  (p1 : w1.cell? ⟨B2, o2 + 2 * 12 + 1, none⟩ = some (.int .i64 0))
  (p2 : w1.cell? ⟨B2, o2 + 2 * 12 + 2, none⟩ = some (.int .i64 1))
  (p3 : w1.cell? ⟨B2, o2 + 2 * 12 + 3, none⟩ = some (.int .i64 1))
  (p4 : w1.cell? ⟨B2, o2 + 2 * 12 + 4, none⟩ = some (.string ⟨#[]⟩))
  (p5 : w1.cell? ⟨B2, o2 + 2 * 12 + 5, none⟩ = some (.float .f64 0))
  (p6 : w1.cell? ⟨B2, o2 + 2 * 12 + 6, none⟩ = some (.bool false))
  (p7 : w1.cell? ⟨B2, o2 + 2 * 12 + 7, none⟩ = some (.bool false))
  (p8 : w1.cell? ⟨B2, o2 + 2 * 12 + 8, none⟩ = some (.int .i64 0))
  (p9 : w1.cell? ⟨B2, o2 + 2 * 12 + 9, none⟩ = some (.int .i64 0))
  (p10 : w1.cell? ⟨B2, o2 + 2 * 12 + 10, none⟩ = some (.string ⟨#[]⟩))
  (p11 : w1.cell? ⟨B2, o2 + 2 * 12 + 11, none⟩ = some (.float .f64 0))
  (q0 : w1.cell? ⟨B2, o2 + 1 * 12, none⟩ = some (.int .i64 0))
  (q1 : w1.cell? ⟨B2, o2 + 1 * 12 + 1, none⟩ = some (.int .i64 0))
  (q2 : w1.cell? ⟨B2, o2 + 1 * 12 + 2, none⟩ = some (.int .i64 5))
  (q3 : w1.cell? ⟨B2, o2 + 1 * 12 + 3, none⟩ = some (.int .i64 1))
  (q4 : w1.cell? ⟨B2, o2 + 1 * 12 + 4, none⟩ = some (.string ⟨#[98]⟩))
  (q5 : w1.cell? ⟨B2, o2 + 1 * 12 + 5, none⟩ = some (.float .f64 0))
  (q6 : w1.cell? ⟨B2, o2 + 1 * 12 + 6, none⟩ = some (.bool true))
  (q7 : w1.cell? ⟨B2, o2 + 1 * 12 + 7, none⟩ = some (.bool true))
  (q8 : w1.cell? ⟨B2, o2 + 1 * 12 + 8, none⟩ = some (.int .i64 1))
  (q9 : w1.cell? ⟨B2, o2 + 1 * 12 + 9, none⟩ = some (.int .i64 0))
  (q10 : w1.cell? ⟨B2, o2 + 1 * 12 + 10, none⟩ = some (.string ⟨#[97]⟩))
  (q11 : w1.cell? ⟨B2, o2 + 1 * 12 + 11, none⟩ = some (.float .f64 0)) : w1.drew.cell? ⟨B2, o2 + 2 * 12, none⟩ = some (.int .i64 0) ∧ w1.drew.cell? ⟨B2, o2 + 2 * 12 + 1, none⟩ = some (.int .i64 0) ∧ w1.drew.cell? ⟨B2, o2 + 2 * 12 + 2, none⟩ = some (.int .i64 1) ∧ w1.drew.cell? ⟨B2, o2 + 2 * 12 + 3, none⟩ = some (.int .i64 1) ∧ w1.drew.cell? ⟨B2, o2 + 2 * 12 + 4, none⟩ = some (.string ⟨#[]⟩) ∧ w1.drew.cell? ⟨B2, o2 + 2 * 12 + 5, none⟩ = some (.float .f64 0) ∧ w1.drew.cell? ⟨B2, o2 + 2 * 12 + 6, none⟩ = some (.bool false) ∧ w1.drew.cell? ⟨B2, o2 + 2 * 12 + 7, none⟩ = some (.bool false) ∧ w1.drew.cell? ⟨B2, o2 + 2 * 12 + 8, none⟩ = some (.int .i64 0) ∧ w1.drew.cell? ⟨B2, o2 + 2 * 12 + 9, none⟩ = some (.int .i64 0) ∧ w1.drew.cell? ⟨B2, o2 + 2 * 12 + 10, none⟩ = some (.string ⟨#[]⟩) ∧ w1.drew.cell? ⟨B2, o2 + 2 * 12 + 11, none⟩ = some (.float .f64 0) ∧ w1.drew.cell? ⟨B2, o2 + 1 * 12, none⟩ = some (.int .i64 0) ∧ w1.drew.cell? ⟨B2, o2 + 1 * 12 + 1, none⟩ = some (.int .i64 0) ∧ w1.drew.cell? ⟨B2, o2 + 1 * 12 + 2, none⟩ = some (.int .i64 5) ∧ w1.drew.cell? ⟨B2, o2 + 1 * 12 + 3, none⟩ = some (.int .i64 1) ∧ w1.drew.cell? ⟨B2, o2 + 1 * 12 + 4, none⟩ = some (.string ⟨#[98]⟩) ∧ w1.drew.cell? ⟨B2, o2 + 1 * 12 + 5, none⟩ = some (.float .f64 0) ∧ w1.drew.cell? ⟨B2, o2 + 1 * 12 + 6, none⟩ = some (.bool true) ∧ w1.drew.cell? ⟨B2, o2 + 1 * 12 + 7, none⟩ = some (.bool true) ∧ w1.drew.cell? ⟨B2, o2 + 1 * 12 + 8, none⟩ = some (.int .i64 1) ∧ w1.drew.cell? ⟨B2, o2 + 1 * 12 + 9, none⟩ = some (.int .i64 0) ∧ w1.drew.cell? ⟨B2, o2 + 1 * 12 + 10, none⟩ = some (.string ⟨#[97]⟩) ∧ w1.drew.cell? ⟨B2, o2 + 1 * 12 + 11, none⟩ = some (.float .f64 0) ∧ Below w1.heap.size w1 w1.drew := ⟨p0, p1, p2, p3, p4, p5, p6, p7, p8, p9, p10, p11, q0, q1, q2, q3, q4, q5, q6, q7, q8, q9, q10, q11, (Below.refl _ _).drew⟩

set_option maxHeartbeats 16000000 in
theorem live15_c (w : World) :
    Calls Try.prog 37 #[] w fun e w' => e = .returned (.bool true) ∧ Below w.heap.size w w' := by
  go_enter Try.func37, Try.ntmps37
  go_wp2_with fail
  refine (run15_c (at_lits w 27 (mvs ms15))).mono ?_
  rintro e w1 ⟨A1, c1, A2, c2, rfl, h1, n1, k1, h2, n2, k2, b1⟩
  obtain ⟨B1, o1, rfl, -⟩ := row_cells (k := 0) h1 rfl
  obtain ⟨B2, o2, rfl, -⟩ := step_cells (k := 0) h2 rfl
  have hb1 : Below w.heap.size w w1 := ((Below.refl _ w).alloc (Nat.le_refl _) _).trans (b1.mono (by simp))
  obtain ⟨x1, y1, e1, -, p0z, p1z, p2z, p3z, p4z, p5z, p6z, p7z, p8z, p9z, p10z, p11z⟩ := step_cells (k := 2) h2 rfl
  cases e1
  obtain ⟨x1, y1, e1, -, q0z, q1z, q2z, q3z, q4z, q5z, q6z, q7z, q8z, q9z, q10z, q11z⟩ := step_cells (k := 1) h2 rfl
  cases e1
  have p0 : w1.cell? ⟨B2, o2 + 2 * 12, none⟩ = some (.int .i64 0) := p0z
  have p1 : w1.cell? ⟨B2, o2 + 2 * 12 + 1, none⟩ = some (.int .i64 0) := p1z
  have p2 : w1.cell? ⟨B2, o2 + 2 * 12 + 2, none⟩ = some (.int .i64 1) := p2z
  have p3 : w1.cell? ⟨B2, o2 + 2 * 12 + 3, none⟩ = some (.int .i64 1) := p3z
  have p4 : w1.cell? ⟨B2, o2 + 2 * 12 + 4, none⟩ = some (.string ⟨#[]⟩) := p4z
  have p5 : w1.cell? ⟨B2, o2 + 2 * 12 + 5, none⟩ = some (.float .f64 0) := p5z
  have p6 : w1.cell? ⟨B2, o2 + 2 * 12 + 6, none⟩ = some (.bool false) := p6z
  have p7 : w1.cell? ⟨B2, o2 + 2 * 12 + 7, none⟩ = some (.bool false) := p7z
  have p8 : w1.cell? ⟨B2, o2 + 2 * 12 + 8, none⟩ = some (.int .i64 0) := p8z
  have p9 : w1.cell? ⟨B2, o2 + 2 * 12 + 9, none⟩ = some (.int .i64 0) := p9z
  have p10 : w1.cell? ⟨B2, o2 + 2 * 12 + 10, none⟩ = some (.string ⟨#[]⟩) := p10z
  have p11 : w1.cell? ⟨B2, o2 + 2 * 12 + 11, none⟩ = some (.float .f64 0) := p11z
  have q0 : w1.cell? ⟨B2, o2 + 1 * 12, none⟩ = some (.int .i64 0) := q0z
  have q1 : w1.cell? ⟨B2, o2 + 1 * 12 + 1, none⟩ = some (.int .i64 0) := q1z
  have q2 : w1.cell? ⟨B2, o2 + 1 * 12 + 2, none⟩ = some (.int .i64 5) := q2z
  have q3 : w1.cell? ⟨B2, o2 + 1 * 12 + 3, none⟩ = some (.int .i64 1) := q3z
  have q4 : w1.cell? ⟨B2, o2 + 1 * 12 + 4, none⟩ = some (.string ⟨#[98]⟩) := q4z
  have q5 : w1.cell? ⟨B2, o2 + 1 * 12 + 5, none⟩ = some (.float .f64 0) := q5z
  have q6 : w1.cell? ⟨B2, o2 + 1 * 12 + 6, none⟩ = some (.bool true) := q6z
  have q7 : w1.cell? ⟨B2, o2 + 1 * 12 + 7, none⟩ = some (.bool true) := q7z
  have q8 : w1.cell? ⟨B2, o2 + 1 * 12 + 8, none⟩ = some (.int .i64 1) := q8z
  have q9 : w1.cell? ⟨B2, o2 + 1 * 12 + 9, none⟩ = some (.int .i64 0) := q9z
  have q10 : w1.cell? ⟨B2, o2 + 1 * 12 + 10, none⟩ = some (.string ⟨#[97]⟩) := q10z
  have q11 : w1.cell? ⟨B2, o2 + 1 * 12 + 11, none⟩ = some (.float .f64 0) := q11z
  have H1 := Lib.hid h1
  have H2 := Lib.hid h2
  have HN1 := Lib.hid n1
  have HB1 := Lib.hid hb1
  clear h1 h2 n1 n2 b1 hb1 p0z p1z p2z p3z p4z p5z p6z p7z p8z p9z p10z p11z q0z q1z q2z q3z q4z q5z q6z q7z q8z q9z q10z q11z
  go_wp2_with fail
  go_region_held3 (fun w' => w'.cell? ⟨B2, o2 + 2 * 12, none⟩ = some (.int .i64 0) ∧ w'.cell? ⟨B2, o2 + 2 * 12 + 1, none⟩ = some (.int .i64 0) ∧ w'.cell? ⟨B2, o2 + 2 * 12 + 2, none⟩ = some (.int .i64 1) ∧ w'.cell? ⟨B2, o2 + 2 * 12 + 3, none⟩ = some (.int .i64 1) ∧ w'.cell? ⟨B2, o2 + 2 * 12 + 4, none⟩ = some (.string ⟨#[]⟩) ∧ w'.cell? ⟨B2, o2 + 2 * 12 + 5, none⟩ = some (.float .f64 0) ∧ w'.cell? ⟨B2, o2 + 2 * 12 + 6, none⟩ = some (.bool false) ∧ w'.cell? ⟨B2, o2 + 2 * 12 + 7, none⟩ = some (.bool false) ∧ w'.cell? ⟨B2, o2 + 2 * 12 + 8, none⟩ = some (.int .i64 0) ∧ w'.cell? ⟨B2, o2 + 2 * 12 + 9, none⟩ = some (.int .i64 0) ∧ w'.cell? ⟨B2, o2 + 2 * 12 + 10, none⟩ = some (.string ⟨#[]⟩) ∧ w'.cell? ⟨B2, o2 + 2 * 12 + 11, none⟩ = some (.float .f64 0) ∧ w'.cell? ⟨B2, o2 + 1 * 12, none⟩ = some (.int .i64 0) ∧ w'.cell? ⟨B2, o2 + 1 * 12 + 1, none⟩ = some (.int .i64 0) ∧ w'.cell? ⟨B2, o2 + 1 * 12 + 2, none⟩ = some (.int .i64 5) ∧ w'.cell? ⟨B2, o2 + 1 * 12 + 3, none⟩ = some (.int .i64 1) ∧ w'.cell? ⟨B2, o2 + 1 * 12 + 4, none⟩ = some (.string ⟨#[98]⟩) ∧ w'.cell? ⟨B2, o2 + 1 * 12 + 5, none⟩ = some (.float .f64 0) ∧ w'.cell? ⟨B2, o2 + 1 * 12 + 6, none⟩ = some (.bool true) ∧ w'.cell? ⟨B2, o2 + 1 * 12 + 7, none⟩ = some (.bool true) ∧ w'.cell? ⟨B2, o2 + 1 * 12 + 8, none⟩ = some (.int .i64 1) ∧ w'.cell? ⟨B2, o2 + 1 * 12 + 9, none⟩ = some (.int .i64 0) ∧ w'.cell? ⟨B2, o2 + 1 * 12 + 10, none⟩ = some (.string ⟨#[97]⟩) ∧ w'.cell? ⟨B2, o2 + 1 * 12 + 11, none⟩ = some (.float .f64 0) ∧ Below w1.heap.size w1 w')
    (first
      | (exact hold24 (by assumption) hbn)
      | (exact hold24d (by assumption))
      | (exact hold24s p0 p1 p2 p3 p4 p5 p6 p7 p8 p9 p10 p11 q0 q1 q2 q3 q4 q5 q6 q7 q8 q9 q10 q11)
      | go_keep)
    (first
      | (go_at_call 41; (with_reducible refine (undo15a _).mono ?_); rintro e w2 ⟨rfl, hbn⟩)
      | (go_at_call 41; refine (undo15b (fun h => by cases h) k1 (H1.out.keep (hold24b (by assumption)))).mono ?_; rintro e w3 ⟨A3, c3, rfl, h3, n3, k3, hbn⟩))
  have hb3 : Below w1.heap.size w1 w3 := hold24b (by assumption)
  have HB3 := Lib.hid (HB1.out.trans (hb3.mono HB1.out.size))
  have HL3 := Lib.hid (H1.out.keep hb3)
  have HS3 := Lib.hid (H2.out.keep hb3)
  obtain ⟨B3, o3, rfl, -⟩ := row_cells (k := 0) h3 rfl
  have HM3 := Lib.hid h3
  have K3 := Lib.hid k3
  have K1 := Lib.hid k1
  clear h3 n3 hbn hb3
  clear p0 p1 p2 p3 p4 p5 p6 p7 p8 p9 p10 p11 q0 q1 q2 q3 q4 q5 q6 q7 q8 q9 q10 q11
  go_wp2_with fail
  refine (do15_c (fun h => by cases h) K3.out HM3.out).mono ?_
  rintro e w4 ⟨A4, c4, rfl, hb4⟩
  have HB4 := Lib.hid (HB3.out.trans (hb4.mono HB3.out.size))
  have HL4 := Lib.hid (HL3.out.keep hb4)
  have HS4 := Lib.hid (HS3.out.keep hb4)
  have HM4 := Lib.hid (HM3.out.keep hb4)
  clear hb4
  obtain ⟨w5, hw5⟩ : ∃ w5, w5 = w4.alloc (.cells #[.int .i64 0, .int .i64 0, .int .i64 1, .int .i64 2, .string ⟨#[]⟩, .float .f64 0, .bool true, .bool false, .int .i64 0, .int .i64 0, .string ⟨#[]⟩, .float .f64 0] 51) := ⟨_, rfl⟩
  have hb5 : Below w4.heap.size w4 w5 := by rw [hw5]; exact (Below.refl _ _).alloc (Nat.le_refl _) _
  have HI5 := Lib.hid (show Is w5 w4.heap.size 51 [.int .i64 0, .int .i64 0, .int .i64 1, .int .i64 2, .string ⟨#[]⟩, .float .f64 0, .bool true, .bool false, .int .i64 0, .int .i64 0, .string ⟨#[]⟩, .float .f64 0] by rw [hw5]; exact is_new w4 51 [.int .i64 0, .int .i64 0, .int .i64 1, .int .i64 2, .string ⟨#[]⟩, .float .f64 0, .bool true, .bool false, .int .i64 0, .int .i64 0, .string ⟨#[]⟩, .float .f64 0])
  have HB5 := Lib.hid (HB4.out.trans (hb5.mono HB4.out.size))
  have HL5 := Lib.hid (HL4.out.keep hb5)
  have HS5 := Lib.hid (HS4.out.keep hb5)
  have HM5 := Lib.hid (HM4.out.keep hb5)
  have HW5 := Lib.hid hw5
  obtain ⟨x1, y1, e1, -, -, -, l2, -⟩ := row_cells (k := 0) HL5.out rfl
  cases e1
  obtain ⟨x1, y1, e1, -, -, -, m2, -⟩ := row_cells (k := 0) HM5.out rfl
  cases e1
  obtain ⟨x1, y1, e1, -, -, -, -, -, -, -, a6, a7, -⟩ := step_cells (k := 0) HS5.out rfl
  cases e1
  obtain ⟨x1, y1, e1, -, -, -, -, -, -, -, b6, b7, -, -, b10, -⟩ := step_cells (k := 1) HS5.out rfl
  cases e1
  obtain ⟨x1, y1, e1, -, -, -, -, -, -, -, c6, c7, -⟩ := step_cells (k := 2) HS5.out rfl
  cases e1
  have t1 : w5.cell? ⟨B1, o1 + 2, none⟩ = some (.string ⟨#[98]⟩) := by rw [← show o1 + 0 * 4 + 2 = o1 + 2 by omega]; exact  l2
  have t2 : w5.cell? ⟨B3, o3 + 2, none⟩ = some (.string ⟨#[97]⟩) := by rw [← show o3 + 0 * 4 + 2 = o3 + 2 by omega]; exact  m2
  have t3 : w5.cell? ⟨B2, o2 + 6, none⟩ = some (.bool true) := by rw [← show o2 + 0 * 12 + 6 = o2 + 6 by omega]; exact  a6
  have t4 : w5.cell? ⟨B2, o2 + 7, none⟩ = some (.bool false) := by rw [← show o2 + 0 * 12 + 7 = o2 + 7 by omega]; exact  a7
  have t5 : w5.cell? ⟨B2, o2 + 1 * 12 + 6, none⟩ = some (.bool true) :=  b6
  have t6 : w5.cell? ⟨B2, o2 + 1 * 12 + 7, none⟩ = some (.bool true) :=  b7
  have t7 : w5.cell? ⟨B2, o2 + 1 * 12 + 10, none⟩ = some (.string ⟨#[97]⟩) :=  b10
  have t8 : w5.cell? ⟨B2, o2 + 2 * 12 + 6, none⟩ = some (.bool false) :=  c6
  have t9 : w5.cell? ⟨B2, o2 + 2 * 12 + 7, none⟩ = some (.bool false) :=  c7
  clear l2 m2 a6 a7 b6 b7 b10 c6 c7
  rw [hw5] at t1 t2 t3 t4 t5 t6 t7 t8 t9
  clear hw5 hb5
  go_wp2_with fail
  rw [← HW5.out]
  clear t1 t2 t3 t4 t5 t6 t7 t8 t9
  refine (back15_c (fun h => by cases h) K1.out HL5.out HS5.out).mono ?_
  rintro e w6 ⟨A6, c6, rfl, hb6⟩
  have HB6 := Lib.hid (HB5.out.trans (hb6.mono HB5.out.size))
  have HS6 := Lib.hid (HS5.out.keep hb6)
  have d6 := is_cell (is_below HI5.out hb6 (is_lt HI5.out)) 6
  have d7 := is_cell (is_below HI5.out hb6 (is_lt HI5.out)) 7
  simp only [List.getElem?_cons_zero, List.getElem?_cons_succ] at d6 d7
  clear hb6
  go_wp2_with fail
  refine (moves15_c HS6.out).mono ?_
  rintro e w7 ⟨A7, c7, rfl, hb7⟩
  have HB7 := Lib.hid (HB6.out.trans (hb7.mono HB6.out.size))
  have HS7 := Lib.hid (HS6.out.keep hb7)
  clear hb7 d6 d7
  go_wp2_with fail
  refine (same15_c HS7.out HS7.out).mono ?_
  rintro e w8 ⟨rfl, hb8⟩
  have HB8 := Lib.hid (HB7.out.trans (hb8.mono HB7.out.size))
  have HS8 := Lib.hid (HS7.out.keep hb8)
  clear hb8
  have hz2 : (2 : Int) ≤ (c2 : Int) := by omega
  go_wp2_with fail
  refine (same15_d HS8.out (by rw [pvs_take]; exact HS8.out.take _)).mono ?_
  rintro e w9 ⟨rfl, hb9⟩
  have HB9 := Lib.hid (HB8.out.trans (hb9.mono HB8.out.size))
  clear hb9
  go_wp2_with fail
  go_ret
  exact ⟨rfl, HB9.out⟩
end Go.Proofs.Ytnkckoilhhbllaa
