/-
 Kids that change places: sort's swapRange_func and rotate_func.
 Kids that are put in order by insertion: sort's insertionSort_func.
-/
import Derived.Test.YtkobmnbjeppnaaaGreatXn
import Derived.WalkKit
section
namespace Go.Proofs.YtkobmnbjeppnaaaGreat
open Go.RowKit Go.IntWalk
namespace Kk
open Fl
set_option maxRecDepth 100000
attribute [local go_sem] Oper.semAt_some
theorem KIn.glt {w : World} {B g n cap kb : Nat} {L : List Rw} {W : World} (h : KIn w B g n cap kb L W) : g < W.heap.size := by
 rcases h.lies.2 with ⟨hz, _⟩ | ⟨g2, c2, cur, hv2, hb, hg, hn, hm, hs, ht⟩
 ·cases hz
 ·cases hv2
  exact (Array.getElem?_eq_some_iff.1 hg).1
set_option maxHeartbeats 4000000 in
theorem swapRange_c (B g n cap kb a b k : Nat) (P X M Y S : List Rw) (hP : P.length = a) (hX : X.length = k) (hY : Y.length = k) (hb : a + k + M.length = b) (hn : n ≤ 100000) (w : World) (h : KIn w B g n cap kb (P ++ X ++ M ++ Y ++ S) w) :
  Calls Tryz.prog 136 #[.agg #[.func (.func 53) #[] #[.pointer (some ⟨kb, 0, none⟩)], .func (.func 103) #[] #[.slice (some ⟨g, 0, none⟩) n cap, typeHandle Tryz.prog 28]], .int .i64 (a : Int), .int .i64 (b : Int), .int .i64 (k : Int)] w fun e w' =>
   e = .returned (.tuple #[]) ∧ KIn w B g n cap kb (P ++ Y ++ M ++ X ++ S) w' := by
 have hlen := h.lies.len
 simp only [List.length_append] at hlen
 obtain ⟨W0, hW0⟩ : ∃ W0, W0 = w.alloc (.cells #[.func (.func 53) #[] #[.pointer (some ⟨kb, 0, none⟩)], .func (.func 103) #[] #[.slice (some ⟨g, 0, none⟩) n cap, typeHandle Tryz.prog 28]] 93) := ⟨_, rfl⟩
 have K0 := h.alloc (.cells #[.func (.func 53) #[] #[.pointer (some ⟨kb, 0, none⟩)], .func (.func 103) #[] #[.slice (some ⟨g, 0, none⟩) n cap, typeHandle Tryz.prog 28]] 93)
 rw [← hW0] at K0
 have hG0 : w.grownBy W0 (some g) := by rw [hW0]; exact grown_alloc _ _ _
 have hbox : ∀ M W, KIn W0 B g n cap kb M W → W.cell? ⟨w.heap.size, 0, none⟩ = some (.func (.func 53) #[] #[.pointer (some ⟨kb, 0, none⟩)]) ∧ W.cell? ⟨w.heap.size, 1, none⟩ = some (.func (.func 103) #[] #[.slice (some ⟨g, 0, none⟩) n cap, typeHandle Tryz.prog 28]) := fun M W hK => by
  have hz : w.heap.size < W0.heap.size := by rw [hW0]; simp
  have hne : w.heap.size ≠ g := by have := h.glt; omega
  rw [hK.cell hz hne, hK.cell hz hne, hW0]
  exact ⟨by simp, by simp⟩
 have H0 := Lib.hid K0
 have HG0 := Lib.hid hG0
 have HBOX := Lib.hid hbox
 have HW0 := Lib.hid hW0
 clear K0 hG0 hbox hW0
 have HP := Lib.hid hP
 have HX := Lib.hid hX
 have HY := Lib.hid hY
 have HB := Lib.hid hb
 have hbn : b + k ≤ n := by omega
 have hab : a + k ≤ b := by omega
 clear h hP hX hY hb hlen
 go_enter Tryz.func136, Tryz.ntmps136
 go_wp2_with fail
 rw [← HW0.out]
 go_loopw [8] (fun i wr => ∃ j : Nat, i = .int .i64 (j : Int) ∧ j ≤ k ∧ KIn W0 B g n cap kb (swS P X M Y S j) wr) (fun i _ => k - (Go.RowKit.intOf i).toNat)
 case atStart => exact ⟨0, rfl, Nat.zero_le _, by rw [swS_zero]; exact H0.out⟩
 case round =>
  clear H0
  obtain ⟨j, rfl, hj, hl⟩ := hrel
  have HL := Lib.hid hl
  clear hl
  by_cases hlt : j < k
  ·obtain ⟨x, hx⟩ := some_at (show j < X.length by rw [HX.out]; exact hlt)
   obtain ⟨y, hy⟩ := some_at (show j < Y.length by rw [HY.out]; exact hlt)
   obtain ⟨e1, e2, e3⟩ := swS_step (P := P) (X := X) (M := M) (Y := Y) (S := S) (b := b) HP.out (by rw [HX.out]; exact HB.out) hx hy
   obtain ⟨-, hc1⟩ := HBOX.out _ _ HL.out
   obtain ⟨p, hp⟩ : ∃ p, p = a + j := ⟨_, rfl⟩
   obtain ⟨q, hq⟩ : ∃ q, q = b + j := ⟨_, rfl⟩
   have hwp : IntKind.i64.wrap ((a : Int) + (j : Int)) = (p : Int) := by rw [show (a : Int) + (j : Int) = (p : Int) by omega]; exact IntWalk.i64_in _ (by omega)
   have hwq : IntKind.i64.wrap ((b : Int) + (j : Int)) = (q : Int) := by rw [show (b : Int) + (j : Int) = (q : Int) by omega]; exact IntWalk.i64_in _ (by omega)
   have hK2 := HL.out.swap e1 e2
   rw [e3] at hK2
   rw [← hp] at e1 hK2
   rw [← hq] at e2 hK2
   have hsw := kswap HL.out e1 e2
   have HK2 := Lib.hid hK2
   clear hp hq
   have hlti : (j : Int) < (k : Int) := by omega
   clear hK2 e1 e2 e3 hx hy
   go_wp2_with fail
   go_roundw
   case rel => exact ⟨j + 1, by go_num, by omega, HK2.out⟩
   case measure => simp only [Go.RowKit.intOf]; omega
  ·obtain rfl : j = k := by omega
   go_wp2_with fail
   go_end0
   refine ⟨rfl, KIn.since ?_ HG0.out⟩
   have := HL.out
   rw [show j = X.length from HX.out.symm, swS_all P X M Y S (by rw [HX.out, HY.out])] at this
   exact this
set_option maxHeartbeats 4000000 in
theorem rotate_c (B g n cap kb a m b : Nat) (P X Y S : List Rw) (hP : P.length = a) (hX : a + X.length = m) (hY : m + Y.length = b) (h1 : 0 < X.length) (h2 : 0 < Y.length) (hn : n ≤ 100000) (w : World) (h : KIn w B g n cap kb (P ++ X ++ Y ++ S) w) :
  Calls Tryz.prog 128 #[.agg #[.func (.func 53) #[] #[.pointer (some ⟨kb, 0, none⟩)], .func (.func 103) #[] #[.slice (some ⟨g, 0, none⟩) n cap, typeHandle Tryz.prog 28]], .int .i64 (a : Int), .int .i64 (m : Int), .int .i64 (b : Int)] w fun e w' =>
   e = .returned (.tuple #[]) ∧ KIn w B g n cap kb (P ++ Y ++ X ++ S) w' := by
 have hlen := h.lies.len
 simp only [List.length_append] at hlen
 have hbn : b ≤ n := by omega
 obtain ⟨T, hT⟩ : ∃ T, P ++ Y ++ X ++ S = T := ⟨_, rfl⟩
 rw [hT]
 have hwi : IntKind.i64.wrap ((m : Int) - (a : Int)) = (X.length : Int) := by rw [show (m : Int) - (a : Int) = (X.length : Int) by omega]; exact IntWalk.i64_in _ (by omega)
 have hwj : IntKind.i64.wrap ((b : Int) - (m : Int)) = (Y.length : Int) := by rw [show (b : Int) - (m : Int) = (Y.length : Int) by omega]; exact IntWalk.i64_in _ (by omega)
 obtain ⟨W0, hW0⟩ : ∃ W0, W0 = w.alloc (.cells #[.func (.func 53) #[] #[.pointer (some ⟨kb, 0, none⟩)], .func (.func 103) #[] #[.slice (some ⟨g, 0, none⟩) n cap, typeHandle Tryz.prog 28]] 93) := ⟨_, rfl⟩
 have K0 := h.alloc (.cells #[.func (.func 53) #[] #[.pointer (some ⟨kb, 0, none⟩)], .func (.func 103) #[] #[.slice (some ⟨g, 0, none⟩) n cap, typeHandle Tryz.prog 28]] 93)
 rw [← hW0] at K0
 have hG0 : w.grownBy W0 (some g) := by rw [hW0]; exact grown_alloc _ _ _
 have hbox : ∀ M W, KIn W0 B g n cap kb M W → W.cell? ⟨w.heap.size, 0, none⟩ = some (.func (.func 53) #[] #[.pointer (some ⟨kb, 0, none⟩)]) ∧ W.cell? ⟨w.heap.size, 1, none⟩ = some (.func (.func 103) #[] #[.slice (some ⟨g, 0, none⟩) n cap, typeHandle Tryz.prog 28]) := fun M W hK => by
  have hz : w.heap.size < W0.heap.size := by rw [hW0]; simp
  have hne : w.heap.size ≠ g := by have := h.glt; omega
  rw [hK.cell hz hne, hK.cell hz hne, hW0]
  exact ⟨by simp, by simp⟩
 have H0 := Lib.hid K0
 have HG0 := Lib.hid hG0
 have HBOX := Lib.hid hbox
 have HW0 := Lib.hid hW0
 clear K0 hG0 hbox hW0
 have H := Lib.hid (show ∃ P' X' Y' S' : List Rw, X'.length = X.length ∧ Y'.length = Y.length ∧ P'.length + X'.length = m ∧ m + Y'.length ≤ n ∧ P' ++ Y' ++ X' ++ S' = T ∧ KIn W0 B g n cap kb (P' ++ X' ++ Y' ++ S') W0 from ⟨P, X, Y, S, rfl, rfl, by omega, by omega, hT, H0.out⟩)
 obtain ⟨i0, hi0⟩ : ∃ i0, X.length = i0 := ⟨_, rfl⟩
 obtain ⟨j0, hj0⟩ : ∃ j0, Y.length = j0 := ⟨_, rfl⟩
 rw [hi0] at hwi h1 H
 rw [hj0] at hwj h2 H
 have hmn : m ≤ 100000 := by omega
 have hij : i0 + j0 ≤ n := by omega
 clear h H0 hT hP hX hY hlen hi0 hj0 hbn
 go_enter Tryz.func128, Tryz.ntmps128
 go_wp2_with fail
 rw [← HW0.out]
 clear hwi hwj
 go_loopw [8, 9] (fun vi vj wr => ∃ (i j : Nat) (P' X' Y' S' : List Rw), vi = .int .i64 (i : Int) ∧ vj = .int .i64 (j : Int) ∧ 0 < i ∧ 0 < j ∧ i + j ≤ n ∧ X'.length = i ∧ Y'.length = j ∧ P'.length + X'.length = m ∧ m + Y'.length ≤ n ∧ P' ++ Y' ++ X' ++ S' = T ∧ KIn W0 B g n cap kb (P' ++ X' ++ Y' ++ S') wr)
  (fun vi vj _ => (Go.RowKit.intOf vi).toNat + (Go.RowKit.intOf vj).toNat)
 case atStart =>
  obtain ⟨P', X', Y', S', q1, q2, q3, q4, q5, q6⟩ := H.out
  exact ⟨i0, j0, P', X', Y', S', rfl, rfl, h1, h2, hij, q1, q2, q3, q4, q5, q6⟩
 case round =>
  clear H h1 h2 hij
  obtain ⟨i, j, P', X', Y', S', rfl, rfl, h1, h2, hij, q1, q2, q3, q4, q5, q6⟩ := hrel
  obtain ⟨a', ha'⟩ : ∃ a', a' = P'.length := ⟨_, rfl⟩
  have hwa : IntKind.i64.wrap ((m : Int) - (i : Int)) = (a' : Int) := by rw [show (m : Int) - (i : Int) = (a' : Int) by omega]; exact IntWalk.i64_in _ (by omega)
  obtain ⟨hc0, hc1⟩ := HBOX.out _ _ q6
  have HQ := Lib.hid q6
  have HT := Lib.hid q5
  have HM := Lib.hid (And.intro q1 (And.intro q2 (And.intro q3 (And.intro q4 ha'))))
  clear q6 q5 q1 q2 q3 q4 ha'
  obtain ⟨hX', hY', hPX, hmY, hPa⟩ := HM.out
  rw [hX'] at hPX
  rw [hY'] at hmY
  have HLX := Lib.hid hX'
  have HLY := Lib.hid hY'
  have HPX := Lib.hid hPX
  have HPA := Lib.hid hPa
  clear hX' hY' hPX hPa HM
  rcases Nat.lt_trichotomy i j with hlt | heq | hgt
  ·obtain ⟨d, hd⟩ : ∃ d, j = d + i := ⟨j - i, by omega⟩
   obtain ⟨md, hmd⟩ : ∃ md, md = m + d := ⟨_, rfl⟩
   have hne : (i : Int) ≠ (j : Int) := by omega
   have hng : ¬ (j : Int) < (i : Int) := by omega
   have hwm : IntKind.i64.wrap ((m : Int) + (j : Int)) = (m : Int) + (j : Int) := IntWalk.i64_in _ (by omega)
   have hwb : IntKind.i64.wrap ((m : Int) + (j : Int) - (i : Int)) = (md : Int) := by rw [show (m : Int) + (j : Int) - (i : Int) = (md : Int) by omega]; exact IntWalk.i64_in _ (by omega)
   have hwd : IntKind.i64.wrap ((j : Int) - (i : Int)) = (d : Int) := by rw [show (j : Int) - (i : Int) = (d : Int) by omega]; exact IntWalk.i64_in _ (by omega)
   have hl := HQ.out.start
   rw [show P' ++ X' ++ Y' ++ S' = P' ++ X' ++ Y'.take d ++ Y'.drop d ++ S' by rw [List.append_assoc (P' ++ X') (Y'.take d), List.take_append_drop]] at hl
   have hc := swapRange_c B g n cap kb a' md i P' X' (Y'.take d) (Y'.drop d) S' HPA.out.symm HLX.out (by rw [List.length_drop, HLY.out]; omega) (by rw [List.length_take, HLY.out]; have := HPX.out; have := HPA.out; omega) hn wr hl
   have HC := Lib.hid hc
   clear hc hl
   have HD := Lib.hid (And.intro hd hmd)
   clear hd hmd
   go_wp2_with fail
   refine HC.out.mono ?_
   rintro e w1 ⟨rfl, hl1⟩
   have HL1 := Lib.hid (hl1.since HQ.out.grown)
   clear hl1
   go_wp2_with fail
   go_roundw
   case rel =>
    have hd := HD.out.1
    refine ⟨i, d, P', Y'.drop d, Y'.take d, X' ++ S', rfl, by go_num, h1, by omega, by omega, by rw [List.length_drop, HLY.out]; omega, by rw [List.length_take, HLY.out]; omega, ?_, ?_, ?_, ?_⟩
    ·rw [List.length_drop, HLY.out]; have := HPX.out; omega
    ·rw [List.length_take, HLY.out]; omega
    ·rw [← HT.out]
     conv => rhs; rw [← List.take_append_drop d Y']
     simp
    ·have := HL1.out
     rw [← List.append_assoc]
     exact this
   case measure => simp only [Go.RowKit.intOf]; have := HD.out; omega
  ·subst heq
   have hl := HQ.out.start
   rw [show P' ++ X' ++ Y' ++ S' = P' ++ X' ++ [] ++ Y' ++ S' by rw [List.append_nil]] at hl
   have hc := swapRange_c B g n cap kb a' m i P' X' [] Y' S' HPA.out.symm HLX.out HLY.out (by have := HPX.out; have := HPA.out; simp; omega) hn wr hl
   have HC := Lib.hid hc
   clear hc hl
   go_wp2_with fail
   refine HC.out.mono ?_
   rintro e w1 ⟨rfl, hl1⟩
   have HL1 := Lib.hid (hl1.since HQ.out.grown)
   clear hl1
   go_wp2_with fail
   go_end0
   refine ⟨rfl, KIn.since ?_ HG0.out⟩
   have := HL1.out
   rw [List.append_nil, HT.out] at this
   exact this
  ·obtain ⟨d, hd⟩ : ∃ d, i = d + j := ⟨i - j, by omega⟩
   have hne : (i : Int) ≠ (j : Int) := by omega
   have hgi : (j : Int) < (i : Int) := by omega
   have hwd : IntKind.i64.wrap ((i : Int) - (j : Int)) = (d : Int) := by rw [show (i : Int) - (j : Int) = (d : Int) by omega]; exact IntWalk.i64_in _ (by omega)
   have hl := HQ.out.start
   rw [show P' ++ X' ++ Y' ++ S' = P' ++ X'.take j ++ X'.drop j ++ Y' ++ S' by rw [List.append_assoc P' (X'.take j), List.take_append_drop]] at hl
   have hc := swapRange_c B g n cap kb a' m j P' (X'.take j) (X'.drop j) Y' S' HPA.out.symm (by rw [List.length_take, HLX.out]; omega) HLY.out (by rw [List.length_drop, HLX.out]; have := HPX.out; have := HPA.out; omega) hn wr hl
   have HC := Lib.hid hc
   clear hc hl
   have HD := Lib.hid hd
   clear hd
   go_wp2_with fail
   refine HC.out.mono ?_
   rintro e w1 ⟨rfl, hl1⟩
   have HL1 := Lib.hid (hl1.since HQ.out.grown)
   clear hl1
   go_wp2_with fail
   go_roundw
   case rel =>
    have hd := HD.out
    refine ⟨d, j, P' ++ Y', X'.drop j, X'.take j, S', by go_num, rfl, by omega, h2, by omega, by rw [List.length_drop, HLX.out]; omega, by rw [List.length_take, HLX.out]; omega, ?_, ?_, ?_, HL1.out⟩
    ·rw [List.length_append, List.length_drop, HLX.out, HLY.out]; have := HPX.out; omega
    ·rw [List.length_take, HLX.out]; omega
    ·rw [← HT.out]
     conv => rhs; rw [← List.take_append_drop j X']
     simp
   case measure => simp only [Go.RowKit.intOf]; have := HD.out; omega
end Kk
end Go.Proofs.YtkobmnbjeppnaaaGreat
end
section
namespace Go.Proofs.YtkobmnbjeppnaaaGreat
open Go.RowKit Go.IntWalk
namespace Kk
open Fl
set_option maxRecDepth 100000
attribute [local go_sem] Oper.semAt_some
set_option maxHeartbeats 8000000 in
theorem insertion_c (B g n cap kb a b : Nat) (L : List Rw) (hab : a ≤ b) (hb : b ≤ n) (hn : n ≤ 100000) (w : World) (h : KIn w B g n cap kb L w) :
  Calls Tryz.prog 104 #[.agg #[.func (.func 53) #[] #[.pointer (some ⟨kb, 0, none⟩)], .func (.func 103) #[] #[.slice (some ⟨g, 0, none⟩) n cap, typeHandle Tryz.prog 28]], .int .i64 (a : Int), .int .i64 (b : Int)] w fun e w' =>
   e = .returned (.tuple #[]) ∧ ∃ L', Chg L L' a b ∧ AscT L' a b ∧ KIn w B g n cap kb L' w' := by
 have hwa : IntKind.i64.wrap ((a : Int) + 1) = (a : Int) + 1 := IntWalk.i64_in _ (by omega)
 obtain ⟨W0, hW0⟩ : ∃ W0, W0 = w.alloc (.cells #[.func (.func 53) #[] #[.pointer (some ⟨kb, 0, none⟩)], .func (.func 103) #[] #[.slice (some ⟨g, 0, none⟩) n cap, typeHandle Tryz.prog 28]] 93) := ⟨_, rfl⟩
 have K0 := h.alloc (.cells #[.func (.func 53) #[] #[.pointer (some ⟨kb, 0, none⟩)], .func (.func 103) #[] #[.slice (some ⟨g, 0, none⟩) n cap, typeHandle Tryz.prog 28]] 93)
 rw [← hW0] at K0
 have hG0 : w.grownBy W0 (some g) := by rw [hW0]; exact grown_alloc _ _ _
 have hbox : ∀ M W, KIn W0 B g n cap kb M W → W.cell? ⟨w.heap.size, 0, none⟩ = some (.func (.func 53) #[] #[.pointer (some ⟨kb, 0, none⟩)]) ∧ W.cell? ⟨w.heap.size, 1, none⟩ = some (.func (.func 103) #[] #[.slice (some ⟨g, 0, none⟩) n cap, typeHandle Tryz.prog 28]) := fun M W hK => by
  have hz : w.heap.size < W0.heap.size := by rw [hW0]; simp
  have hne : w.heap.size ≠ g := by have := h.glt; omega
  rw [hK.cell hz hne, hK.cell hz hne, hW0]
  exact ⟨by simp, by simp⟩
 have H0 := Lib.hid K0
 have HG0 := Lib.hid hG0
 have HBOX := Lib.hid hbox
 have HW0 := Lib.hid hW0
 clear K0 hG0 hbox hW0
 clear h
 go_enter Tryz.func104, Tryz.ntmps104
 go_wp2_with fail
 rw [← HW0.out]
 clear hwa
 go_loopw [6] (fun vi wr => ∃ (i : Nat) (Li : List Rw), vi = .int .i64 (i : Int) ∧ a + 1 ≤ i ∧ i ≤ b + 1 ∧ Chg L Li a b ∧ AscT Li a i ∧ KIn W0 B g n cap kb Li wr) (fun vi _ => b + 1 - (Go.RowKit.intOf vi).toNat)
 case atStart => exact ⟨a + 1, L, by go_num, Nat.le_refl _, by omega, Chg.refl _ _ _, AscT.few (by omega), H0.out⟩
 case round =>
  clear H0
  obtain ⟨i, Li, rfl, hai, hib, hchg, hasc, hl⟩ := hrel
  have HC := Lib.hid hchg
  have HA := Lib.hid hasc
  have HL := Lib.hid hl
  clear hchg hasc hl
  by_cases hlt : i < b
  ·have hlti : (i : Int) < (b : Int) := by omega
   go_wp2_with fail
   go_loopw [7] (fun vj wr2 => ∃ (j : Nat) (Lj : List Rw), vj = .int .i64 (j : Int) ∧ a ≤ j ∧ j ≤ i ∧ Chg L Lj a b ∧ Ins Lj a i j ∧ KIn W0 B g n cap kb Lj wr2) (fun vj _ => (Go.RowKit.intOf vj).toNat)
   case atStart => exact ⟨i, Li, rfl, by omega, Nat.le_refl _, HC.out, ins_start HA.out, HL.out⟩
   case round =>
    rename World => wr2
    clear HC HA HL
    obtain ⟨j, Lj, rfl, haj, hji, hchg, hins, hl⟩ := hrel
    have HC := Lib.hid hchg
    have HI := Lib.hid hins
    have hlen := hl.lies.len
    have HL := Lib.hid hl
    obtain ⟨hc0, hc1⟩ := HBOX.out _ _ hl
    clear hchg hins hl
    obtain ⟨x, hx⟩ := some_at (show j < Lj.length by omega)
    by_cases hja : a < j
    ·obtain ⟨k, hk⟩ : ∃ k, j = k + 1 := ⟨j - 1, by omega⟩
     obtain ⟨y, hy⟩ := some_at (show k < Lj.length by omega)
     have hd : decide (a < j) = true := decide_eq_true hja
     have hwk : IntKind.i64.wrap ((j : Int) - 1) = (k : Int) := by rw [show (j : Int) - 1 = (k : Int) by omega]; exact IntWalk.i64_in _ (by omega)
     have hajz : (a : Int) < (j : Int) := by omega
     have HK := Lib.hid hk
     have HX := Lib.hid hx
     have HY := Lib.hid hy
     clear hk hx hy hlen
     by_cases hcmp : kk x < kk y
     ·have HCM := Lib.hid hcmp
      have HLE := Lib.hid (kless true HL.out HX.out HY.out (decide_eq_true hcmp))
      clear hcmp
      go_wp2_with fail
      refine HLE.out.mono ?_
      rintro e w5 ⟨rfl, hbn⟩
      have HL5 := Lib.hid (HL.out.keep hbn)
      obtain ⟨hd0, hd1⟩ := HBOX.out _ _ HL5.out
      have hsw := kswap HL5.out HX.out HY.out
      have HK2 := Lib.hid (HL5.out.swap HX.out HY.out)
      clear hc0 hc1 hbn
      go_wp2_with fail
      go_roundw
      case rel =>
       refine ⟨k, (Lj.set j y).set k x, by have := HK.out; go_num, by have := HK.out; omega, by have := HK.out; omega, ?_, ?_, HK2.out⟩
       ·have e := HK.out
        have hx := HX.out
        rw [e] at hx ⊢
        exact HC.out.trans (Chg.back hx HY.out (by have := HCM.out; omega) (by omega) (by omega))
       ·have e := HK.out
        have hx := HX.out
        have hi := HI.out
        rw [e] at hx hi ⊢
        exact ins_step hi (by omega) (by omega) hx HY.out HCM.out
      case measure => simp only [Go.RowKit.intOf]; have := HK.out; omega
     ·have HCM := Lib.hid hcmp
      have HLE := Lib.hid (kless false HL.out HX.out HY.out (decide_eq_false hcmp))
      clear hcmp
      go_wp2_with fail
      refine HLE.out.mono ?_
      rintro e w5 ⟨rfl, hbn⟩
      have HL5 := Lib.hid (HL.out.keep hbn)
      clear hbn
      go_wp2_with fail
      go_roundw
      case rel =>
       refine ⟨i + 1, Lj, by go_num, by omega, by omega, HC.out, ?_, HL5.out⟩
       have e := HK.out
       have hx := HX.out
       have hi := HI.out
       rw [e] at hx hi
       exact ins_stop hi (by omega) hx HY.out (by have := HCM.out; omega)
      case measure => simp only [Go.RowKit.intOf]; omega
    ·have hja2 : j = a := by omega
     have hnaj : ¬ (a : Int) < (j : Int) := by omega
     have hd : decide (a < j) = false := decide_eq_false hja
     have HJ := Lib.hid hja2
     clear hja2 hx hlen
     go_wp2_with fail
     go_roundw
     case rel =>
      refine ⟨i + 1, Lj, by go_num, by omega, by omega, HC.out, ?_, HL.out⟩
      have hi := HI.out
      rw [HJ.out] at hi
      exact ins_first hi
     case measure => simp only [Go.RowKit.intOf]; omega
  ·have hlti : ¬ (i : Int) < (b : Int) := by omega
   go_wp2_with fail
   go_end0
   exact ⟨rfl, Li, HC.out, HA.out.sub (Nat.le_refl _) (by omega), HL.out.since HG0.out⟩
end Kk
end Go.Proofs.YtkobmnbjeppnaaaGreat
end
