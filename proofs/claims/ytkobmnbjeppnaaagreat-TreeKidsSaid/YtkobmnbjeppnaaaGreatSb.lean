/-
 Stretches of rows that change places: slices.swapRangeCmpFunc, slices.rotateCmpFunc.
-/
import Derived.Test.YtkobmnbjeppnaaaGreatSa
import Derived.Test.YtkobmnbjeppnaaaGreatQa
import Derived.WalkKit
namespace Go.Proofs.YtkobmnbjeppnaaaGreat
open Go.RowKit Go.IntWalk
set_option maxRecDepth 100000
attribute [local go_sem] Oper.semAt_some
/-- the call's own row of rows -/
def Lies (B g n cap : Nat) (L : List Rw) (W : World) : Prop := W.ownsRow B 28 4 (.slice (some ⟨g, 0, none⟩) n cap) n (tvs L)
theorem Lies.len {B g n cap : Nat} {L : List Rw} {W : World} (h : Lies B g n cap L W) : L.length = n := by
 have := h.1
 rw [tvs_len] at this
 omega
theorem Lies.facts {B g n cap k : Nat} {L : List Rw} {W : World} {x : Rw} (h : Lies B g n cap L W) (hx : L[k]? = some x) :
  (W.cell? ⟨g, k * 4, none⟩ = some (.int .i64 (ch x)) ∧ W.cell? ⟨g, k * 4 + 1, none⟩ = some (.int .i64 (pa x)) ∧ W.cell? ⟨g, k * 4 + 2, none⟩ = some (.string (ba (nm x))) ∧ W.cell? ⟨g, k * 4 + 3, none⟩ = some (.float .f64 (rk x))) ∧ ∀ i, W.frozen? ⟨g, i, none⟩ = false := by
 have hk := (List.getElem?_eq_some_iff.1 hx).1
 obtain ⟨g', c', hv, -, -, -, hfz, hcl⟩ := own_some h (by rw [← h.len]; omega)
 cases hv
 obtain ⟨q0, q1, q2, q3⟩ := tvs_at hx
 exact ⟨⟨hcl _ _ q0, hcl _ _ q1, hcl _ _ q2, hcl _ _ q3⟩, hfz⟩
theorem Lies.set {B g n cap k : Nat} {L : List Rw} {W : World} (h : Lies B g n cap L W) (r : Rw) (hk : k < n) :
  Lies B g n cap (L.set k r) ((((W.setCell ⟨g, k * 4, none⟩ (.int .i64 (ch r))).setCell ⟨g, k * 4 + 1, none⟩ (.int .i64 (pa r))).setCell ⟨g, k * 4 + 2, none⟩ (.string (ba (nm r)))).setCell ⟨g, k * 4 + 3, none⟩ (.float .f64 (rk r))) := by
 have hn := h.len
 subst hn
 exact own_set4 r h hk
theorem grown_set4 {w W : World} {g k : Nat} (h : w.grownBy W (some g)) (u0 u1 u2 u3 : Value) : w.grownBy ((((W.setCell ⟨g, k * 4, none⟩ u0).setCell ⟨g, k * 4 + 1, none⟩ u1).setCell ⟨g, k * 4 + 2, none⟩ u2).setCell ⟨g, k * 4 + 3, none⟩ u3) (some g) := by
 have one : ∀ (X : World) (i : Nat) (u : Value), w.grownBy X (some g) → w.grownBy (X.setCell ⟨g, i, none⟩ u) (some g) := fun X i u hX =>
  ⟨hX.os, hX.tape, hX.output, by simpa using hX.size, fun j hj hne => (Below.heap_setCell X _ _ j (fun e => hne (by rw [e]))).trans (hX.block j hj hne)⟩
 exact one _ _ _ (one _ _ _ (one _ _ _ (one _ _ _ h)))
theorem grown_refl (w : World) (row : Option Nat) : w.grownBy w row := ⟨rfl, rfl, rfl, Nat.le_refl _, fun _ _ _ => rfl⟩
theorem grown_drew {w W : World} {row : Option Nat} (h : w.grownBy W row) : w.grownBy W.drew row := ⟨h.os, h.tape, h.output, h.size, h.block⟩
theorem grown_trans {A B C : World} {g : Nat} (h : A.grownBy B (some g)) (k : B.grownBy C (some g)) : A.grownBy C (some g) :=
 ⟨k.os.trans h.os, k.tape.trans h.tape, k.output.trans h.output, Nat.le_trans h.size k.size, fun i hi hne => (k.block i (Nat.lt_of_lt_of_le hi h.size) hne).trans (h.block i hi hne)⟩
theorem grown_of_below {A B C : World} {g : Nat} (h : A.grownBy B (some g)) (k : Below B.heap.size B C) : A.grownBy C (some g) :=
 grown_trans h ⟨k.os, k.tape, k.output, k.size, fun i hi _ => k.block i hi⟩
theorem Lies.drew {B g n cap : Nat} {L : List Rw} {W : World} (h : Lies B g n cap L W) : Lies B g n cap L W.drew := h
theorem Lies.keep {B g n cap : Nat} {L : List Rw} {W W' : World} (h : Lies B g n cap L W) (k : Below W.heap.size W W') : Lies B g n cap L W' := below_ownI h k
/-- where the loop that changes two stretches stands -/
def swS (P X M Y S : List Rw) (k : Nat) : List Rw := P ++ Y.take k ++ X.drop k ++ M ++ X.take k ++ Y.drop k ++ S
theorem swS_zero (P X M Y S : List Rw) : swS P X M Y S 0 = P ++ X ++ M ++ Y ++ S := by simp [swS]
theorem swS_all (P X M Y S : List Rw) (h : X.length = Y.length) : swS P X M Y S X.length = P ++ Y ++ M ++ X ++ S := by
 unfold swS
 rw [List.drop_length, h, List.take_length, List.drop_length, ← h, List.take_length]
 simp
theorem swS_step {P X M Y S : List Rw} {k a b : Nat} {x y : Rw} (hP : P.length = a) (hb : a + X.length + M.length = b) (hx : X[k]? = some x) (hy : Y[k]? = some y) :
  (swS P X M Y S k)[a + k]? = some x ∧ (swS P X M Y S k)[b + k]? = some y ∧ ((swS P X M Y S k).set (a + k) y).set (b + k) x = swS P X M Y S (k + 1) := by
 have hkx := (List.getElem?_eq_some_iff.1 hx).1
 have hky := (List.getElem?_eq_some_iff.1 hy).1
 have dx : X.drop k = x :: X.drop (k + 1) := by rw [List.drop_eq_getElem_cons hkx, (List.getElem?_eq_some_iff.1 hx).2]
 have dy : Y.drop k = y :: Y.drop (k + 1) := by rw [List.drop_eq_getElem_cons hky, (List.getElem?_eq_some_iff.1 hy).2]
 have e : swS P X M Y S k = (P ++ Y.take k) ++ x :: (X.drop (k + 1) ++ M ++ X.take k) ++ y :: (Y.drop (k + 1) ++ S) := by
  unfold swS; rw [dx, dy]; simp
 have l1 : (P ++ Y.take k).length = a + k := by rw [List.length_append, List.length_take]; omega
 have l2 : (P ++ Y.take k).length + 1 + (X.drop (k + 1) ++ M ++ X.take k).length = b + k := by
  rw [l1, List.length_append, List.length_append, List.length_drop, List.length_take]; omega
 refine ⟨?_, ?_, ?_⟩
 ·rw [e, ← l1, List.append_assoc, List.getElem?_append_right (Nat.le_refl _), Nat.sub_self]; rfl
 ·rw [e, ← l2, List.getElem?_append_right (by simp; omega)]
  rw [show (P ++ Y.take k).length + 1 + (X.drop (k + 1) ++ M ++ X.take k).length - (P ++ Y.take k ++ x :: (X.drop (k + 1) ++ M ++ X.take k)).length = 0 by rw [List.length_append (bs := _ :: _), List.length_cons]; omega]
  rfl
 ·have h := swap_two (P ++ Y.take k) (X.drop (k + 1) ++ M ++ X.take k) (Y.drop (k + 1) ++ S) x y
  rw [l2, l1, ← e] at h
  rw [h]
  unfold swS
  rw [List.take_add_one, List.take_add_one, hx, hy]
  simp
set_option maxHeartbeats 4000000 in
theorem swapRange_c (B g n cap a b k : Nat) (P X M Y S : List Rw) (hP : P.length = a) (hX : X.length = k) (hY : Y.length = k) (hb : a + k + M.length = b) (hn : n ≤ 100000) (cmp : Value) (w : World) (h : Lies B g n cap (P ++ X ++ M ++ Y ++ S) w) :
  Calls Tryz.prog 138 #[.slice (some ⟨g, 0, none⟩) n cap, .int .i64 (a : Int), .int .i64 (b : Int), .int .i64 (k : Int), cmp] w fun e w' =>
   e = .returned (.tuple #[]) ∧ Lies B g n cap (P ++ Y ++ M ++ X ++ S) w' ∧ w.grownBy w' (some g) := by
 have hlen := h.len
 simp only [List.length_append] at hlen
 have H := Lib.hid h
 have HP := Lib.hid hP
 have HX := Lib.hid hX
 have HY := Lib.hid hY
 have HB := Lib.hid hb
 have HL := Lib.hid hlen
 have hbn : b + k ≤ n := by omega
 have hak : a + k ≤ b := by omega
 clear h hP hX hY hb hlen
 go_enter Tryz.func138, Tryz.ntmps138
 go_wp2_with fail
 go_loopw [10] (fun i wr => ∃ j : Nat, i = .int .i64 (j : Int) ∧ j ≤ k ∧ Lies B g n cap (swS P X M Y S j) wr ∧ w.grownBy wr (some g)) (fun i _ => k - (Go.RowKit.intOf i).toNat)
 case atStart => exact ⟨0, rfl, Nat.zero_le _, by rw [swS_zero]; exact H.out, grown_refl _ _⟩
 case round =>
  obtain ⟨j, rfl, hj, hl, hg⟩ := hrel
  have HL := Lib.hid hl
  have HG := Lib.hid hg
  clear hl hg
  by_cases hlt : j < k
  ·obtain ⟨x, hx⟩ := some_at (show j < X.length by rw [HX.out]; exact hlt)
   obtain ⟨y, hy⟩ := some_at (show j < Y.length by rw [HY.out]; exact hlt)
   obtain ⟨e1, e2, e3⟩ := swS_step (P := P) (X := X) (M := M) (Y := Y) (S := S) (b := b) HP.out (by rw [HX.out]; exact HB.out) hx hy
   obtain ⟨⟨c0, c1, c2, c3⟩, hfz⟩ := HL.out.facts e1
   obtain ⟨⟨d0, d1, d2, d3⟩, -⟩ := HL.out.facts e2
   obtain ⟨p, hp⟩ : ∃ p, p = a + j := ⟨_, rfl⟩
   obtain ⟨q, hq⟩ : ∃ q, q = b + j := ⟨_, rfl⟩
   have hwp : IntKind.i64.wrap ((a : Int) + (j : Int)) = (p : Int) := by rw [show (a : Int) + (j : Int) = (p : Int) by omega]; exact IntWalk.i64_in _ (by omega)
   have hwq : IntKind.i64.wrap ((b : Int) + (j : Int)) = (q : Int) := by rw [show (b : Int) + (j : Int) = (q : Int) by omega]; exact IntWalk.i64_in _ (by omega)
   have hpn : p < n := by omega
   have hqn : q < n := by omega
   have hpq : p < q := by omega
   rw [← hp] at c0 c1 c2 c3
   rw [← hq] at d0 d1 d2 d3
   have hl2 := ((HL.out.set y hpn).set x hqn).drew
   have hg2 := grown_drew (grown_set4 (k := q) (grown_set4 (k := p) HG.out (.int .i64 (ch y)) (.int .i64 (pa y)) (.string (ba (nm y))) (.float .f64 (rk y))) (.int .i64 (ch x)) (.int .i64 (pa x)) (.string (ba (nm x))) (.float .f64 (rk x)))
   rw [hp, hq, e3, ← hp, ← hq] at hl2
   have HL2 := Lib.hid hl2
   have HG2 := Lib.hid hg2
   have f0 := hfz (p * 4)
   have f1 := hfz (p * 4 + 1)
   have f2 := hfz (p * 4 + 2)
   have f3 := hfz (p * 4 + 3)
   have k0 := hfz (q * 4)
   have k1 := hfz (q * 4 + 1)
   have k2 := hfz (q * 4 + 2)
   have k3 := hfz (q * 4 + 3)
   have hp0 : (0 : Int) ≤ (p : Int) := by omega
   have hpl : (p : Int) < (n : Int) := by omega
   have hq0 : (0 : Int) ≤ (q : Int) := by omega
   have hql : (q : Int) < (n : Int) := by omega
   clear hl2 hg2 e1 e2 e3 hx hy hfz hp hq
   go_wp2_with fail
   go_region
   all_goals
    go_wp2_with fail
    go_roundw
    case rel =>
     exact ⟨j + 1, by go_num, by omega, HL2.out, HG2.out⟩
    case measure => simp only [Go.RowKit.intOf]; omega
  ·obtain rfl : j = k := by omega
   go_wp2_with fail
   go_end0
   refine ⟨rfl, ?_, HG.out⟩
   have := HL.out
   rw [show j = X.length from HX.out.symm, swS_all P X M Y S (by rw [HX.out, HY.out])] at this
   exact this
set_option maxHeartbeats 4000000 in
theorem rotate_c (B g n cap a m b : Nat) (P X Y S : List Rw) (hP : P.length = a) (hX : a + X.length = m) (hY : m + Y.length = b) (h1 : 0 < X.length) (h2 : 0 < Y.length) (hn : n ≤ 100000) (cmp : Value) (w : World) (h : Lies B g n cap (P ++ X ++ Y ++ S) w) :
  Calls Tryz.prog 135 #[.slice (some ⟨g, 0, none⟩) n cap, .int .i64 (a : Int), .int .i64 (m : Int), .int .i64 (b : Int), cmp] w fun e w' =>
   e = .returned (.tuple #[]) ∧ Lies B g n cap (P ++ Y ++ X ++ S) w' ∧ w.grownBy w' (some g) := by
 have hlen := h.len
 simp only [List.length_append] at hlen
 have hbn : b ≤ n := by omega
 obtain ⟨T, hT⟩ : ∃ T, P ++ Y ++ X ++ S = T := ⟨_, rfl⟩
 rw [hT]
 have hwi : IntKind.i64.wrap ((m : Int) - (a : Int)) = (X.length : Int) := by rw [show (m : Int) - (a : Int) = (X.length : Int) by omega]; exact IntWalk.i64_in _ (by omega)
 have hwj : IntKind.i64.wrap ((b : Int) - (m : Int)) = (Y.length : Int) := by rw [show (b : Int) - (m : Int) = (Y.length : Int) by omega]; exact IntWalk.i64_in _ (by omega)
 have H := Lib.hid (show ∃ P' X' Y' S' : List Rw, X'.length = X.length ∧ Y'.length = Y.length ∧ P'.length + X'.length = m ∧ m + Y'.length ≤ n ∧ P' ++ Y' ++ X' ++ S' = T ∧ Lies B g n cap (P' ++ X' ++ Y' ++ S') w from ⟨P, X, Y, S, rfl, rfl, by omega, by omega, hT, h⟩)
 obtain ⟨i0, hi0⟩ : ∃ i0, X.length = i0 := ⟨_, rfl⟩
 obtain ⟨j0, hj0⟩ : ∃ j0, Y.length = j0 := ⟨_, rfl⟩
 rw [hi0] at hwi h1 H
 rw [hj0] at hwj h2 H
 have hmn : m ≤ 100000 := by omega
 have hij : i0 + j0 ≤ n := by omega
 clear h hT hP hX hY hlen hi0 hj0 hbn
 go_enter Tryz.func135, Tryz.ntmps135
 go_wp2_with fail
 clear hwi hwj
 go_loopw [10, 11] (fun vi vj wr => ∃ (i j : Nat) (P' X' Y' S' : List Rw), vi = .int .i64 (i : Int) ∧ vj = .int .i64 (j : Int) ∧ 0 < i ∧ 0 < j ∧ i + j ≤ n ∧ X'.length = i ∧ Y'.length = j ∧ P'.length + X'.length = m ∧ m + Y'.length ≤ n ∧ P' ++ Y' ++ X' ++ S' = T ∧ Lies B g n cap (P' ++ X' ++ Y' ++ S') wr ∧ w.grownBy wr (some g))
  (fun vi vj _ => (Go.RowKit.intOf vi).toNat + (Go.RowKit.intOf vj).toNat)
 case atStart =>
  obtain ⟨P', X', Y', S', q1, q2, q3, q4, q5, q6⟩ := H.out
  exact ⟨i0, j0, P', X', Y', S', rfl, rfl, h1, h2, hij, q1, q2, q3, q4, q5, q6, grown_refl _ _⟩
 case round =>
  clear H h1 h2 hij
  obtain ⟨i, j, P', X', Y', S', rfl, rfl, h1, h2, hij, q1, q2, q3, q4, q5, q6, hg⟩ := hrel
  obtain ⟨a', ha'⟩ : ∃ a', a' = P'.length := ⟨_, rfl⟩
  have hwa : IntKind.i64.wrap ((m : Int) - (i : Int)) = (a' : Int) := by rw [show (m : Int) - (i : Int) = (a' : Int) by omega]; exact IntWalk.i64_in _ (by omega)
  have HG := Lib.hid hg
  have HQ := Lib.hid q6
  have HT := Lib.hid q5
  have HM := Lib.hid (And.intro q1 (And.intro q2 (And.intro q3 (And.intro q4 ha'))))
  clear hg q6 q5 q1 q2 q3 q4 ha'
  obtain ⟨hX', hY', hPX, hmY, hPa⟩ := HM.out
  rw [hX'] at hPX
  rw [hY'] at hmY
  have HLX := Lib.hid hX'
  have HLY := Lib.hid hY'
  have HPX := Lib.hid hPX
  have HPA := Lib.hid hPa
  clear hX' hY' hPX hPa HM
  rcases Nat.lt_trichotomy i j with hlt | heq | hgt
  ·obtain ⟨d, hd⟩ : ∃ d, j = d + i := ⟨j - i, by omega⟩
   have hne : (i : Int) ≠ (j : Int) := by omega
   have hng : ¬ (j : Int) < (i : Int) := by omega
   have hwm : IntKind.i64.wrap ((m : Int) + (j : Int)) = (m : Int) + (j : Int) := IntWalk.i64_in _ (by omega)
   have hwb : IntKind.i64.wrap ((m : Int) + (j : Int) - (i : Int)) = ((m + d : Nat) : Int) := by rw [show (m : Int) + (j : Int) - (i : Int) = ((m + d : Nat) : Int) by omega]; exact IntWalk.i64_in _ (by omega)
   have hwd : IntKind.i64.wrap ((j : Int) - (i : Int)) = (d : Int) := by rw [show (j : Int) - (i : Int) = (d : Int) by omega]; exact IntWalk.i64_in _ (by omega)
   have hl : Lies B g n cap (P' ++ X' ++ Y'.take d ++ Y'.drop d ++ S') wr := by rw [List.append_assoc (P' ++ X'), List.take_append_drop]; exact HQ.out
   have hc := swapRange_c B g n cap a' (m + d) i P' X' (Y'.take d) (Y'.drop d) S' HPA.out.symm HLX.out (by rw [List.length_drop, HLY.out]; omega) (by rw [List.length_take, HLY.out]; have := HPX.out; have := HPA.out; omega) hn cmp wr hl
   have HC := Lib.hid hc
   clear hc hl
   have HD := Lib.hid hd
   clear hd
   go_wp2_with fail
   refine HC.out.mono ?_
   rintro e w1 ⟨rfl, hl1, hg1⟩
   have HL1 := Lib.hid hl1
   have HG1 := Lib.hid (grown_trans HG.out hg1)
   clear hl1 hg1
   go_wp2_with fail
   go_roundw
   case rel =>
    have hd := HD.out
    refine ⟨i, d, P', Y'.drop d, Y'.take d, X' ++ S', rfl, by go_num, h1, by omega, by omega, by rw [List.length_drop, HLY.out]; omega, by rw [List.length_take, HLY.out]; omega, ?_, ?_, ?_, ?_, HG1.out⟩
    ·rw [List.length_drop, HLY.out]; have := HPX.out; omega
    ·rw [List.length_take, HLY.out]; omega
    ·rw [← HT.out]
     conv => rhs; rw [← List.take_append_drop d Y']
     simp
    ·have := HL1.out
     rw [← List.append_assoc]
     exact this
   case measure => simp only [Go.RowKit.intOf]; have := HD.out; omega
  ·subst heq
   go_wp2_with fail
   have hl : Lies B g n cap (P' ++ X' ++ [] ++ Y' ++ S') wr := by rw [List.append_nil]; exact HQ.out
   refine (swapRange_c B g n cap a' m i P' X' [] Y' S' HPA.out.symm HLX.out HLY.out (by have := HPX.out; have := HPA.out; simp; omega) hn cmp wr hl).mono ?_
   rintro e w1 ⟨rfl, hl1, hg1⟩
   have HL1 := Lib.hid hl1
   have HG1 := Lib.hid (grown_trans HG.out hg1)
   clear hl1 hg1
   go_wp2_with fail
   go_end0
   refine ⟨rfl, ?_, HG1.out⟩
   have := HL1.out
   rw [List.append_nil, HT.out] at this
   exact this
  ·obtain ⟨d, hd⟩ : ∃ d, i = d + j := ⟨i - j, by omega⟩
   have hne : (i : Int) ≠ (j : Int) := by omega
   have hgi : (j : Int) < (i : Int) := by omega
   have hwd : IntKind.i64.wrap ((i : Int) - (j : Int)) = (d : Int) := by rw [show (i : Int) - (j : Int) = (d : Int) by omega]; exact IntWalk.i64_in _ (by omega)
   have hl : Lies B g n cap (P' ++ X'.take j ++ X'.drop j ++ Y' ++ S') wr := by rw [List.append_assoc P', List.take_append_drop]; exact HQ.out
   have hc := swapRange_c B g n cap a' m j P' (X'.take j) (X'.drop j) Y' S' HPA.out.symm (by rw [List.length_take, HLX.out]; omega) HLY.out (by rw [List.length_drop, HLX.out]; have := HPX.out; have := HPA.out; omega) hn cmp wr hl
   have HC := Lib.hid hc
   clear hc hl
   have HD := Lib.hid hd
   clear hd
   go_wp2_with fail
   refine HC.out.mono ?_
   rintro e w1 ⟨rfl, hl1, hg1⟩
   have HL1 := Lib.hid hl1
   have HG1 := Lib.hid (grown_trans HG.out hg1)
   clear hl1 hg1
   go_wp2_with fail
   go_roundw
   case rel =>
    have hd := HD.out
    refine ⟨d, j, P' ++ Y', X'.drop j, X'.take j, S', by go_num, rfl, by omega, h2, by omega, by rw [List.length_drop, HLX.out]; omega, by rw [List.length_take, HLX.out]; omega, ?_, ?_, ?_, HL1.out, HG1.out⟩
    ·rw [List.length_append, List.length_drop, HLX.out, HLY.out]; have := HPX.out; omega
    ·rw [List.length_take, HLX.out]; omega
    ·rw [← HT.out]
     conv => rhs; rw [← List.take_append_drop j X']
     simp
   case measure => simp only [Go.RowKit.intOf]; have := HD.out; omega
end Go.Proofs.YtkobmnbjeppnaaaGreat
