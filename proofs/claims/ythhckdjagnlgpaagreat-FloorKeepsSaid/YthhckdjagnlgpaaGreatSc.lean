/-
 Stretches of rows that change places: slices.swapRangeCmpFunc, slices.rotateCmpFunc.
 Rows that are put in order by insertion: slices.insertionSortCmpFunc by children.
-/
import Derived.Test.YthhckdjagnlgpaaGreatSa
import Derived.Test.YthhckdjagnlgpaaGreatAh
import Derived.WalkKit
section
namespace Go.Proofs.YthhckdjagnlgpaaGreat
open Go.RowKit Go.IntWalk
set_option maxRecDepth 100000
attribute [local go_sem] Oper.semAt_some
/-- the call's own row of rows -/
def Lies (B g n cap : Nat) (L : List Rw) (W : World) : Prop := W.ownsRow B 28 4 (.slice (some ⟨g, 0, none⟩) n cap) n (tvs L)
theorem Lies.len {B g n cap : Nat} {L : List Rw} {W : World} (h : Lies B g n cap L W) : L.length = n := by
 have := h.1
 rw [tvs_len] at this
 omega
theorem Lies.facts {B g n cap k : Nat} {L : List Rw} {W : World} {x : Rw} (h : Lies B g n cap L W) (hx : L[k]? = some x) :
  (W.cell? ⟨g, k * 4, none⟩ = some (.int .i64 (ch x)) ∧ W.cell? ⟨g, k * 4 + 1, none⟩ = some (.int .i64 (pa x)) ∧ W.cell? ⟨g, k * 4 + 2, none⟩ = some (.string (ba (nm x))) ∧ W.cell? ⟨g, k * 4 + 3, none⟩ = some (.float .f64 (rk x))) ∧ ∀ i, W.frozen? ⟨g, i, none⟩ = false := by
 have hk := (List.getElem?_eq_some_iff.1 hx).1
 obtain ⟨g', c', hv, -, -, -, hfz, hcl⟩ := own_some h (by rw [← h.len]; omega)
 cases hv
 obtain ⟨q0, q1, q2, q3⟩ := tvs_at hx
 exact ⟨⟨hcl _ _ q0, hcl _ _ q1, hcl _ _ q2, hcl _ _ q3⟩, hfz⟩
theorem Lies.set {B g n cap k : Nat} {L : List Rw} {W : World} (h : Lies B g n cap L W) (r : Rw) (hk : k < n) :
  Lies B g n cap (L.set k r) ((((W.setCell ⟨g, k * 4, none⟩ (.int .i64 (ch r))).setCell ⟨g, k * 4 + 1, none⟩ (.int .i64 (pa r))).setCell ⟨g, k * 4 + 2, none⟩ (.string (ba (nm r)))).setCell ⟨g, k * 4 + 3, none⟩ (.float .f64 (rk r))) := by
 have hn := h.len
 subst hn
 exact own_set4 r h hk
theorem grown_set4 {w W : World} {g k : Nat} (h : w.grownBy W (some g)) (u0 u1 u2 u3 : Value) : w.grownBy ((((W.setCell ⟨g, k * 4, none⟩ u0).setCell ⟨g, k * 4 + 1, none⟩ u1).setCell ⟨g, k * 4 + 2, none⟩ u2).setCell ⟨g, k * 4 + 3, none⟩ u3) (some g) := by
 have one : ∀ (X : World) (i : Nat) (u : Value), w.grownBy X (some g) → w.grownBy (X.setCell ⟨g, i, none⟩ u) (some g) := fun X i u hX =>
  ⟨hX.os, hX.tape, hX.output, by simpa using hX.size, fun j hj hne => (Below.heap_setCell X _ _ j (fun e => hne (by rw [e]))).trans (hX.block j hj hne)⟩
 exact one _ _ _ (one _ _ _ (one _ _ _ (one _ _ _ h)))
theorem grown_refl (w : World) (row : Option Nat) : w.grownBy w row := ⟨rfl, rfl, rfl, Nat.le_refl _, fun _ _ _ => rfl⟩
theorem grown_drew {w W : World} {row : Option Nat} (h : w.grownBy W row) : w.grownBy W.drew row := ⟨h.os, h.tape, h.output, h.size, h.block⟩
theorem grown_trans {A B C : World} {g : Nat} (h : A.grownBy B (some g)) (k : B.grownBy C (some g)) : A.grownBy C (some g) :=
 ⟨k.os.trans h.os, k.tape.trans h.tape, k.output.trans h.output, Nat.le_trans h.size k.size, fun i hi hne => (k.block i (Nat.lt_of_lt_of_le hi h.size) hne).trans (h.block i hi hne)⟩
theorem grown_of_below {A B C : World} {g : Nat} (h : A.grownBy B (some g)) (k : Below B.heap.size B C) : A.grownBy C (some g) :=
 grown_trans h ⟨k.os, k.tape, k.output, k.size, fun i hi _ => k.block i hi⟩
theorem Lies.drew {B g n cap : Nat} {L : List Rw} {W : World} (h : Lies B g n cap L W) : Lies B g n cap L W.drew := h
theorem Lies.keep {B g n cap : Nat} {L : List Rw} {W W' : World} (h : Lies B g n cap L W) (k : Below W.heap.size W W') : Lies B g n cap L W' := below_ownI h k
/-- where the loop that changes two stretches stands -/
def swS (P X M Y S : List Rw) (k : Nat) : List Rw := P ++ Y.take k ++ X.drop k ++ M ++ X.take k ++ Y.drop k ++ S
theorem swS_zero (P X M Y S : List Rw) : swS P X M Y S 0 = P ++ X ++ M ++ Y ++ S := by simp [swS]
theorem swS_all (P X M Y S : List Rw) (h : X.length = Y.length) : swS P X M Y S X.length = P ++ Y ++ M ++ X ++ S := by
 unfold swS
 rw [List.drop_length, h, List.take_length, List.drop_length, ← h, List.take_length]
 simp
theorem swS_step {P X M Y S : List Rw} {k a b : Nat} {x y : Rw} (hP : P.length = a) (hb : a + X.length + M.length = b) (hx : X[k]? = some x) (hy : Y[k]? = some y) :
  (swS P X M Y S k)[a + k]? = some x ∧ (swS P X M Y S k)[b + k]? = some y ∧ ((swS P X M Y S k).set (a + k) y).set (b + k) x = swS P X M Y S (k + 1) := by
 have hkx := (List.getElem?_eq_some_iff.1 hx).1
 have hky := (List.getElem?_eq_some_iff.1 hy).1
 have dx : X.drop k = x :: X.drop (k + 1) := by rw [List.drop_eq_getElem_cons hkx, (List.getElem?_eq_some_iff.1 hx).2]
 have dy : Y.drop k = y :: Y.drop (k + 1) := by rw [List.drop_eq_getElem_cons hky, (List.getElem?_eq_some_iff.1 hy).2]
 have e : swS P X M Y S k = (P ++ Y.take k) ++ x :: (X.drop (k + 1) ++ M ++ X.take k) ++ y :: (Y.drop (k + 1) ++ S) := by
  unfold swS; rw [dx, dy]; simp
 have l1 : (P ++ Y.take k).length = a + k := by rw [List.length_append, List.length_take]; omega
 have l2 : (P ++ Y.take k).length + 1 + (X.drop (k + 1) ++ M ++ X.take k).length = b + k := by
  rw [l1, List.length_append, List.length_append, List.length_drop, List.length_take]; omega
 refine ⟨?_, ?_, ?_⟩
 ·rw [e, ← l1, List.append_assoc, List.getElem?_append_right (Nat.le_refl _), Nat.sub_self]; rfl
 ·rw [e, ← l2, List.getElem?_append_right (by simp; omega)]
  rw [show (P ++ Y.take k).length + 1 + (X.drop (k + 1) ++ M ++ X.take k).length - (P ++ Y.take k ++ x :: (X.drop (k + 1) ++ M ++ X.take k)).length = 0 by rw [List.length_append (bs := _ :: _), List.length_cons]; omega]
  rfl
 ·have h := swap_two (P ++ Y.take k) (X.drop (k + 1) ++ M ++ X.take k) (Y.drop (k + 1) ++ S) x y
  rw [l2, l1, ← e] at h
  rw [h]
  unfold swS
  rw [List.take_add_one, List.take_add_one, hx, hy]
  simp
set_option maxHeartbeats 4000000 in
theorem swapRange_c (B g n cap a b k : Nat) (P X M Y S : List Rw) (hP : P.length = a) (hX : X.length = k) (hY : Y.length = k) (hb : a + k + M.length = b) (hn : n ≤ 100000) (cmp : Value) (w : World) (h : Lies B g n cap (P ++ X ++ M ++ Y ++ S) w) :
  Calls Tryz.prog 233 #[.slice (some ⟨g, 0, none⟩) n cap, .int .i64 (a : Int), .int .i64 (b : Int), .int .i64 (k : Int), cmp] w fun e w' =>
   e = .returned (.tuple #[]) ∧ Lies B g n cap (P ++ Y ++ M ++ X ++ S) w' ∧ w.grownBy w' (some g) := by
 have hlen := h.len
 simp only [List.length_append] at hlen
 have H := Lib.hid h
 have HP := Lib.hid hP
 have HX := Lib.hid hX
 have HY := Lib.hid hY
 have HB := Lib.hid hb
 have HL := Lib.hid hlen
 have hbn : b + k ≤ n := by omega
 have hak : a + k ≤ b := by omega
 clear h hP hX hY hb hlen
 go_enter Tryz.func233, Tryz.ntmps233
 go_wp2_with fail
 go_loopw [10] (fun i wr => ∃ j : Nat, i = .int .i64 (j : Int) ∧ j ≤ k ∧ Lies B g n cap (swS P X M Y S j) wr ∧ w.grownBy wr (some g)) (fun i _ => k - (Go.RowKit.intOf i).toNat)
 case atStart => exact ⟨0, rfl, Nat.zero_le _, by rw [swS_zero]; exact H.out, grown_refl _ _⟩
 case round =>
  obtain ⟨j, rfl, hj, hl, hg⟩ := hrel
  have HL := Lib.hid hl
  have HG := Lib.hid hg
  clear hl hg
  by_cases hlt : j < k
  ·obtain ⟨x, hx⟩ := some_at (show j < X.length by rw [HX.out]; exact hlt)
   obtain ⟨y, hy⟩ := some_at (show j < Y.length by rw [HY.out]; exact hlt)
   obtain ⟨e1, e2, e3⟩ := swS_step (P := P) (X := X) (M := M) (Y := Y) (S := S) (b := b) HP.out (by rw [HX.out]; exact HB.out) hx hy
   obtain ⟨⟨c0, c1, c2, c3⟩, hfz⟩ := HL.out.facts e1
   obtain ⟨⟨d0, d1, d2, d3⟩, -⟩ := HL.out.facts e2
   obtain ⟨p, hp⟩ : ∃ p, p = a + j := ⟨_, rfl⟩
   obtain ⟨q, hq⟩ : ∃ q, q = b + j := ⟨_, rfl⟩
   have hwp : IntKind.i64.wrap ((a : Int) + (j : Int)) = (p : Int) := by rw [show (a : Int) + (j : Int) = (p : Int) by omega]; exact IntWalk.i64_in _ (by omega)
   have hwq : IntKind.i64.wrap ((b : Int) + (j : Int)) = (q : Int) := by rw [show (b : Int) + (j : Int) = (q : Int) by omega]; exact IntWalk.i64_in _ (by omega)
   have hpn : p < n := by omega
   have hqn : q < n := by omega
   have hpq : p < q := by omega
   rw [← hp] at c0 c1 c2 c3
   rw [← hq] at d0 d1 d2 d3
   have hl2 := ((HL.out.set y hpn).set x hqn).drew
   have hg2 := grown_drew (grown_set4 (k := q) (grown_set4 (k := p) HG.out (.int .i64 (ch y)) (.int .i64 (pa y)) (.string (ba (nm y))) (.float .f64 (rk y))) (.int .i64 (ch x)) (.int .i64 (pa x)) (.string (ba (nm x))) (.float .f64 (rk x)))
   rw [hp, hq, e3, ← hp, ← hq] at hl2
   have HL2 := Lib.hid hl2
   have HG2 := Lib.hid hg2
   have f0 := hfz (p * 4)
   have f1 := hfz (p * 4 + 1)
   have f2 := hfz (p * 4 + 2)
   have f3 := hfz (p * 4 + 3)
   have k0 := hfz (q * 4)
   have k1 := hfz (q * 4 + 1)
   have k2 := hfz (q * 4 + 2)
   have k3 := hfz (q * 4 + 3)
   have hp0 : (0 : Int) ≤ (p : Int) := by omega
   have hpl : (p : Int) < (n : Int) := by omega
   have hq0 : (0 : Int) ≤ (q : Int) := by omega
   have hql : (q : Int) < (n : Int) := by omega
   clear hl2 hg2 e1 e2 e3 hx hy hfz hp hq
   go_wp2_with fail
   go_region
   all_goals
    go_wp2_with fail
    go_roundw
    case rel =>
     exact ⟨j + 1, by go_num, by omega, HL2.out, HG2.out⟩
    case measure => simp only [Go.RowKit.intOf]; omega
  ·obtain rfl : j = k := by omega
   go_wp2_with fail
   go_end0
   refine ⟨rfl, ?_, HG.out⟩
   have := HL.out
   rw [show j = X.length from HX.out.symm, swS_all P X M Y S (by rw [HX.out, HY.out])] at this
   exact this
set_option maxHeartbeats 4000000 in
theorem rotate_c (B g n cap a m b : Nat) (P X Y S : List Rw) (hP : P.length = a) (hX : a + X.length = m) (hY : m + Y.length = b) (h1 : 0 < X.length) (h2 : 0 < Y.length) (hn : n ≤ 100000) (cmp : Value) (w : World) (h : Lies B g n cap (P ++ X ++ Y ++ S) w) :
  Calls Tryz.prog 229 #[.slice (some ⟨g, 0, none⟩) n cap, .int .i64 (a : Int), .int .i64 (m : Int), .int .i64 (b : Int), cmp] w fun e w' =>
   e = .returned (.tuple #[]) ∧ Lies B g n cap (P ++ Y ++ X ++ S) w' ∧ w.grownBy w' (some g) := by
 have hlen := h.len
 simp only [List.length_append] at hlen
 have hbn : b ≤ n := by omega
 obtain ⟨T, hT⟩ : ∃ T, P ++ Y ++ X ++ S = T := ⟨_, rfl⟩
 rw [hT]
 have hwi : IntKind.i64.wrap ((m : Int) - (a : Int)) = (X.length : Int) := by rw [show (m : Int) - (a : Int) = (X.length : Int) by omega]; exact IntWalk.i64_in _ (by omega)
 have hwj : IntKind.i64.wrap ((b : Int) - (m : Int)) = (Y.length : Int) := by rw [show (b : Int) - (m : Int) = (Y.length : Int) by omega]; exact IntWalk.i64_in _ (by omega)
 have H := Lib.hid (show ∃ P' X' Y' S' : List Rw, X'.length = X.length ∧ Y'.length = Y.length ∧ P'.length + X'.length = m ∧ m + Y'.length ≤ n ∧ P' ++ Y' ++ X' ++ S' = T ∧ Lies B g n cap (P' ++ X' ++ Y' ++ S') w from ⟨P, X, Y, S, rfl, rfl, by omega, by omega, hT, h⟩)
 obtain ⟨i0, hi0⟩ : ∃ i0, X.length = i0 := ⟨_, rfl⟩
 obtain ⟨j0, hj0⟩ : ∃ j0, Y.length = j0 := ⟨_, rfl⟩
 rw [hi0] at hwi h1 H
 rw [hj0] at hwj h2 H
 have hmn : m ≤ 100000 := by omega
 have hij : i0 + j0 ≤ n := by omega
 clear h hT hP hX hY hlen hi0 hj0 hbn
 go_enter Tryz.func229, Tryz.ntmps229
 go_wp2_with fail
 clear hwi hwj
 go_loopw [10, 11] (fun vi vj wr => ∃ (i j : Nat) (P' X' Y' S' : List Rw), vi = .int .i64 (i : Int) ∧ vj = .int .i64 (j : Int) ∧ 0 < i ∧ 0 < j ∧ i + j ≤ n ∧ X'.length = i ∧ Y'.length = j ∧ P'.length + X'.length = m ∧ m + Y'.length ≤ n ∧ P' ++ Y' ++ X' ++ S' = T ∧ Lies B g n cap (P' ++ X' ++ Y' ++ S') wr ∧ w.grownBy wr (some g))
  (fun vi vj _ => (Go.RowKit.intOf vi).toNat + (Go.RowKit.intOf vj).toNat)
 case atStart =>
  obtain ⟨P', X', Y', S', q1, q2, q3, q4, q5, q6⟩ := H.out
  exact ⟨i0, j0, P', X', Y', S', rfl, rfl, h1, h2, hij, q1, q2, q3, q4, q5, q6, grown_refl _ _⟩
 case round =>
  clear H h1 h2 hij
  obtain ⟨i, j, P', X', Y', S', rfl, rfl, h1, h2, hij, q1, q2, q3, q4, q5, q6, hg⟩ := hrel
  obtain ⟨a', ha'⟩ : ∃ a', a' = P'.length := ⟨_, rfl⟩
  have hwa : IntKind.i64.wrap ((m : Int) - (i : Int)) = (a' : Int) := by rw [show (m : Int) - (i : Int) = (a' : Int) by omega]; exact IntWalk.i64_in _ (by omega)
  have HG := Lib.hid hg
  have HQ := Lib.hid q6
  have HT := Lib.hid q5
  have HM := Lib.hid (And.intro q1 (And.intro q2 (And.intro q3 (And.intro q4 ha'))))
  clear hg q6 q5 q1 q2 q3 q4 ha'
  obtain ⟨hX', hY', hPX, hmY, hPa⟩ := HM.out
  rw [hX'] at hPX
  rw [hY'] at hmY
  have HLX := Lib.hid hX'
  have HLY := Lib.hid hY'
  have HPX := Lib.hid hPX
  have HPA := Lib.hid hPa
  clear hX' hY' hPX hPa HM
  rcases Nat.lt_trichotomy i j with hlt | heq | hgt
  ·obtain ⟨d, hd⟩ : ∃ d, j = d + i := ⟨j - i, by omega⟩
   have hne : (i : Int) ≠ (j : Int) := by omega
   have hng : ¬ (j : Int) < (i : Int) := by omega
   have hwm : IntKind.i64.wrap ((m : Int) + (j : Int)) = (m : Int) + (j : Int) := IntWalk.i64_in _ (by omega)
   have hwb : IntKind.i64.wrap ((m : Int) + (j : Int) - (i : Int)) = ((m + d : Nat) : Int) := by rw [show (m : Int) + (j : Int) - (i : Int) = ((m + d : Nat) : Int) by omega]; exact IntWalk.i64_in _ (by omega)
   have hwd : IntKind.i64.wrap ((j : Int) - (i : Int)) = (d : Int) := by rw [show (j : Int) - (i : Int) = (d : Int) by omega]; exact IntWalk.i64_in _ (by omega)
   have hl : Lies B g n cap (P' ++ X' ++ Y'.take d ++ Y'.drop d ++ S') wr := by rw [List.append_assoc (P' ++ X'), List.take_append_drop]; exact HQ.out
   have hc := swapRange_c B g n cap a' (m + d) i P' X' (Y'.take d) (Y'.drop d) S' HPA.out.symm HLX.out (by rw [List.length_drop, HLY.out]; omega) (by rw [List.length_take, HLY.out]; have := HPX.out; have := HPA.out; omega) hn cmp wr hl
   have HC := Lib.hid hc
   clear hc hl
   have HD := Lib.hid hd
   clear hd
   go_wp2_with fail
   refine HC.out.mono ?_
   rintro e w1 ⟨rfl, hl1, hg1⟩
   have HL1 := Lib.hid hl1
   have HG1 := Lib.hid (grown_trans HG.out hg1)
   clear hl1 hg1
   go_wp2_with fail
   go_roundw
   case rel =>
    have hd := HD.out
    refine ⟨i, d, P', Y'.drop d, Y'.take d, X' ++ S', rfl, by go_num, h1, by omega, by omega, by rw [List.length_drop, HLY.out]; omega, by rw [List.length_take, HLY.out]; omega, ?_, ?_, ?_, ?_, HG1.out⟩
    ·rw [List.length_drop, HLY.out]; have := HPX.out; omega
    ·rw [List.length_take, HLY.out]; omega
    ·rw [← HT.out]
     conv => rhs; rw [← List.take_append_drop d Y']
     simp
    ·have := HL1.out
     rw [← List.append_assoc]
     exact this
   case measure => simp only [Go.RowKit.intOf]; have := HD.out; omega
  ·subst heq
   go_wp2_with fail
   have hl : Lies B g n cap (P' ++ X' ++ [] ++ Y' ++ S') wr := by rw [List.append_nil]; exact HQ.out
   refine (swapRange_c B g n cap a' m i P' X' [] Y' S' HPA.out.symm HLX.out HLY.out (by have := HPX.out; have := HPA.out; simp; omega) hn cmp wr hl).mono ?_
   rintro e w1 ⟨rfl, hl1, hg1⟩
   have HL1 := Lib.hid hl1
   have HG1 := Lib.hid (grown_trans HG.out hg1)
   clear hl1 hg1
   go_wp2_with fail
   go_end0
   refine ⟨rfl, ?_, HG1.out⟩
   have := HL1.out
   rw [List.append_nil, HT.out] at this
   exact this
  ·obtain ⟨d, hd⟩ : ∃ d, i = d + j := ⟨i - j, by omega⟩
   have hne : (i : Int) ≠ (j : Int) := by omega
   have hgi : (j : Int) < (i : Int) := by omega
   have hwd : IntKind.i64.wrap ((i : Int) - (j : Int)) = (d : Int) := by rw [show (i : Int) - (j : Int) = (d : Int) by omega]; exact IntWalk.i64_in _ (by omega)
   have hl : Lies B g n cap (P' ++ X'.take j ++ X'.drop j ++ Y' ++ S') wr := by rw [List.append_assoc P', List.take_append_drop]; exact HQ.out
   have hc := swapRange_c B g n cap a' m j P' (X'.take j) (X'.drop j) Y' S' HPA.out.symm (by rw [List.length_take, HLX.out]; omega) HLY.out (by rw [List.length_drop, HLX.out]; have := HPX.out; have := HPA.out; omega) hn cmp wr hl
   have HC := Lib.hid hc
   clear hc hl
   have HD := Lib.hid hd
   clear hd
   go_wp2_with fail
   refine HC.out.mono ?_
   rintro e w1 ⟨rfl, hl1, hg1⟩
   have HL1 := Lib.hid hl1
   have HG1 := Lib.hid (grown_trans HG.out hg1)
   clear hl1 hg1
   go_wp2_with fail
   go_roundw
   case rel =>
    have hd := HD.out
    refine ⟨d, j, P' ++ Y', X'.drop j, X'.take j, S', by go_num, rfl, by omega, h2, by omega, by rw [List.length_drop, HLX.out]; omega, by rw [List.length_take, HLX.out]; omega, ?_, ?_, ?_, HL1.out, HG1.out⟩
    ·rw [List.length_append, List.length_drop, HLX.out, HLY.out]; have := HPX.out; omega
    ·rw [List.length_take, HLX.out]; omega
    ·rw [← HT.out]
     conv => rhs; rw [← List.take_append_drop j X']
     simp
   case measure => simp only [Go.RowKit.intOf]; have := HD.out; omega
end Go.Proofs.YthhckdjagnlgpaaGreat
end
section
namespace Go.Proofs.YthhckdjagnlgpaaGreat
open Go.RowKit Go.IntWalk
open Fl
set_option maxRecDepth 100000
attribute [local go_sem] Oper.semAt_some
/-- where an insertion stands: all but the row at j are in order, and it is not behind those that follow -/
structure Ins (L : List Rw) (a i j : Nat) : Prop where
 off : ∀ (p q : Nat) (x y : Rw), a ≤ p → p < q → q ≤ i → p ≠ j → q ≠ j → L[p]? = some x → L[q]? = some y → ch x ≤ ch y
 at_ : ∀ (q : Nat) (x y : Rw), j < q → q ≤ i → L[j]? = some x → L[q]? = some y → ch x ≤ ch y
theorem ins_start {L : List Rw} {a i : Nat} (h : AscT L a i) : Ins L a i i :=
 ⟨fun p q x y h1 h2 h3 _ h5 hx hy => h p q x y h1 h2 (by omega) hx hy, fun q x y h1 h2 => by omega⟩
theorem ins_first {L : List Rw} {a i : Nat} (h : Ins L a i a) : AscT L a (i + 1) := fun p q x y h1 h2 h3 hx hy => by
 by_cases hp : p = a
 ·subst hp
  exact h.at_ q x y h2 (by omega) hx hy
 ·exact h.off p q x y h1 h2 (by omega) hp (by omega) hx hy
theorem ins_stop {L : List Rw} {a i k : Nat} {x y : Rw} (h : Ins L a i (k + 1)) (hk : a ≤ k) (hx : L[k + 1]? = some x) (hy : L[k]? = some y) (hc : ch y ≤ ch x) : AscT L a (i + 1) := fun p q u v h1 h2 h3 hu hv => by
 by_cases hp : p = k + 1
 ·subst hp
  exact h.at_ q u v h2 (by omega) hu hv
 ·by_cases hq : q = k + 1
  ·subst hq
   rw [hx] at hv; cases hv
   by_cases hpk : p = k
   ·subst hpk; rw [hy] at hu; cases hu; exact hc
   ·have := h.off p k u y h1 (by omega) (by omega) hp (by omega) hu hy
    omega
  ·exact h.off p q u v h1 h2 (by omega) hp hq hu hv
theorem ins_step {L : List Rw} {a i k : Nat} {x y : Rw} (h : Ins L a i (k + 1)) (hak : a ≤ k) (hki : k + 1 ≤ i) (hx : L[k + 1]? = some x) (hy : L[k]? = some y) (hc : ch x < ch y) : Ins ((L.set (k + 1) y).set k x) a i k := by
 have hkl := (List.getElem?_eq_some_iff.1 hx).1
 have e0 : ((L.set (k + 1) y).set k x)[k]? = some x := by rw [List.getElem?_set_self (by simp; omega)]
 have e1 : ((L.set (k + 1) y).set k x)[k + 1]? = some y := by rw [List.getElem?_set_ne (by omega), List.getElem?_set_self (by omega)]
 have e2 : ∀ j, j ≠ k → j ≠ k + 1 → ((L.set (k + 1) y).set k x)[j]? = L[j]? := fun j h1 h2 => by rw [List.getElem?_set_ne (by omega), List.getElem?_set_ne (by omega)]
 refine ⟨fun p q u v h1 h2 h3 h4 h5 hu hv => ?_, fun q u v h1 h2 hu hv => ?_⟩
 ·by_cases hq : q = k + 1
  ·subst hq
   rw [e1] at hv; cases hv
   rw [e2 p h4 (by omega)] at hu
   exact h.off p k u y h1 (by omega) (by omega) (by omega) (by omega) hu hy
  ·by_cases hp : p = k + 1
   ·subst hp
    rw [e1] at hu; cases hu
    rw [e2 q h5 hq] at hv
    exact h.off k q y v (by omega) (by omega) h3 (by omega) hq hy hv
   ·rw [e2 p h4 hp] at hu
    rw [e2 q h5 hq] at hv
    exact h.off p q u v h1 h2 h3 hp hq hu hv
 ·rw [e0] at hu; cases hu
  by_cases hq : q = k + 1
  ·subst hq
   rw [e1] at hv; cases hv
   omega
  ·rw [e2 q (by omega) hq] at hv
   exact h.at_ q x v (by omega) h2 hx hv
theorem Chg.back {L : List Rw} {a b k : Nat} {x y : Rw} (hx : L[k + 1]? = some x) (hy : L[k]? = some y) (hne : ch y ≠ ch x) (ha : a ≤ k) (hb : k + 1 < b) : Chg L ((L.set (k + 1) y).set k x) a b := by
 rw [List.set_comm _ _ (by omega)]
 exact Chg.adj hy hx hne ha hb
abbrev cmpV : Value := .func (.func 131) #[] #[]
/-- the class of worlds of a comparison -/
def LiesIn (w : World) (B g n cap : Nat) (L : List Rw) (W : World) : Prop := Lies B g n cap L W ∧ w.grownBy W (some g)
theorem LiesIn.keep {w W W' : World} {B g n cap : Nat} {L : List Rw} (h : LiesIn w B g n cap L W) (k : Below W.heap.size W W') : LiesIn w B g n cap L W' := ⟨h.1.keep k, grown_of_below h.2 k⟩
theorem LiesIn.drew {w W : World} {B g n cap : Nat} {L : List Rw} (h : LiesIn w B g n cap L W) : LiesIn w B g n cap L W.drew := ⟨h.1, grown_drew h.2⟩
set_option maxHeartbeats 8000000 in
theorem insertion_c (B g n cap a b : Nat) (L : List Rw) (hab : a ≤ b) (hb : b ≤ n) (hn : n ≤ 100000) (w : World) (h : Lies B g n cap L w) :
  Calls Tryz.prog 216 #[.slice (some ⟨g, 0, none⟩) n cap, .int .i64 (a : Int), .int .i64 (b : Int), cmpV] w fun e w' =>
   e = .returned (.tuple #[]) ∧ ∃ L', Chg L L' a b ∧ AscT L' a b ∧ Lies B g n cap L' w' ∧ w.grownBy w' (some g) := by
 have hwa : IntKind.i64.wrap ((a : Int) + 1) = (a : Int) + 1 := IntWalk.i64_in _ (by omega)
 have H := Lib.hid h
 clear h
 unfold cmpV
 go_enter Tryz.func216, Tryz.ntmps216
 go_wp2_with fail
 clear hwa
 go_loopw [8] (fun vi wr => ∃ (i : Nat) (Li : List Rw), vi = .int .i64 (i : Int) ∧ a + 1 ≤ i ∧ i ≤ b + 1 ∧ Chg L Li a b ∧ AscT Li a i ∧ Lies B g n cap Li wr ∧ w.grownBy wr (some g)) (fun vi _ => b + 1 - (Go.RowKit.intOf vi).toNat)
 case atStart => exact ⟨a + 1, L, by go_num, Nat.le_refl _, by omega, Chg.refl _ _ _, AscT.few (by omega), H.out, grown_refl _ _⟩
 case round =>
  obtain ⟨i, Li, rfl, hai, hib, hchg, hasc, hl, hg⟩ := hrel
  have HC := Lib.hid hchg
  have HA := Lib.hid hasc
  have HL := Lib.hid hl
  have HG := Lib.hid hg
  clear hchg hasc hl hg
  by_cases hlt : i < b
  ·have hlti : (i : Int) < (b : Int) := by omega
   go_wp2_with fail
   go_loopw [9] (fun vj wr2 => ∃ (j : Nat) (Lj : List Rw), vj = .int .i64 (j : Int) ∧ a ≤ j ∧ j ≤ i ∧ Chg L Lj a b ∧ Ins Lj a i j ∧ Lies B g n cap Lj wr2 ∧ w.grownBy wr2 (some g)) (fun vj _ => (Go.RowKit.intOf vj).toNat)
   case atStart => exact ⟨i, Li, rfl, by omega, Nat.le_refl _, HC.out, ins_start HA.out, HL.out, HG.out⟩
   case round =>
    rename World => wr2
    clear HC HA HL HG
    obtain ⟨j, Lj, rfl, haj, hji, hchg, hins, hl, hg⟩ := hrel
    have HC := Lib.hid hchg
    have HI := Lib.hid hins
    have hlen := hl.len
    have HLG := Lib.hid (show LiesIn w B g n cap Lj wr2 from ⟨hl, hg⟩)
    clear hchg hins hl hg
    obtain ⟨x, hx⟩ := some_at (show j < Lj.length by omega)
    by_cases hja : a < j
    ·obtain ⟨k, hk⟩ : ∃ k, j = k + 1 := ⟨j - 1, by omega⟩
     obtain ⟨y, hy⟩ := some_at (show k < Lj.length by omega)
     have hd : decide (a < j) = true := decide_eq_true hja
     have hwk : IntKind.i64.wrap ((j : Int) - 1) = (k : Int) := by rw [show (j : Int) - 1 = (k : Int) by omega]; exact IntWalk.i64_in _ (by omega)
     have hj0 : (0 : Int) ≤ (j : Int) := by omega
     have hjn : (j : Int) < (n : Int) := by omega
     have hk0 : (0 : Int) ≤ (k : Int) := by omega
     have hkn : (k : Int) < (n : Int) := by omega
     have hkn' : k < n := by omega
     have hjn' : j < n := by omega
     have hajz : (a : Int) < (j : Int) := by omega
     have HK := Lib.hid hk
     have HX := Lib.hid hx
     have HY := Lib.hid hy
     clear hk hx hy hlen
     by_cases hcmp : ch x < ch y
     ·have hv : ci (ch x) (ch y) = -1 := by unfold ci; rw [if_pos hcmp]
      have HCM := Lib.hid hcmp
      have HV := Lib.hid hv
      clear hcmp hv
      go_wp2_with fail
      refine quiet_held (LiesIn w B g n cap Lj) (by kernel_rfl) (by kernel_rfl) HLG.out.drew ?_
      repeat (first
       | go_big_quiet_skip
       | (simp only [hd])
       | (simp only [hwk])
       | (go_big_quiet_want; go_big_quiet_op; go_big_quiet_on)
       | (go_big_quiet_want; apply Exists.intro; refine ⟨fun wq hq => ?_, ?_⟩; (focus (obtain ⟨⟨d0, d1, d2, d3⟩, -⟩ := hq.1.facts HX.out; obtain ⟨⟨g0, g1, g2, g3⟩, -⟩ := hq.1.facts HY.out; unfold Oper.quietAt; go_simp; all_goals (first | rfl | (refine (ordF_c x y _).mono ?_; rintro e w5 ⟨rfl, hbn⟩; rw [HV.out]; exact ⟨rfl, hq.keep hbn⟩)))); simp only [Act.put, List.setIfInBounds_toArray, List.set_cons_zero, List.set_cons_succ]; go_big_quiet_on))
      refine wpQuiet_nil ?_
      intro wq hq
      have HQ := Lib.hid hq
      obtain ⟨⟨d0, d1, d2, d3⟩, hfz⟩ := hq.1.facts HX.out
      obtain ⟨⟨g0, g1, g2, g3⟩, -⟩ := hq.1.facts HY.out
      have f0 := hfz (j * 4)
      have f1 := hfz (j * 4 + 1)
      have f2 := hfz (j * 4 + 2)
      have f3 := hfz (j * 4 + 3)
      have k0 := hfz (k * 4)
      have k1 := hfz (k * 4 + 1)
      have k2 := hfz (k * 4 + 2)
      have k3 := hfz (k * 4 + 3)
      have hkj : k < j := by have := HK.out; omega
      have HL2 := Lib.hid ((hq.1.set y hjn').set x hkn').drew
      have HG2 := Lib.hid (grown_drew (grown_set4 (k := k) (grown_set4 (k := j) hq.2 (.int .i64 (ch y)) (.int .i64 (pa y)) (.string (ba (nm y))) (.float .f64 (rk y))) (.int .i64 (ch x)) (.int .i64 (pa x)) (.string (ba (nm x))) (.float .f64 (rk x))))
      clear hq hfz
      go_wp2_with fail
      go_region
      all_goals
       go_wp2_with fail
       go_roundw
       case rel =>
        refine ⟨k, (Lj.set j y).set k x, by have := HK.out; go_num, by have := HK.out; omega, by have := HK.out; omega, ?_, ?_, HL2.out, HG2.out⟩
        ·have e := HK.out
         have hx := HX.out
         rw [e] at hx ⊢
         exact HC.out.trans (Chg.back hx HY.out (by have := HCM.out; omega) (by omega) (by omega))
        ·have e := HK.out
         have hx := HX.out
         have hi := HI.out
         rw [e] at hx hi ⊢
         exact ins_step hi (by omega) (by omega) hx HY.out HCM.out
       case measure => simp only [Go.RowKit.intOf]; have := HK.out; omega
     ·obtain ⟨d, hd0, hv⟩ : ∃ d : Int, 0 ≤ d ∧ ci (ch x) (ch y) = d := ⟨_, by unfold ci; rw [if_neg hcmp]; split <;> omega, rfl⟩
      have HCM := Lib.hid hcmp
      have HV := Lib.hid hv
      have hdd : decide (d < 0) = false := decide_eq_false (by omega)
      clear hcmp hv
      go_wp2_with fail
      refine quiet_held (LiesIn w B g n cap Lj) (by kernel_rfl) (by kernel_rfl) HLG.out.drew ?_
      repeat (first
       | go_big_quiet_skip
       | (simp only [hd])
       | (simp only [hwk])
       | (simp only [hdd])
       | (go_big_quiet_want; go_big_quiet_op; go_big_quiet_on)
       | (go_big_quiet_want; apply Exists.intro; refine ⟨fun wq hq => ?_, ?_⟩; (focus (obtain ⟨⟨d0, d1, d2, d3⟩, -⟩ := hq.1.facts HX.out; obtain ⟨⟨g0, g1, g2, g3⟩, -⟩ := hq.1.facts HY.out; unfold Oper.quietAt; go_simp; all_goals (first | rfl | (refine (ordF_c x y _).mono ?_; rintro e w5 ⟨rfl, hbn⟩; rw [HV.out]; exact ⟨rfl, hq.keep hbn⟩)))); simp only [Act.put, List.setIfInBounds_toArray, List.set_cons_zero, List.set_cons_succ]; go_big_quiet_on))
      refine wpQuiet_nil ?_
      intro wq hq
      have HQ := Lib.hid hq
      clear hq
      go_wp2_with fail
      go_roundw
      case rel =>
       refine ⟨i + 1, Lj, by go_num, by omega, by omega, HC.out, ?_, HQ.out.1, HQ.out.2⟩
       have e := HK.out
       have hx := HX.out
       have hi := HI.out
       rw [e] at hx hi
       exact ins_stop hi (by omega) hx HY.out (by have := HCM.out; omega)
      case measure => simp only [Go.RowKit.intOf]; omega
    ·have hja2 : j = a := by omega
     have hd : decide (a < j) = false := decide_eq_false hja
     have HJ := Lib.hid hja2
     clear hja2 hx hlen
     go_wp2_with fail
     refine quiet_held (LiesIn w B g n cap Lj) (by kernel_rfl) (by kernel_rfl) HLG.out.drew ?_
     repeat (first
      | go_big_quiet_skip
      | (simp only [hd])
      | (go_big_quiet_want; go_big_quiet_op; go_big_quiet_on)
      | (go_big_quiet_want; apply Exists.intro; refine ⟨fun wq hq => ?_, ?_⟩; (focus (unfold Oper.quietAt; go_simp; all_goals rfl)); simp only [Act.put, List.setIfInBounds_toArray, List.set_cons_zero, List.set_cons_succ]; go_big_quiet_on))
     refine wpQuiet_nil ?_
     intro wq hq
     have HQ := Lib.hid hq
     clear hq
     go_wp2_with fail
     go_roundw
     case rel =>
      refine ⟨i + 1, Lj, by go_num, by omega, by omega, HC.out, ?_, HQ.out.1, HQ.out.2⟩
      have hi := HI.out
      rw [HJ.out] at hi
      exact ins_first hi
     case measure => simp only [Go.RowKit.intOf]; omega
  ·have hlti : ¬ (i : Int) < (b : Int) := by omega
   go_wp2_with fail
   go_end0
   exact ⟨rfl, Li, HC.out, HA.out.sub (Nat.le_refl _) (by omega), HL.out, HG.out⟩
end Go.Proofs.YthhckdjagnlgpaaGreat
end
