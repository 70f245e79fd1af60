/-
 Rows that are put in order by insertion: slices.insertionSortCmpFunc by children.
-/
import Derived.Test.YtkobmnbjeppnaaaGreatSb
namespace Go.Proofs.YtkobmnbjeppnaaaGreat
open Go.RowKit Go.IntWalk
open Fl
set_option maxRecDepth 100000
attribute [local go_sem] Oper.semAt_some
/-- where an insertion stands: all but the row at j are in order, and it is not behind those that follow -/
structure Ins (L : List Rw) (a i j : Nat) : Prop where
 off : ∀ (p q : Nat) (x y : Rw), a ≤ p → p < q → q ≤ i → p ≠ j → q ≠ j → L[p]? = some x → L[q]? = some y → ch x ≤ ch y
 at_ : ∀ (q : Nat) (x y : Rw), j < q → q ≤ i → L[j]? = some x → L[q]? = some y → ch x ≤ ch y
theorem ins_start {L : List Rw} {a i : Nat} (h : AscT L a i) : Ins L a i i :=
 ⟨fun p q x y h1 h2 h3 _ h5 hx hy => h p q x y h1 h2 (by omega) hx hy, fun q x y h1 h2 => by omega⟩
theorem ins_first {L : List Rw} {a i : Nat} (h : Ins L a i a) : AscT L a (i + 1) := fun p q x y h1 h2 h3 hx hy => by
 by_cases hp : p = a
 ·subst hp
  exact h.at_ q x y h2 (by omega) hx hy
 ·exact h.off p q x y h1 h2 (by omega) hp (by omega) hx hy
theorem ins_stop {L : List Rw} {a i k : Nat} {x y : Rw} (h : Ins L a i (k + 1)) (hk : a ≤ k) (hx : L[k + 1]? = some x) (hy : L[k]? = some y) (hc : ch y ≤ ch x) : AscT L a (i + 1) := fun p q u v h1 h2 h3 hu hv => by
 by_cases hp : p = k + 1
 ·subst hp
  exact h.at_ q u v h2 (by omega) hu hv
 ·by_cases hq : q = k + 1
  ·subst hq
   rw [hx] at hv; cases hv
   by_cases hpk : p = k
   ·subst hpk; rw [hy] at hu; cases hu; exact hc
   ·have := h.off p k u y h1 (by omega) (by omega) hp (by omega) hu hy
    omega
  ·exact h.off p q u v h1 h2 (by omega) hp hq hu hv
theorem ins_step {L : List Rw} {a i k : Nat} {x y : Rw} (h : Ins L a i (k + 1)) (hak : a ≤ k) (hki : k + 1 ≤ i) (hx : L[k + 1]? = some x) (hy : L[k]? = some y) (hc : ch x < ch y) : Ins ((L.set (k + 1) y).set k x) a i k := by
 have hkl := (List.getElem?_eq_some_iff.1 hx).1
 have e0 : ((L.set (k + 1) y).set k x)[k]? = some x := by rw [List.getElem?_set_self (by simp; omega)]
 have e1 : ((L.set (k + 1) y).set k x)[k + 1]? = some y := by rw [List.getElem?_set_ne (by omega), List.getElem?_set_self (by omega)]
 have e2 : ∀ j, j ≠ k → j ≠ k + 1 → ((L.set (k + 1) y).set k x)[j]? = L[j]? := fun j h1 h2 => by rw [List.getElem?_set_ne (by omega), List.getElem?_set_ne (by omega)]
 refine ⟨fun p q u v h1 h2 h3 h4 h5 hu hv => ?_, fun q u v h1 h2 hu hv => ?_⟩
 ·by_cases hq : q = k + 1
  ·subst hq
   rw [e1] at hv; cases hv
   rw [e2 p h4 (by omega)] at hu
   exact h.off p k u y h1 (by omega) (by omega) (by omega) (by omega) hu hy
  ·by_cases hp : p = k + 1
   ·subst hp
    rw [e1] at hu; cases hu
    rw [e2 q h5 hq] at hv
    exact h.off k q y v (by omega) (by omega) h3 (by omega) hq hy hv
   ·rw [e2 p h4 hp] at hu
    rw [e2 q h5 hq] at hv
    exact h.off p q u v h1 h2 h3 hp hq hu hv
 ·rw [e0] at hu; cases hu
  by_cases hq : q = k + 1
  ·subst hq
   rw [e1] at hv; cases hv
   omega
  ·rw [e2 q (by omega) hq] at hv
   exact h.at_ q x v (by omega) h2 hx hv
theorem Chg.back {L : List Rw} {a b k : Nat} {x y : Rw} (hx : L[k + 1]? = some x) (hy : L[k]? = some y) (hne : ch y ≠ ch x) (ha : a ≤ k) (hb : k + 1 < b) : Chg L ((L.set (k + 1) y).set k x) a b := by
 rw [List.set_comm _ _ (by omega)]
 exact Chg.adj hy hx hne ha hb
abbrev cmpV : Value := .func (.func 64) #[] #[]
/-- the class of worlds of a comparison -/
def LiesIn (w : World) (B g n cap : Nat) (L : List Rw) (W : World) : Prop := Lies B g n cap L W ∧ w.grownBy W (some g)
theorem LiesIn.keep {w W W' : World} {B g n cap : Nat} {L : List Rw} (h : LiesIn w B g n cap L W) (k : Below W.heap.size W W') : LiesIn w B g n cap L W' := ⟨h.1.keep k, grown_of_below h.2 k⟩
theorem LiesIn.drew {w W : World} {B g n cap : Nat} {L : List Rw} (h : LiesIn w B g n cap L W) : LiesIn w B g n cap L W.drew := ⟨h.1, grown_drew h.2⟩
set_option maxHeartbeats 8000000 in
theorem insertion_c (B g n cap a b : Nat) (L : List Rw) (hab : a ≤ b) (hb : b ≤ n) (hn : n ≤ 100000) (w : World) (h : Lies B g n cap L w) :
  Calls Tryz.prog 126 #[.slice (some ⟨g, 0, none⟩) n cap, .int .i64 (a : Int), .int .i64 (b : Int), cmpV] w fun e w' =>
   e = .returned (.tuple #[]) ∧ ∃ L', Chg L L' a b ∧ AscT L' a b ∧ Lies B g n cap L' w' ∧ w.grownBy w' (some g) := by
 have hwa : IntKind.i64.wrap ((a : Int) + 1) = (a : Int) + 1 := IntWalk.i64_in _ (by omega)
 have H := Lib.hid h
 clear h
 unfold cmpV
 go_enter Tryz.func126, Tryz.ntmps126
 go_wp2_with fail
 clear hwa
 go_loopw [8] (fun vi wr => ∃ (i : Nat) (Li : List Rw), vi = .int .i64 (i : Int) ∧ a + 1 ≤ i ∧ i ≤ b + 1 ∧ Chg L Li a b ∧ AscT Li a i ∧ Lies B g n cap Li wr ∧ w.grownBy wr (some g)) (fun vi _ => b + 1 - (Go.RowKit.intOf vi).toNat)
 case atStart => exact ⟨a + 1, L, by go_num, Nat.le_refl _, by omega, Chg.refl _ _ _, AscT.few (by omega), H.out, grown_refl _ _⟩
 case round =>
  obtain ⟨i, Li, rfl, hai, hib, hchg, hasc, hl, hg⟩ := hrel
  have HC := Lib.hid hchg
  have HA := Lib.hid hasc
  have HL := Lib.hid hl
  have HG := Lib.hid hg
  clear hchg hasc hl hg
  by_cases hlt : i < b
  ·have hlti : (i : Int) < (b : Int) := by omega
   go_wp2_with fail
   go_loopw [9] (fun vj wr2 => ∃ (j : Nat) (Lj : List Rw), vj = .int .i64 (j : Int) ∧ a ≤ j ∧ j ≤ i ∧ Chg L Lj a b ∧ Ins Lj a i j ∧ Lies B g n cap Lj wr2 ∧ w.grownBy wr2 (some g)) (fun vj _ => (Go.RowKit.intOf vj).toNat)
   case atStart => exact ⟨i, Li, rfl, by omega, Nat.le_refl _, HC.out, ins_start HA.out, HL.out, HG.out⟩
   case round =>
    rename World => wr2
    clear HC HA HL HG
    obtain ⟨j, Lj, rfl, haj, hji, hchg, hins, hl, hg⟩ := hrel
    have HC := Lib.hid hchg
    have HI := Lib.hid hins
    have hlen := hl.len
    have HLG := Lib.hid (show LiesIn w B g n cap Lj wr2 from ⟨hl, hg⟩)
    clear hchg hins hl hg
    obtain ⟨x, hx⟩ := some_at (show j < Lj.length by omega)
    by_cases hja : a < j
    ·obtain ⟨k, hk⟩ : ∃ k, j = k + 1 := ⟨j - 1, by omega⟩
     obtain ⟨y, hy⟩ := some_at (show k < Lj.length by omega)
     have hd : decide (a < j) = true := decide_eq_true hja
     have hwk : IntKind.i64.wrap ((j : Int) - 1) = (k : Int) := by rw [show (j : Int) - 1 = (k : Int) by omega]; exact IntWalk.i64_in _ (by omega)
     have hj0 : (0 : Int) ≤ (j : Int) := by omega
     have hjn : (j : Int) < (n : Int) := by omega
     have hk0 : (0 : Int) ≤ (k : Int) := by omega
     have hkn : (k : Int) < (n : Int) := by omega
     have hkn' : k < n := by omega
     have hjn' : j < n := by omega
     have hajz : (a : Int) < (j : Int) := by omega
     have HK := Lib.hid hk
     have HX := Lib.hid hx
     have HY := Lib.hid hy
     clear hk hx hy hlen
     by_cases hcmp : ch x < ch y
     ·have hv : ci (ch x) (ch y) = -1 := by unfold ci; rw [if_pos hcmp]
      have HCM := Lib.hid hcmp
      have HV := Lib.hid hv
      clear hcmp hv
      go_wp2_with fail
      refine quiet_held (LiesIn w B g n cap Lj) (by kernel_rfl) (by kernel_rfl) HLG.out.drew ?_
      repeat (first
       | go_big_quiet_skip
       | (simp only [hd])
       | (simp only [hwk])
       | (go_big_quiet_want; go_big_quiet_op; go_big_quiet_on)
       | (go_big_quiet_want; apply Exists.intro; refine ⟨fun wq hq => ?_, ?_⟩; (focus (obtain ⟨⟨d0, d1, d2, d3⟩, -⟩ := hq.1.facts HX.out; obtain ⟨⟨g0, g1, g2, g3⟩, -⟩ := hq.1.facts HY.out; unfold Oper.quietAt; go_simp; all_goals (first | rfl | (refine (ordF_c x y _).mono ?_; rintro e w5 ⟨rfl, hbn⟩; rw [HV.out]; exact ⟨rfl, hq.keep hbn⟩)))); simp only [Act.put, List.setIfInBounds_toArray, List.set_cons_zero, List.set_cons_succ]; go_big_quiet_on))
      refine wpQuiet_nil ?_
      intro wq hq
      have HQ := Lib.hid hq
      obtain ⟨⟨d0, d1, d2, d3⟩, hfz⟩ := hq.1.facts HX.out
      obtain ⟨⟨g0, g1, g2, g3⟩, -⟩ := hq.1.facts HY.out
      have f0 := hfz (j * 4)
      have f1 := hfz (j * 4 + 1)
      have f2 := hfz (j * 4 + 2)
      have f3 := hfz (j * 4 + 3)
      have k0 := hfz (k * 4)
      have k1 := hfz (k * 4 + 1)
      have k2 := hfz (k * 4 + 2)
      have k3 := hfz (k * 4 + 3)
      have hkj : k < j := by have := HK.out; omega
      have HL2 := Lib.hid ((hq.1.set y hjn').set x hkn').drew
      have HG2 := Lib.hid (grown_drew (grown_set4 (k := k) (grown_set4 (k := j) hq.2 (.int .i64 (ch y)) (.int .i64 (pa y)) (.string (ba (nm y))) (.float .f64 (rk y))) (.int .i64 (ch x)) (.int .i64 (pa x)) (.string (ba (nm x))) (.float .f64 (rk x))))
      clear hq hfz
      go_wp2_with fail
      go_region
      all_goals
       go_wp2_with fail
       go_roundw
       case rel =>
        refine ⟨k, (Lj.set j y).set k x, by have := HK.out; go_num, by have := HK.out; omega, by have := HK.out; omega, ?_, ?_, HL2.out, HG2.out⟩
        ·have e := HK.out
         have hx := HX.out
         rw [e] at hx ⊢
         exact HC.out.trans (Chg.back hx HY.out (by have := HCM.out; omega) (by omega) (by omega))
        ·have e := HK.out
         have hx := HX.out
         have hi := HI.out
         rw [e] at hx hi ⊢
         exact ins_step hi (by omega) (by omega) hx HY.out HCM.out
       case measure => simp only [Go.RowKit.intOf]; have := HK.out; omega
     ·obtain ⟨d, hd0, hv⟩ : ∃ d : Int, 0 ≤ d ∧ ci (ch x) (ch y) = d := ⟨_, by unfold ci; rw [if_neg hcmp]; split <;> omega, rfl⟩
      have HCM := Lib.hid hcmp
      have HV := Lib.hid hv
      have hdd : decide (d < 0) = false := decide_eq_false (by omega)
      clear hcmp hv
      go_wp2_with fail
      refine quiet_held (LiesIn w B g n cap Lj) (by kernel_rfl) (by kernel_rfl) HLG.out.drew ?_
      repeat (first
       | go_big_quiet_skip
       | (simp only [hd])
       | (simp only [hwk])
       | (simp only [hdd])
       | (go_big_quiet_want; go_big_quiet_op; go_big_quiet_on)
       | (go_big_quiet_want; apply Exists.intro; refine ⟨fun wq hq => ?_, ?_⟩; (focus (obtain ⟨⟨d0, d1, d2, d3⟩, -⟩ := hq.1.facts HX.out; obtain ⟨⟨g0, g1, g2, g3⟩, -⟩ := hq.1.facts HY.out; unfold Oper.quietAt; go_simp; all_goals (first | rfl | (refine (ordF_c x y _).mono ?_; rintro e w5 ⟨rfl, hbn⟩; rw [HV.out]; exact ⟨rfl, hq.keep hbn⟩)))); simp only [Act.put, List.setIfInBounds_toArray, List.set_cons_zero, List.set_cons_succ]; go_big_quiet_on))
      refine wpQuiet_nil ?_
      intro wq hq
      have HQ := Lib.hid hq
      clear hq
      go_wp2_with fail
      go_roundw
      case rel =>
       refine ⟨i + 1, Lj, by go_num, by omega, by omega, HC.out, ?_, HQ.out.1, HQ.out.2⟩
       have e := HK.out
       have hx := HX.out
       have hi := HI.out
       rw [e] at hx hi
       exact ins_stop hi (by omega) hx HY.out (by have := HCM.out; omega)
      case measure => simp only [Go.RowKit.intOf]; omega
    ·have hja2 : j = a := by omega
     have hd : decide (a < j) = false := decide_eq_false hja
     have HJ := Lib.hid hja2
     clear hja2 hx hlen
     go_wp2_with fail
     refine quiet_held (LiesIn w B g n cap Lj) (by kernel_rfl) (by kernel_rfl) HLG.out.drew ?_
     repeat (first
      | go_big_quiet_skip
      | (simp only [hd])
      | (go_big_quiet_want; go_big_quiet_op; go_big_quiet_on)
      | (go_big_quiet_want; apply Exists.intro; refine ⟨fun wq hq => ?_, ?_⟩; (focus (unfold Oper.quietAt; go_simp; all_goals rfl)); simp only [Act.put, List.setIfInBounds_toArray, List.set_cons_zero, List.set_cons_succ]; go_big_quiet_on))
     refine wpQuiet_nil ?_
     intro wq hq
     have HQ := Lib.hid hq
     clear hq
     go_wp2_with fail
     go_roundw
     case rel =>
      refine ⟨i + 1, Lj, by go_num, by omega, by omega, HC.out, ?_, HQ.out.1, HQ.out.2⟩
      have hi := HI.out
      rw [HJ.out] at hi
      exact ins_first hi
     case measure => simp only [Go.RowKit.intOf]; omega
  ·have hlti : ¬ (i : Int) < (b : Int) := by omega
   go_wp2_with fail
   go_end0
   exact ⟨rfl, Li, HC.out, HA.out.sub (Nat.le_refl _) (by omega), HL.out, HG.out⟩
end Go.Proofs.YtkobmnbjeppnaaaGreat
