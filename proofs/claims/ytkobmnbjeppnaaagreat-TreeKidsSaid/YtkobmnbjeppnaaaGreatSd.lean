/-
 Rows in two stretches that are merged where they lie: slices.symMergeCmpFunc, where one stretch is one row.
-/
import Derived.Test.YtkobmnbjeppnaaaGreatSc
namespace Go.Proofs.YtkobmnbjeppnaaaGreat
open Go.RowKit Go.IntWalk
open Fl
set_option maxRecDepth 100000
attribute [local go_sem] Oper.semAt_some
/-- the row of a was moved up to k -/
structure MovR (L M : List Rw) (a b k : Nat) (x : Rw) : Prop where
 at_ : M[k]? = some x
 lo : ∀ p, a ≤ p → p < k → M[p]? = L[p + 1]?
 hi : ∀ p, k < p → M[p]? = L[p]?
 chg : Chg L M a b
theorem movR_start {L : List Rw} {a b : Nat} {x : Rw} (h : L[a]? = some x) : MovR L L a b a x := ⟨h, fun p h1 h2 => by omega, fun _ _ => rfl, Chg.refl _ _ _⟩
theorem movR_step {L M : List Rw} {a b k : Nat} {x y : Rw} (h : MovR L M a b k x) (ha : a ≤ k) (hk : k + 1 < b) (hy : L[k + 1]? = some y) (hne : ch x ≠ ch y) : MovR L ((M.set k y).set (k + 1) x) a b (k + 1) x := by
 have hy2 : M[k + 1]? = some y := by rw [h.hi _ (by omega)]; exact hy
 have hl := (List.getElem?_eq_some_iff.1 hy2).1
 refine ⟨by rw [List.getElem?_set_self (by simp; omega)], fun p h1 h2 => ?_, fun p h1 => ?_, h.chg.trans (Chg.adj h.at_ hy2 hne ha hk)⟩
 ·rw [List.getElem?_set_ne (by omega)]
  by_cases e : p = k
  ·subst e; rw [List.getElem?_set_self (by omega), hy]
  ·rw [List.getElem?_set_ne (by omega)]; exact h.lo p h1 (by omega)
 ·rw [List.getElem?_set_ne (by omega), List.getElem?_set_ne (by omega)]; exact h.hi p (by omega)
theorem movR_end {L M : List Rw} {a b k : Nat} {x : Rw} (h : MovR L M a b k x) (ha : a ≤ k) (hk : k < b) (hs : AscT L (a + 1) b) (hlo : ∀ p y, a + 1 ≤ p → p ≤ k → L[p]? = some y → ch y < ch x) (hhi : ∀ p y, k + 1 ≤ p → p < b → L[p]? = some y → ch x ≤ ch y) : AscT M a b := fun p q u v h1 h2 h3 hu hv => by
 by_cases hp : p < k
 ·rw [h.lo p h1 hp] at hu
  by_cases hq : q < k
  ·rw [h.lo q (by omega) hq] at hv
   exact hs _ _ u v (by omega) (by omega) (by omega) hu hv
  ·by_cases hqk : q = k
   ·subst hqk
    rw [h.at_] at hv; cases hv
    have := hlo _ u (by omega) (by omega) hu
    omega
   ·rw [h.hi q (by omega)] at hv
    exact hs _ _ u v (by omega) (by omega) h3 hu hv
 ·by_cases hpk : p = k
  ·subst hpk
   rw [h.at_] at hu; cases hu
   rw [h.hi q (by omega)] at hv
   exact hhi q v (by omega) h3 hv
  ·rw [h.hi p (by omega)] at hu
   rw [h.hi q (by omega)] at hv
   exact hs _ _ u v (by omega) h2 h3 hu hv
/-- the row of m was moved down to k -/
structure MovL (L M : List Rw) (a m k : Nat) (y : Rw) : Prop where
 at_ : M[k]? = some y
 lo : ∀ p, p < k → M[p]? = L[p]?
 hi : ∀ p, k < p → p ≤ m → M[p]? = L[p - 1]?
 chg : Chg L M a (m + 1)
theorem movL_start {L : List Rw} {a m : Nat} {y : Rw} (h : L[m]? = some y) : MovL L L a m m y := ⟨h, fun _ _ => rfl, fun p h1 h2 => by omega, Chg.refl _ _ _⟩
theorem movL_step {L M : List Rw} {a m k : Nat} {x y : Rw} (h : MovL L M a m (k + 1) y) (ha : a ≤ k) (hk : k + 1 ≤ m) (hx : L[k]? = some x) (hne : ch x ≠ ch y) : MovL L ((M.set (k + 1) x).set k y) a m k y := by
 have hx2 : M[k]? = some x := by rw [h.lo _ (by omega)]; exact hx
 have hl := (List.getElem?_eq_some_iff.1 h.at_).1
 refine ⟨by rw [List.getElem?_set_self (by simp; omega)], fun p h1 => ?_, fun p h1 h2 => ?_, h.chg.trans ?_⟩
 ·rw [List.getElem?_set_ne (by omega), List.getElem?_set_ne (by omega)]; exact h.lo p (by omega)
 ·rw [List.getElem?_set_ne (by omega)]
  by_cases e : p = k + 1
  ·subst e; rw [List.getElem?_set_self (by omega), Nat.add_sub_cancel, hx]
  ·rw [List.getElem?_set_ne (by omega)]; exact h.hi p (by omega) h2
 ·rw [List.set_comm _ _ (by omega)]
  exact Chg.adj hx2 h.at_ hne ha (by omega)
theorem movL_end {L M : List Rw} {a m k : Nat} {y : Rw} (h : MovL L M a m k y) (hk : k ≤ m) (hs : AscT L a m) (hlo : ∀ p x, a ≤ p → p < k → L[p]? = some x → ch x ≤ ch y) (hhi : ∀ p x, k ≤ p → p < m → L[p]? = some x → ch y < ch x) (hak : a ≤ k) : AscT M a (m + 1) := fun p q u v h1 h2 h3 hu hv => by
 by_cases hp : p < k
 ·rw [h.lo p hp] at hu
  by_cases hq : q < k
  ·rw [h.lo q hq] at hv
   exact hs _ _ u v h1 h2 (by omega) hu hv
  ·by_cases hqk : q = k
   ·subst hqk
    rw [h.at_] at hv; cases hv
    exact hlo p u h1 hp hu
   ·rw [h.hi q (by omega) (by omega)] at hv
    by_cases e : p = q - 1
    ·rw [e, hv] at hu; cases hu; exact Int.le_refl _
    ·exact hs _ _ u v h1 (by omega) (by omega) hu hv
 ·by_cases hpk : p = k
  ·subst hpk
   rw [h.at_] at hu; cases hu
   rw [h.hi q (by omega) (by omega)] at hv
   have := hhi (q - 1) v (by omega) (by omega) hv
   omega
  ·rw [h.hi p (by omega) (by omega)] at hu
   rw [h.hi q (by omega) (by omega)] at hv
   exact hs _ _ u v (by omega) (by omega) (by omega) hu hv
def SymEnd (w : World) (B g n cap a b : Nat) (L : List Rw) (e : Ending) (w' : World) : Prop :=
 e = .returned (.tuple #[]) ∧ ∃ L', Chg L L' a b ∧ AscT L' a b ∧ Lies B g n cap L' w' ∧ w.grownBy w' (some g)
set_option maxHeartbeats 8000000 in
theorem sym1_c (B g n cap a m b : Nat) (L : List Rw) (hma : m = a + 1) (hmb : m < b) (hb : b ≤ n) (hn : n ≤ 100000) (hs : AscT L m b) (w : World) (h : Lies B g n cap L w) :
  Calls Tryz.prog 127 #[.slice (some ⟨g, 0, none⟩) n cap, .int .i64 (a : Int), .int .i64 (m : Int), .int .i64 (b : Int), cmpV] w (SymEnd w B g n cap a b L) := by
 have hw0 : IntKind.i64.wrap ((m : Int) - (a : Int)) = 1 := by rw [show (m : Int) - (a : Int) = 1 by omega]; exact IntWalk.i64_in _ (by omega)
 have H := Lib.hid h
 have HSA := Lib.hid hs
 have hlen := h.len
 obtain ⟨x, hx⟩ := some_at (show a < L.length by omega)
 have HX := Lib.hid hx
 have HLEN := Lib.hid hlen
 have HMA := Lib.hid hma
 have ham : a < m := by omega
 clear h hs hx hlen hma
 unfold cmpV
 go_enter Tryz.func127, Tryz.ntmps127
 go_wp2_with fail
 clear hw0
 go_loopw [10, 11] (fun u v wr => ∃ i j : Nat, u = .int .i64 (i : Int) ∧ v = .int .i64 (j : Int) ∧ m ≤ i ∧ i ≤ j ∧ j ≤ b ∧ (∀ p y, m ≤ p → p < i → L[p]? = some y → ch y < ch x) ∧ (∀ p y, j ≤ p → p < b → L[p]? = some y → ch x ≤ ch y) ∧ LiesIn w B g n cap L wr) (fun u v _ => (Go.RowKit.intOf v).toNat - (Go.RowKit.intOf u).toNat)
 case atStart => exact ⟨m, b, rfl, rfl, Nat.le_refl _, by omega, Nat.le_refl _, fun p y h1 h2 => by omega, fun p y h1 h2 => by omega, H.out, grown_refl _ _⟩
 case round =>
  obtain ⟨i, j, rfl, rfl, hmi, hij, hjb, hlo, hhi, hlg⟩ := hrel
  have HLO := Lib.hid hlo
  have HHI := Lib.hid hhi
  have HLG := Lib.hid hlg
  clear hlo hhi hlg
  by_cases hlt : i < j
  ·have hji : j ≤ n := by omega
   obtain ⟨h, hh⟩ : ∃ h : Nat, h = (i + j) / 2 := ⟨_, rfl⟩
   have hw1 : IntKind.i64.wrap ((i : Int) + (j : Int)) = (i : Int) + (j : Int) := IntWalk.i64_in _ (by omega)
   have hhf : ((i : Int) + (j : Int)) / 2 = (h : Int) := by omega
   have hhi2 : i ≤ h := by omega
   have hhj : h < j := by omega
   have hh0 : (0 : Int) ≤ (h : Int) := by omega
   have hhl : (h : Int) < (n : Int) := by omega
   have ha0 : (0 : Int) ≤ (a : Int) := by omega
   have han : (a : Int) < (n : Int) := by omega
   obtain ⟨y, hy⟩ := some_at (show h < L.length by rw [HLEN.out]; omega)
   have HY := Lib.hid hy
   have HH := Lib.hid hh
   clear hh hy
   by_cases hcmp : ch y < ch x
   ·skip
    have hv : ci (ch y) (ch x) = -1 := by unfold ci; rw [if_pos hcmp]
    have HCM := Lib.hid hcmp
    have HV := Lib.hid hv
    clear hcmp hv
    go_wp2_with fail
    refine quiet_held (LiesIn w B g n cap L) (by kernel_rfl) (by kernel_rfl) HLG.out.drew ?_
    repeat (first
     | go_big_quiet_skip
     | (go_big_quiet_want; go_big_quiet_op; go_big_quiet_on)
     | (go_big_quiet_want; apply Exists.intro; refine ⟨fun wq hq => ?_, ?_⟩; (focus (obtain ⟨⟨d0, d1, d2, d3⟩, -⟩ := hq.1.facts HY.out; obtain ⟨⟨g0, g1, g2, g3⟩, -⟩ := hq.1.facts HX.out; unfold Oper.quietAt; go_simp; all_goals (first | rfl | (refine (ordF_c y x _).mono ?_; rintro e w5 ⟨rfl, hbn⟩; rw [HV.out]; exact ⟨rfl, hq.keep hbn⟩)))); simp only [Act.put, List.setIfInBounds_toArray, List.set_cons_zero, List.set_cons_succ]; go_big_quiet_on))
    refine wpQuiet_nil ?_
    intro wq hq
    have HQ := Lib.hid hq
    clear hq
    go_wp2_with fail
    go_roundw
    case rel =>
     refine ⟨h + 1, j, by go_num, rfl, by omega, by omega, hjb, fun p z h1 h2 hz => ?_, HHI.out, HQ.out⟩
     have := HSA.out.le h1 (show p ≤ h by omega) (by omega) hz HY.out
     have := HCM.out
     omega
    case measure => simp only [Go.RowKit.intOf]; omega
   ·skip
    obtain ⟨d, hd0, hv⟩ : ∃ d : Int, 0 ≤ d ∧ ci (ch y) (ch x) = d := ⟨_, by unfold ci; rw [if_neg hcmp]; split <;> omega, rfl⟩
    have HCM := Lib.hid hcmp
    have HV := Lib.hid hv
    have hdd : decide (d < 0) = false := decide_eq_false (by omega)
    clear hcmp hv
    go_wp2_with fail
    refine quiet_held (LiesIn w B g n cap L) (by kernel_rfl) (by kernel_rfl) HLG.out.drew ?_
    repeat (first
     | go_big_quiet_skip
     | (simp only [hdd])
     | (go_big_quiet_want; go_big_quiet_op; go_big_quiet_on)
     | (go_big_quiet_want; apply Exists.intro; refine ⟨fun wq hq => ?_, ?_⟩; (focus (obtain ⟨⟨d0, d1, d2, d3⟩, -⟩ := hq.1.facts HY.out; obtain ⟨⟨g0, g1, g2, g3⟩, -⟩ := hq.1.facts HX.out; unfold Oper.quietAt; go_simp; all_goals (first | rfl | (refine (ordF_c y x _).mono ?_; rintro e w5 ⟨rfl, hbn⟩; rw [HV.out]; exact ⟨rfl, hq.keep hbn⟩)))); simp only [Act.put, List.setIfInBounds_toArray, List.set_cons_zero, List.set_cons_succ]; go_big_quiet_on))
    refine wpQuiet_nil ?_
    intro wq hq
    have HQ := Lib.hid hq
    clear hq
    go_wp2_with fail
    go_roundw
    case rel =>
     refine ⟨i, h, rfl, rfl, hmi, by omega, by omega, HLO.out, fun p z h1 h2 hz => ?_, HQ.out⟩
     have := HSA.out.le (by omega) (show h ≤ p by omega) h2 HY.out hz
     have := HCM.out
     omega
    case measure => simp only [Go.RowKit.intOf]; omega
  ·have hij2 : j = i := by omega
   have HIJ := Lib.hid hij2
   have hnlt : ¬ (i : Int) < (j : Int) := by omega
   clear hij2
   go_wp2_with fail
   have hwi : IntKind.i64.wrap ((i : Int) - 1) = (i : Int) - 1 := IntWalk.i64_in _ (by omega)
   go_loopw [13] (fun u wr2 => ∃ (k : Nat) (M : List Rw), u = .int .i64 (k : Int) ∧ a ≤ k ∧ k + 1 ≤ i ∧ MovR L M a b k x ∧ LiesIn w B g n cap M wr2) (fun u _ => i - (Go.RowKit.intOf u).toNat)
   case atStart => exact ⟨a, L, rfl, Nat.le_refl _, by omega, movR_start HX.out, HLG.out⟩
   case round =>
    rename World => wr2
    clear HLG
    obtain ⟨k, M, rfl, hak, hki, hmov, hlg⟩ := hrel
    have HM := Lib.hid hmov
    have HLG := Lib.hid hlg
    clear hmov hlg
    by_cases hlt2 : k + 1 < i
    ·obtain ⟨k1, hk1⟩ : ∃ k1, k1 = k + 1 := ⟨_, rfl⟩
     have hltz : (k : Int) < (i : Int) - 1 := by omega
     have hwk : IntKind.i64.wrap ((k : Int) + 1) = (k1 : Int) := by rw [show (k : Int) + 1 = (k1 : Int) by omega]; exact IntWalk.i64_in _ (by omega)
     obtain ⟨y, hy⟩ := some_at (show k1 < L.length by rw [HLEN.out]; omega)
     have hym : M[k1]? = some y := by rw [HM.out.hi _ (by omega)]; exact hy
     have hcm := HLO.out k1 y (by have := HMA.out; omega) (by omega) hy
     have HY2 := Lib.hid hy
     have HCM2 := Lib.hid hcm
     have HK1 := Lib.hid hk1
     have hkk1 : k < k1 := by omega
     have hk1n' : k1 < n := by omega
     obtain ⟨⟨d0, d1, d2, d3⟩, hfz⟩ := HLG.out.1.facts HM.out.at_
     obtain ⟨⟨g0, g1, g2, g3⟩, -⟩ := HLG.out.1.facts hym
     have f0 := hfz (k * 4)
     have f1 := hfz (k * 4 + 1)
     have f2 := hfz (k * 4 + 2)
     have f3 := hfz (k * 4 + 3)
     have e0 := hfz (k1 * 4)
     have e1 := hfz (k1 * 4 + 1)
     have e2 := hfz (k1 * 4 + 2)
     have e3 := hfz (k1 * 4 + 3)
     have hk0 : (0 : Int) ≤ (k : Int) := by omega
     have hk10 : (0 : Int) ≤ (k1 : Int) := by omega
     have hkn : (k : Int) < (n : Int) := by omega
     have hk1n : (k1 : Int) < (n : Int) := by omega
     have HL2 := Lib.hid ((HLG.out.1.set y (show k < n by omega)).set x (show k1 < n by omega)).drew
     have HG2 := Lib.hid (grown_drew (grown_set4 (k := k1) (grown_set4 (k := k) HLG.out.2 (.int .i64 (ch y)) (.int .i64 (pa y)) (.string (ba (nm y))) (.float .f64 (rk y))) (.int .i64 (ch x)) (.int .i64 (pa x)) (.string (ba (nm x))) (.float .f64 (rk x))))
     clear hfz
     clear hk1
     clear hy hym hcm
     go_wp2_with fail
     go_region
     all_goals
      go_wp2_with fail
      go_roundw
      case rel =>
       refine ⟨k1, (M.set k y).set k1 x, by have := HK1.out; go_num, by have := HK1.out; omega, by have := HK1.out; omega, ?_, HL2.out, HG2.out⟩
       have e := HK1.out
       have hy := HY2.out
       rw [e] at hy ⊢
       exact movR_step HM.out hak (by omega) hy (by have := HCM2.out; omega)
      case measure => simp only [Go.RowKit.intOf]; have := HK1.out; omega
    ·have hltz : ¬ (k : Int) < (i : Int) - 1 := by omega
     have hki2 : k + 1 = i := by omega
     have HKI := Lib.hid hki2
     clear hki2
     go_wp2_with fail
     go_end0
     have e := HKI.out
     have ha1 := HMA.out
     exact ⟨rfl, M, HM.out.chg, movR_end HM.out hak (by omega) (by rw [← ha1]; exact HSA.out) (fun p y h1 h2 hy => HLO.out p y (by omega) (by omega) hy) (fun p y h1 h2 hy => HHI.out p y (by have := HIJ.out; omega) h2 hy), HLG.out.1, HLG.out.2⟩
set_option maxHeartbeats 8000000 in
theorem sym2_c (B g n cap a m b : Nat) (L : List Rw) (ham : a + 1 < m) (hbm : b = m + 1) (hb : b ≤ n) (hn : n ≤ 100000) (hs : AscT L a m) (w : World) (h : Lies B g n cap L w) :
  Calls Tryz.prog 127 #[.slice (some ⟨g, 0, none⟩) n cap, .int .i64 (a : Int), .int .i64 (m : Int), .int .i64 (b : Int), cmpV] w (SymEnd w B g n cap a b L) := by
 obtain ⟨dm, hdm⟩ : ∃ dm, m = a + dm := ⟨m - a, by omega⟩
 have hw0 : IntKind.i64.wrap ((m : Int) - (a : Int)) = (dm : Int) := by rw [show (m : Int) - (a : Int) = (dm : Int) by omega]; exact IntWalk.i64_in _ (by omega)
 have hdn : ((dm : Int) == 1) = false := by rw [beq_eq_false_iff_ne]; omega
 have hw2 : IntKind.i64.wrap ((b : Int) - (m : Int)) = 1 := by rw [show (b : Int) - (m : Int) = 1 by omega]; exact IntWalk.i64_in _ (by omega)
 have H := Lib.hid h
 have HSA := Lib.hid hs
 have hlen := h.len
 obtain ⟨y, hy⟩ := some_at (show m < L.length by omega)
 have HY := Lib.hid hy
 have HLEN := Lib.hid hlen
 have HBM := Lib.hid hbm
 have hmb : m < b := by omega
 clear h hs hy hlen hbm hdm
 unfold cmpV
 go_enter Tryz.func127, Tryz.ntmps127
 go_wp2_with fail
 clear hw0 hw2 hdn
 go_loopw [14, 15] (fun u v wr => ∃ i j : Nat, u = .int .i64 (i : Int) ∧ v = .int .i64 (j : Int) ∧ a ≤ i ∧ i ≤ j ∧ j ≤ m ∧ (∀ p x, a ≤ p → p < i → L[p]? = some x → ch x ≤ ch y) ∧ (∀ p x, j ≤ p → p < m → L[p]? = some x → ch y < ch x) ∧ LiesIn w B g n cap L wr) (fun u v _ => (Go.RowKit.intOf v).toNat - (Go.RowKit.intOf u).toNat)
 case atStart => exact ⟨a, m, rfl, rfl, Nat.le_refl _, by omega, Nat.le_refl _, fun p y h1 h2 => by omega, fun p y h1 h2 => by omega, H.out, grown_refl _ _⟩
 case round =>
  obtain ⟨i, j, rfl, rfl, hai, hij, hjm, hlo, hhi, hlg⟩ := hrel
  have HLO := Lib.hid hlo
  have HHI := Lib.hid hhi
  have HLG := Lib.hid hlg
  clear hlo hhi hlg
  by_cases hlt : i < j
  ·have hji : j ≤ n := by omega
   obtain ⟨h, hh⟩ : ∃ h : Nat, h = (i + j) / 2 := ⟨_, rfl⟩
   have hw1 : IntKind.i64.wrap ((i : Int) + (j : Int)) = (i : Int) + (j : Int) := IntWalk.i64_in _ (by omega)
   have hhf : ((i : Int) + (j : Int)) / 2 = (h : Int) := by omega
   have hhi2 : i ≤ h := by omega
   have hhj : h < j := by omega
   have hh0 : (0 : Int) ≤ (h : Int) := by omega
   have hhl : (h : Int) < (n : Int) := by omega
   have hm0 : (0 : Int) ≤ (m : Int) := by omega
   have hmn : (m : Int) < (n : Int) := by omega
   obtain ⟨x, hx⟩ := some_at (show h < L.length by rw [HLEN.out]; omega)
   have HX := Lib.hid hx
   have HH := Lib.hid hh
   clear hh hx
   by_cases hcmp : ch y < ch x
   ·skip
    have hv : ci (ch y) (ch x) = -1 := by unfold ci; rw [if_pos hcmp]
    have HCM := Lib.hid hcmp
    have HV := Lib.hid hv
    clear hcmp hv
    go_wp2_with fail
    refine quiet_held (LiesIn w B g n cap L) (by kernel_rfl) (by kernel_rfl) HLG.out.drew ?_
    repeat (first
     | go_big_quiet_skip
     | (go_big_quiet_want; go_big_quiet_op; go_big_quiet_on)
     | (go_big_quiet_want; apply Exists.intro; refine ⟨fun wq hq => ?_, ?_⟩; (focus (obtain ⟨⟨d0, d1, d2, d3⟩, -⟩ := hq.1.facts HY.out; obtain ⟨⟨g0, g1, g2, g3⟩, -⟩ := hq.1.facts HX.out; unfold Oper.quietAt; go_simp; all_goals (first | rfl | (refine (ordF_c y x _).mono ?_; rintro e w5 ⟨rfl, hbn⟩; rw [HV.out]; exact ⟨rfl, hq.keep hbn⟩)))); simp only [Act.put, List.setIfInBounds_toArray, List.set_cons_zero, List.set_cons_succ]; go_big_quiet_on))
    refine wpQuiet_nil ?_
    intro wq hq
    have HQ := Lib.hid hq
    clear hq
    go_wp2_with fail
    go_roundw
    case rel =>
     refine ⟨i, h, rfl, rfl, hai, by omega, by omega, HLO.out, fun p z h1 h2 hz => ?_, HQ.out⟩
     have := HSA.out.le (by omega) (show h ≤ p by omega) h2 HX.out hz
     have := HCM.out
     omega
    case measure => simp only [Go.RowKit.intOf]; omega
   ·skip
    obtain ⟨d, hd0, hv⟩ : ∃ d : Int, 0 ≤ d ∧ ci (ch y) (ch x) = d := ⟨_, by unfold ci; rw [if_neg hcmp]; split <;> omega, rfl⟩
    have HCM := Lib.hid hcmp
    have HV := Lib.hid hv
    have hdd : decide (d < 0) = false := decide_eq_false (by omega)
    clear hcmp hv
    go_wp2_with fail
    refine quiet_held (LiesIn w B g n cap L) (by kernel_rfl) (by kernel_rfl) HLG.out.drew ?_
    repeat (first
     | go_big_quiet_skip
     | (simp only [hdd, Bool.not_false])
     | (go_big_quiet_want; go_big_quiet_op; go_big_quiet_on)
     | (go_big_quiet_want; apply Exists.intro; refine ⟨fun wq hq => ?_, ?_⟩; (focus (obtain ⟨⟨d0, d1, d2, d3⟩, -⟩ := hq.1.facts HY.out; obtain ⟨⟨g0, g1, g2, g3⟩, -⟩ := hq.1.facts HX.out; unfold Oper.quietAt; go_simp; all_goals (first | rfl | (refine (ordF_c y x _).mono ?_; rintro e w5 ⟨rfl, hbn⟩; rw [HV.out]; exact ⟨rfl, hq.keep hbn⟩)))); simp only [Act.put, List.setIfInBounds_toArray, List.set_cons_zero, List.set_cons_succ]; go_big_quiet_on))
    refine wpQuiet_nil ?_
    intro wq hq
    have HQ := Lib.hid hq
    clear hq
    go_wp2_with fail
    go_roundw
    case rel =>
     refine ⟨h + 1, j, by go_num, rfl, by omega, by omega, hjm, fun p z h1 h2 hz => ?_, HHI.out, HQ.out⟩
     have := HSA.out.le h1 (show p ≤ h by omega) (by omega) hz HX.out
     have := HCM.out
     omega
    case measure => simp only [Go.RowKit.intOf]; omega
  ·have hij2 : j = i := by omega
   have HIJ := Lib.hid hij2
   have hnlt : ¬ (i : Int) < (j : Int) := by omega
   clear hij2
   go_wp2_with fail
   go_loopw [17] (fun u wr2 => ∃ (k : Nat) (M : List Rw), u = .int .i64 (k : Int) ∧ i ≤ k ∧ k ≤ m ∧ MovL L M a m k y ∧ LiesIn w B g n cap M wr2) (fun u _ => (Go.RowKit.intOf u).toNat)
   case atStart => exact ⟨m, L, rfl, by omega, Nat.le_refl _, movL_start HY.out, HLG.out⟩
   case round =>
    rename World => wr2
    clear HLG
    obtain ⟨k, M, rfl, hik, hkm, hmov, hlg⟩ := hrel
    have HM := Lib.hid hmov
    have HLG := Lib.hid hlg
    clear hmov hlg
    by_cases hlt2 : i < k
    ·obtain ⟨k1, hk1⟩ : ∃ k1, k = k1 + 1 := ⟨k - 1, by omega⟩
     have hltz : (i : Int) < (k : Int) := by omega
     have hwk : IntKind.i64.wrap ((k : Int) - 1) = (k1 : Int) := by rw [show (k : Int) - 1 = (k1 : Int) by omega]; exact IntWalk.i64_in _ (by omega)
     obtain ⟨x, hx⟩ := some_at (show k1 < L.length by rw [HLEN.out]; omega)
     have hxm : M[k1]? = some x := by rw [HM.out.lo _ (by omega)]; exact hx
     have hcm := HHI.out k1 x (by have := HIJ.out; omega) (by omega) hx
     have HX2 := Lib.hid hx
     have HCM2 := Lib.hid hcm
     have HK1 := Lib.hid hk1
     have hkk1 : k1 < k := by omega
     have hkn' : k < n := by omega
     obtain ⟨⟨d0, d1, d2, d3⟩, hfz⟩ := HLG.out.1.facts HM.out.at_
     obtain ⟨⟨g0, g1, g2, g3⟩, -⟩ := HLG.out.1.facts hxm
     have f0 := hfz (k * 4)
     have f1 := hfz (k * 4 + 1)
     have f2 := hfz (k * 4 + 2)
     have f3 := hfz (k * 4 + 3)
     have e0 := hfz (k1 * 4)
     have e1 := hfz (k1 * 4 + 1)
     have e2 := hfz (k1 * 4 + 2)
     have e3 := hfz (k1 * 4 + 3)
     have hk0 : (0 : Int) ≤ (k : Int) := by omega
     have hk10 : (0 : Int) ≤ (k1 : Int) := by omega
     have hkn : (k : Int) < (n : Int) := by omega
     have hk1n : (k1 : Int) < (n : Int) := by omega
     have HL2 := Lib.hid ((HLG.out.1.set x (show k < n by omega)).set y (show k1 < n by omega)).drew
     have HG2 := Lib.hid (grown_drew (grown_set4 (k := k1) (grown_set4 (k := k) HLG.out.2 (.int .i64 (ch x)) (.int .i64 (pa x)) (.string (ba (nm x))) (.float .f64 (rk x))) (.int .i64 (ch y)) (.int .i64 (pa y)) (.string (ba (nm y))) (.float .f64 (rk y))))
     clear hfz
     clear hk1
     clear hx hxm hcm
     go_wp2_with fail
     go_region
     all_goals
      go_wp2_with fail
      go_roundw
      case rel =>
       refine ⟨k1, (M.set k x).set k1 y, by have := HK1.out; go_num, by have := HK1.out; omega, by have := HK1.out; omega, ?_, HL2.out, HG2.out⟩
       have e := HK1.out
       have hm := HM.out
       rw [e] at hm ⊢
       exact movL_step hm (by omega) (by omega) HX2.out (by have := HCM2.out; omega)
      case measure => simp only [Go.RowKit.intOf]; have := HK1.out; omega
    ·have hltz : ¬ (i : Int) < (k : Int) := by omega
     have hki2 : k = i := by omega
     have HKI := Lib.hid hki2
     clear hki2
     go_wp2_with fail
     go_end0
     have e := HKI.out
     have hb1 := HBM.out
     rw [hb1]
     exact ⟨rfl, M, HM.out.chg, movL_end HM.out hkm HSA.out (fun p x h1 h2 hx => HLO.out p x h1 (by omega) hx) (fun p x h1 h2 hx => HHI.out p x (by have := HIJ.out; omega) h2 hx) (by omega), HLG.out.1, HLG.out.2⟩
end Go.Proofs.YtkobmnbjeppnaaaGreat
