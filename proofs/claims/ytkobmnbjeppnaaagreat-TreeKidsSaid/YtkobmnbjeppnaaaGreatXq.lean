/-
 Kids in two stretches that are merged where they lie: sort's symMerge_func, where one stretch is one row.
-/
import Derived.Test.YtkobmnbjeppnaaaGreatXp
import Derived.WalkKit
namespace Go.Proofs.YtkobmnbjeppnaaaGreat
open Go.RowKit Go.IntWalk
namespace Kk
open Fl
set_option maxRecDepth 100000
attribute [local go_sem] Oper.semAt_some
def SymEnd (w : World) (B g n cap kb a b : Nat) (L : List Rw) (e : Ending) (w' : World) : Prop :=
 e = .returned (.tuple #[]) ∧ ∃ L', Chg L L' a b ∧ AscT L' a b ∧ KIn w B g n cap kb L' w'
set_option maxHeartbeats 8000000 in
theorem sym1_c (B g n cap kb a m b : Nat) (L : List Rw) (hma : m = a + 1) (hmb : m < b) (hb : b ≤ n) (hn : n ≤ 100000) (hs : AscT L m b) (w : World) (h : KIn w B g n cap kb L w) :
  Calls Tryz.prog 105 #[.agg #[.func (.func 53) #[] #[.pointer (some ⟨kb, 0, none⟩)], .func (.func 103) #[] #[.slice (some ⟨g, 0, none⟩) n cap, typeHandle Tryz.prog 28]], .int .i64 (a : Int), .int .i64 (m : Int), .int .i64 (b : Int)] w (SymEnd w B g n cap kb a b L) := by
 have hw0 : IntKind.i64.wrap ((m : Int) - (a : Int)) = 1 := by rw [show (m : Int) - (a : Int) = 1 by omega]; exact IntWalk.i64_in _ (by omega)
 have HSA := Lib.hid hs
 have hlen := h.lies.len
 obtain ⟨x, hx⟩ := some_at (show a < L.length by omega)
 obtain ⟨W0, hW0⟩ : ∃ W0, W0 = w.alloc (.cells #[.func (.func 53) #[] #[.pointer (some ⟨kb, 0, none⟩)], .func (.func 103) #[] #[.slice (some ⟨g, 0, none⟩) n cap, typeHandle Tryz.prog 28]] 93) := ⟨_, rfl⟩
 have K0 := h.alloc (.cells #[.func (.func 53) #[] #[.pointer (some ⟨kb, 0, none⟩)], .func (.func 103) #[] #[.slice (some ⟨g, 0, none⟩) n cap, typeHandle Tryz.prog 28]] 93)
 rw [← hW0] at K0
 have hG0 : w.grownBy W0 (some g) := by rw [hW0]; exact grown_alloc _ _ _
 have hbox : ∀ M W, KIn W0 B g n cap kb M W → W.cell? ⟨w.heap.size, 0, none⟩ = some (.func (.func 53) #[] #[.pointer (some ⟨kb, 0, none⟩)]) ∧ W.cell? ⟨w.heap.size, 1, none⟩ = some (.func (.func 103) #[] #[.slice (some ⟨g, 0, none⟩) n cap, typeHandle Tryz.prog 28]) := fun M W hK => by
  have hz : w.heap.size < W0.heap.size := by rw [hW0]; simp
  have hne : w.heap.size ≠ g := by have := h.glt; omega
  rw [hK.cell hz hne, hK.cell hz hne, hW0]
  exact ⟨by simp, by simp⟩
 have H0 := Lib.hid K0
 have HG0 := Lib.hid hG0
 have HBOX := Lib.hid hbox
 have HW0 := Lib.hid hW0
 clear K0 hG0 hbox hW0
 have HX := Lib.hid hx
 have HLEN := Lib.hid hlen
 have HMA := Lib.hid hma
 have ham : a < m := by omega
 clear h hs hx hlen hma
 go_enter Tryz.func105, Tryz.ntmps105
 go_wp2_with fail
 rw [← HW0.out]
 clear hw0
 go_loopw [8, 9] (fun u v wr => ∃ i j : Nat, u = .int .i64 (i : Int) ∧ v = .int .i64 (j : Int) ∧ m ≤ i ∧ i ≤ j ∧ j ≤ b ∧ (∀ p y, m ≤ p → p < i → L[p]? = some y → kk y < kk x) ∧ (∀ p y, j ≤ p → p < b → L[p]? = some y → kk x ≤ kk y) ∧ KIn W0 B g n cap kb L wr) (fun u v _ => (Go.RowKit.intOf v).toNat - (Go.RowKit.intOf u).toNat)
 case atStart => exact ⟨m, b, rfl, rfl, Nat.le_refl _, by omega, Nat.le_refl _, fun p y h1 h2 => by omega, fun p y h1 h2 => by omega, H0.out⟩
 case round =>
  clear H0
  obtain ⟨i, j, rfl, rfl, hmi, hij, hjb, hlo, hhi, hlg⟩ := hrel
  have HLO := Lib.hid hlo
  have HHI := Lib.hid hhi
  have HLG := Lib.hid hlg
  obtain ⟨hc0, hc1⟩ := HBOX.out _ _ hlg
  clear hlo hhi hlg
  by_cases hlt : i < j
  ·have hji : j ≤ n := by omega
   obtain ⟨h, hh⟩ : ∃ h : Nat, h = (i + j) / 2 := ⟨_, rfl⟩
   have hw1 : IntKind.i64.wrap ((i : Int) + (j : Int)) = (i : Int) + (j : Int) := IntWalk.i64_in _ (by omega)
   have hhf : ((i : Int) + (j : Int)) / 2 = (h : Int) := by omega
   have hhi2 : i ≤ h := by omega
   have hhj : h < j := by omega
   obtain ⟨y, hy⟩ := some_at (show h < L.length by rw [HLEN.out]; omega)
   have HY := Lib.hid hy
   have HH := Lib.hid hh
   clear hh hy
   by_cases hcmp : kk y < kk x
   ·skip
    have HCM := Lib.hid hcmp
    clear hcmp
    have HLE := Lib.hid (kless true HLG.out HY.out HX.out (decide_eq_true HCM.out))
    go_wp2_with fail
    refine HLE.out.mono ?_
    rintro e w5 ⟨rfl, hbn⟩
    have HQ := Lib.hid (HLG.out.keep hbn)
    clear hbn HLE
    go_wp2_with fail
    go_roundw
    case rel =>
     refine ⟨h + 1, j, by go_num, rfl, by omega, by omega, hjb, fun p z h1 h2 hz => ?_, HHI.out, HQ.out⟩
     have := HSA.out.le h1 (show p ≤ h by omega) (by omega) hz HY.out
     have := HCM.out
     omega
    case measure => simp only [Go.RowKit.intOf]; omega
   ·skip
    have HCM := Lib.hid hcmp
    clear hcmp
    have HLE := Lib.hid (kless false HLG.out HY.out HX.out (decide_eq_false HCM.out))
    go_wp2_with fail
    refine HLE.out.mono ?_
    rintro e w5 ⟨rfl, hbn⟩
    have HQ := Lib.hid (HLG.out.keep hbn)
    clear hbn HLE
    go_wp2_with fail
    go_roundw
    case rel =>
     refine ⟨i, h, rfl, rfl, hmi, by omega, by omega, HLO.out, fun p z h1 h2 hz => ?_, HQ.out⟩
     have := HSA.out.le (by omega) (show h ≤ p by omega) h2 HY.out hz
     have := HCM.out
     omega
    case measure => simp only [Go.RowKit.intOf]; omega
  ·have hij2 : j = i := by omega
   have HIJ := Lib.hid hij2
   have hnlt : ¬ (i : Int) < (j : Int) := by omega
   clear hij2
   go_wp2_with fail
   have hwi : IntKind.i64.wrap ((i : Int) - 1) = (i : Int) - 1 := IntWalk.i64_in _ (by omega)
   go_loopw [11] (fun u wr2 => ∃ (k : Nat) (M : List Rw), u = .int .i64 (k : Int) ∧ a ≤ k ∧ k + 1 ≤ i ∧ MovR L M a b k x ∧ KIn W0 B g n cap kb M wr2) (fun u _ => i - (Go.RowKit.intOf u).toNat)
   case atStart => exact ⟨a, L, rfl, Nat.le_refl _, by omega, movR_start HX.out, HLG.out⟩
   case round =>
    rename World => wr2
    clear HLG hc0 hc1
    obtain ⟨k, M, rfl, hak, hki, hmov, hlg⟩ := hrel
    have HM := Lib.hid hmov
    have HLG := Lib.hid hlg
    obtain ⟨hc0, hc1⟩ := HBOX.out _ _ hlg
    clear hmov hlg
    by_cases hlt2 : k + 1 < i
    ·obtain ⟨k1, hk1⟩ : ∃ k1, k1 = k + 1 := ⟨_, rfl⟩
     have hltz : (k : Int) < (i : Int) - 1 := by omega
     have hwk : IntKind.i64.wrap ((k : Int) + 1) = (k1 : Int) := by rw [show (k : Int) + 1 = (k1 : Int) by omega]; exact IntWalk.i64_in _ (by omega)
     obtain ⟨y, hy⟩ := some_at (show k1 < L.length by rw [HLEN.out]; omega)
     have hym : M[k1]? = some y := by rw [HM.out.hi _ (by omega)]; exact hy
     have hcm := HLO.out k1 y (by have := HMA.out; omega) (by omega) hy
     have HY2 := Lib.hid hy
     have HCM2 := Lib.hid hcm
     have HK1 := Lib.hid hk1
     have hsw := kswap HLG.out HM.out.at_ hym
     have HK2 := Lib.hid (HLG.out.swap HM.out.at_ hym)
     clear hk1 hy hym hcm
     go_wp2_with fail
     go_roundw
     case rel =>
      refine ⟨k1, (M.set k y).set k1 x, by have := HK1.out; go_num, by have := HK1.out; omega, by have := HK1.out; omega, ?_, HK2.out⟩
      have e := HK1.out
      have hy := HY2.out
      rw [e] at hy ⊢
      exact movR_step HM.out hak (by omega) hy (by have := HCM2.out; omega)
     case measure => simp only [Go.RowKit.intOf]; have := HK1.out; omega
    ·have hltz : ¬ (k : Int) < (i : Int) - 1 := by omega
     have hki2 : k + 1 = i := by omega
     have HKI := Lib.hid hki2
     clear hki2
     go_wp2_with fail
     go_end0
     have e := HKI.out
     have ha1 := HMA.out
     exact ⟨rfl, M, HM.out.chg, movR_end HM.out hak (by omega) (by rw [← ha1]; exact HSA.out) (fun p y h1 h2 hy => HLO.out p y (by omega) (by omega) hy) (fun p y h1 h2 hy => HHI.out p y (by have := HIJ.out; omega) h2 hy), HLG.out.since HG0.out⟩
set_option maxHeartbeats 8000000 in
theorem sym2_c (B g n cap kb a m b : Nat) (L : List Rw) (ham : a + 1 < m) (hbm : b = m + 1) (hb : b ≤ n) (hn : n ≤ 100000) (hs : AscT L a m) (w : World) (h : KIn w B g n cap kb L w) :
  Calls Tryz.prog 105 #[.agg #[.func (.func 53) #[] #[.pointer (some ⟨kb, 0, none⟩)], .func (.func 103) #[] #[.slice (some ⟨g, 0, none⟩) n cap, typeHandle Tryz.prog 28]], .int .i64 (a : Int), .int .i64 (m : Int), .int .i64 (b : Int)] w (SymEnd w B g n cap kb a b L) := by
 obtain ⟨dm, hdm⟩ : ∃ dm, m = a + dm := ⟨m - a, by omega⟩
 have hw0 : IntKind.i64.wrap ((m : Int) - (a : Int)) = (dm : Int) := by rw [show (m : Int) - (a : Int) = (dm : Int) by omega]; exact IntWalk.i64_in _ (by omega)
 have hdn : ((dm : Int) == 1) = false := by rw [beq_eq_false_iff_ne]; omega
 have hw2 : IntKind.i64.wrap ((b : Int) - (m : Int)) = 1 := by rw [show (b : Int) - (m : Int) = 1 by omega]; exact IntWalk.i64_in _ (by omega)
 have HSA := Lib.hid hs
 have hlen := h.lies.len
 obtain ⟨y, hy⟩ := some_at (show m < L.length by omega)
 obtain ⟨W0, hW0⟩ : ∃ W0, W0 = w.alloc (.cells #[.func (.func 53) #[] #[.pointer (some ⟨kb, 0, none⟩)], .func (.func 103) #[] #[.slice (some ⟨g, 0, none⟩) n cap, typeHandle Tryz.prog 28]] 93) := ⟨_, rfl⟩
 have K0 := h.alloc (.cells #[.func (.func 53) #[] #[.pointer (some ⟨kb, 0, none⟩)], .func (.func 103) #[] #[.slice (some ⟨g, 0, none⟩) n cap, typeHandle Tryz.prog 28]] 93)
 rw [← hW0] at K0
 have hG0 : w.grownBy W0 (some g) := by rw [hW0]; exact grown_alloc _ _ _
 have hbox : ∀ M W, KIn W0 B g n cap kb M W → W.cell? ⟨w.heap.size, 0, none⟩ = some (.func (.func 53) #[] #[.pointer (some ⟨kb, 0, none⟩)]) ∧ W.cell? ⟨w.heap.size, 1, none⟩ = some (.func (.func 103) #[] #[.slice (some ⟨g, 0, none⟩) n cap, typeHandle Tryz.prog 28]) := fun M W hK => by
  have hz : w.heap.size < W0.heap.size := by rw [hW0]; simp
  have hne : w.heap.size ≠ g := by have := h.glt; omega
  rw [hK.cell hz hne, hK.cell hz hne, hW0]
  exact ⟨by simp, by simp⟩
 have H0 := Lib.hid K0
 have HG0 := Lib.hid hG0
 have HBOX := Lib.hid hbox
 have HW0 := Lib.hid hW0
 clear K0 hG0 hbox hW0
 have HY := Lib.hid hy
 have HLEN := Lib.hid hlen
 have HBM := Lib.hid hbm
 have hmb : m < b := by omega
 clear h hs hy hlen hbm hdm
 go_enter Tryz.func105, Tryz.ntmps105
 go_wp2_with fail
 rw [← HW0.out]
 clear hw0 hw2 hdn
 go_loopw [12, 13] (fun u v wr => ∃ i j : Nat, u = .int .i64 (i : Int) ∧ v = .int .i64 (j : Int) ∧ a ≤ i ∧ i ≤ j ∧ j ≤ m ∧ (∀ p x, a ≤ p → p < i → L[p]? = some x → kk x ≤ kk y) ∧ (∀ p x, j ≤ p → p < m → L[p]? = some x → kk y < kk x) ∧ KIn W0 B g n cap kb L wr) (fun u v _ => (Go.RowKit.intOf v).toNat - (Go.RowKit.intOf u).toNat)
 case atStart => exact ⟨a, m, rfl, rfl, Nat.le_refl _, by omega, Nat.le_refl _, fun p y h1 h2 => by omega, fun p y h1 h2 => by omega, H0.out⟩
 case round =>
  clear H0
  obtain ⟨i, j, rfl, rfl, hai, hij, hjm, hlo, hhi, hlg⟩ := hrel
  have HLO := Lib.hid hlo
  have HHI := Lib.hid hhi
  have HLG := Lib.hid hlg
  obtain ⟨hc0, hc1⟩ := HBOX.out _ _ hlg
  clear hlo hhi hlg
  by_cases hlt : i < j
  ·have hji : j ≤ n := by omega
   obtain ⟨h, hh⟩ : ∃ h : Nat, h = (i + j) / 2 := ⟨_, rfl⟩
   have hw1 : IntKind.i64.wrap ((i : Int) + (j : Int)) = (i : Int) + (j : Int) := IntWalk.i64_in _ (by omega)
   have hhf : ((i : Int) + (j : Int)) / 2 = (h : Int) := by omega
   have hhi2 : i ≤ h := by omega
   have hhj : h < j := by omega
   obtain ⟨x, hx⟩ := some_at (show h < L.length by rw [HLEN.out]; omega)
   have HX := Lib.hid hx
   have HH := Lib.hid hh
   clear hh hx
   by_cases hcmp : kk y < kk x
   ·skip
    have HCM := Lib.hid hcmp
    clear hcmp
    have HLE := Lib.hid (kless true HLG.out HY.out HX.out (decide_eq_true HCM.out))
    go_wp2_with fail
    refine HLE.out.mono ?_
    rintro e w5 ⟨rfl, hbn⟩
    have HQ := Lib.hid (HLG.out.keep hbn)
    clear hbn HLE
    go_wp2_with fail
    go_roundw
    case rel =>
     refine ⟨i, h, rfl, rfl, hai, by omega, by omega, HLO.out, fun p z h1 h2 hz => ?_, HQ.out⟩
     have := HSA.out.le (by omega) (show h ≤ p by omega) h2 HX.out hz
     have := HCM.out
     omega
    case measure => simp only [Go.RowKit.intOf]; omega
   ·skip
    have HCM := Lib.hid hcmp
    clear hcmp
    have HLE := Lib.hid (kless false HLG.out HY.out HX.out (decide_eq_false HCM.out))
    go_wp2_with fail
    refine HLE.out.mono ?_
    rintro e w5 ⟨rfl, hbn⟩
    have HQ := Lib.hid (HLG.out.keep hbn)
    clear hbn HLE
    go_wp2_with fail
    go_roundw
    case rel =>
     refine ⟨h + 1, j, by go_num, rfl, by omega, by omega, hjm, fun p z h1 h2 hz => ?_, HHI.out, HQ.out⟩
     have := HSA.out.le h1 (show p ≤ h by omega) (by omega) hz HX.out
     have := HCM.out
     omega
    case measure => simp only [Go.RowKit.intOf]; omega
  ·have hij2 : j = i := by omega
   have HIJ := Lib.hid hij2
   have hnlt : ¬ (i : Int) < (j : Int) := by omega
   clear hij2
   go_wp2_with fail
   go_loopw [15] (fun u wr2 => ∃ (k : Nat) (M : List Rw), u = .int .i64 (k : Int) ∧ i ≤ k ∧ k ≤ m ∧ MovL L M a m k y ∧ KIn W0 B g n cap kb M wr2) (fun u _ => (Go.RowKit.intOf u).toNat)
   case atStart => exact ⟨m, L, rfl, by omega, Nat.le_refl _, movL_start HY.out, HLG.out⟩
   case round =>
    rename World => wr2
    clear HLG hc0 hc1
    obtain ⟨k, M, rfl, hik, hkm, hmov, hlg⟩ := hrel
    have HM := Lib.hid hmov
    have HLG := Lib.hid hlg
    obtain ⟨hc0, hc1⟩ := HBOX.out _ _ hlg
    clear hmov hlg
    by_cases hlt2 : i < k
    ·obtain ⟨k1, hk1⟩ : ∃ k1, k = k1 + 1 := ⟨k - 1, by omega⟩
     have hltz : (i : Int) < (k : Int) := by omega
     have hwk : IntKind.i64.wrap ((k : Int) - 1) = (k1 : Int) := by rw [show (k : Int) - 1 = (k1 : Int) by omega]; exact IntWalk.i64_in _ (by omega)
     obtain ⟨x, hx⟩ := some_at (show k1 < L.length by rw [HLEN.out]; omega)
     have hxm : M[k1]? = some x := by rw [HM.out.lo _ (by omega)]; exact hx
     have hcm := HHI.out k1 x (by have := HIJ.out; omega) (by omega) hx
     have HX2 := Lib.hid hx
     have HCM2 := Lib.hid hcm
     have HK1 := Lib.hid hk1
     have hsw := kswap HLG.out HM.out.at_ hxm
     have HK2 := Lib.hid (HLG.out.swap HM.out.at_ hxm)
     clear hk1 hx hxm hcm
     go_wp2_with fail
     go_roundw
     case rel =>
      refine ⟨k1, (M.set k x).set k1 y, by have := HK1.out; go_num, by have := HK1.out; omega, by have := HK1.out; omega, ?_, HK2.out⟩
      have e := HK1.out
      have hm := HM.out
      rw [e] at hm ⊢
      exact movL_step hm (by omega) (by omega) HX2.out (by have := HCM2.out; omega)
     case measure => simp only [Go.RowKit.intOf]; have := HK1.out; omega
    ·have hltz : ¬ (i : Int) < (k : Int) := by omega
     have hki2 : k = i := by omega
     have HKI := Lib.hid hki2
     clear hki2
     go_wp2_with fail
     go_end0
     have e := HKI.out
     have hb1 := HBM.out
     rw [hb1]
     have hm := HM.out
     rw [e] at hm
     exact ⟨rfl, M, hm.chg, movL_end hm (by omega) HSA.out (fun p x h1 h2 hx => HLO.out p x h1 h2 hx) (fun p x h1 h2 hx => HHI.out p x (by have := HIJ.out; omega) h2 hx) hai, HLG.out.since HG0.out⟩
end Kk
end Go.Proofs.YtkobmnbjeppnaaaGreat
