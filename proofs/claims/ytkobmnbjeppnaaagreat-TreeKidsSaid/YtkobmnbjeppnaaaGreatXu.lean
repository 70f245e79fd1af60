/-
 Kids put in the stable order: sort's stable_func.
-/
import Derived.Test.YtkobmnbjeppnaaaGreatXr
import Derived.WalkKit
namespace Go.Proofs.YtkobmnbjeppnaaaGreat
open Go.RowKit Go.IntWalk
namespace Kk
open Fl
set_option maxRecDepth 100000
attribute [local go_sem] Oper.semAt_some
/-- what a sort of all kids leaves -/
def StEnd (w : World) (B g n cap kb : Nat) (L : List Rw) (e : Ending) (w' : World) : Prop :=
 e = .returned (.tuple #[]) ∧ ∃ L', Chg L L' 0 n ∧ AscT L' 0 n ∧ KIn w B g n cap kb L' w'
set_option maxHeartbeats 16000000 in
theorem stable_c (B g n cap kb : Nat) (L : List Rw) (hn : n ≤ 100000) (w : World) (h : KIn w B g n cap kb L w) :
  Calls Tryz.prog 72 #[.agg #[.func (.func 53) #[] #[.pointer (some ⟨kb, 0, none⟩)], .func (.func 103) #[] #[.slice (some ⟨g, 0, none⟩) n cap, typeHandle Tryz.prog 28]], .int .i64 (n : Int)] w (StEnd w B g n cap kb L) := by
 obtain ⟨W0, hW0⟩ : ∃ W0, W0 = w.alloc (.cells #[.func (.func 53) #[] #[.pointer (some ⟨kb, 0, none⟩)], .func (.func 103) #[] #[.slice (some ⟨g, 0, none⟩) n cap, typeHandle Tryz.prog 28]] 93) := ⟨_, rfl⟩
 have K0 := h.alloc (.cells #[.func (.func 53) #[] #[.pointer (some ⟨kb, 0, none⟩)], .func (.func 103) #[] #[.slice (some ⟨g, 0, none⟩) n cap, typeHandle Tryz.prog 28]] 93)
 rw [← hW0] at K0
 have hG0 : w.grownBy W0 (some g) := by rw [hW0]; exact grown_alloc _ _ _
 have hbox : ∀ M W, KIn W0 B g n cap kb M W → W.cell? ⟨w.heap.size, 0, none⟩ = some (.func (.func 53) #[] #[.pointer (some ⟨kb, 0, none⟩)]) ∧ W.cell? ⟨w.heap.size, 1, none⟩ = some (.func (.func 103) #[] #[.slice (some ⟨g, 0, none⟩) n cap, typeHandle Tryz.prog 28]) := fun M W hK => by
  have hz : w.heap.size < W0.heap.size := by rw [hW0]; simp
  have hne : w.heap.size ≠ g := by have := h.glt; omega
  rw [hK.cell hz hne, hK.cell hz hne, hW0]
  exact ⟨by simp, by simp⟩
 have H0 := Lib.hid K0
 have HG0 := Lib.hid hG0
 have HBOX := Lib.hid hbox
 have HW0 := Lib.hid hW0
 clear K0 hG0 hbox hW0
 clear h
 go_enter Tryz.func72, Tryz.ntmps72
 go_wp2_with fail
 rw [← HW0.out]
 go_loopw [5, 6] (fun va vb wr => ∃ (a k : Nat) (M : List Rw), va = .int .i64 (a : Int) ∧ vb = .int .i64 ((a + 20 : Nat) : Int) ∧ a ≤ n ∧ Hid (a = k * 20) ∧ Chg L M 0 n ∧ Blk M 20 k ∧ KIn W0 B g n cap kb M wr) (fun va _ _ => n - (Go.RowKit.intOf va).toNat)
 case atStart => exact ⟨0, 0, L, rfl, rfl, Nat.zero_le _, Lib.hid rfl, Chg.refl _ _ _, fun i hi => by omega, H0.out⟩
 case round =>
  clear H0
  obtain ⟨a, k, M, rfl, rfl, han, HK, hchg, hblk, hlies⟩ := hrel
  have HC := Lib.hid hchg
  have HB := Lib.hid hblk
  have HL := Lib.hid hlies
  obtain ⟨hc0, hc1⟩ := HBOX.out _ _ HL.out
  clear hchg hblk hlies
  by_cases hle : a + 20 ≤ n
  ·have hz : ((a + 20 : Nat) : Int) ≤ (n : Int) := by omega
   have hw1 : IntKind.i64.wrap (((a + 20 : Nat) : Int) + 20) = ((a + 20 + 20 : Nat) : Int) := by rw [show ((a + 20 : Nat) : Int) + 20 = ((a + 20 + 20 : Nat) : Int) by omega]; exact IntWalk.i64_in _ (by omega)
   have hin := insertion_c B g n cap kb a (a + 20) M (by omega) hle hn wr HL.out.start
   have HIN := Lib.hid hin
   clear hin
   go_wp2_with fail
   refine HIN.out.mono ?_
   rintro e w1 ⟨rfl, M', hc', ha', hl'⟩
   have HC' := Lib.hid hc'
   have HA' := Lib.hid ha'
   have HL' := Lib.hid (show KIn W0 B g n cap kb M' w1 from hl'.since HL.out.grown)
   clear hc' ha' hl'
   go_wp2_with fail
   go_roundw
   case rel =>
    refine ⟨a + 20, k + 1, M', rfl, rfl, hle, Lib.hid (by have := HK.out; omega), HC.out.trans (HC'.out.wide (Nat.zero_le _) hle), ?_, HL'.out⟩
    have hk := HK.out
    have h1 := HC'.out
    have h2 := HA'.out
    rw [hk] at h1 h2
    exact HB.out.one h1 h2
   case measure => simp only [Go.RowKit.intOf]; omega
  ·have hz : ¬ ((a + 20 : Nat) : Int) ≤ (n : Int) := by omega
   have hin := insertion_c B g n cap kb a n M han (Nat.le_refl _) hn wr HL.out.start
   have HIN := Lib.hid hin
   clear hin
   go_wp2_with fail
   refine HIN.out.mono ?_
   rintro e w1 ⟨rfl, M', hc', ha', hl'⟩
   have hbs : Blks M' 20 := by
    have hk := HK.out
    rw [hk] at hc' ha' hle
    exact HB.out.last hc' ha' (by rw [hl'.lies.len]; exact Nat.le_refl _) (by omega)
   have HBS := Lib.hid hbs
   have HC2 := Lib.hid (HC.out.trans (hc'.wide (Nat.zero_le _) (Nat.le_refl _)))
   have HL2 := Lib.hid (show KIn W0 B g n cap kb M' w1 from hl'.since HL.out.grown)
   clear hc' ha' hl' hbs HC HL HB HK
   go_wp2_with fail
   go_loopw [4] (fun vs w2 => ∃ (s : Nat) (M : List Rw), vs = .int .i64 (s : Int) ∧ 0 < s ∧ s ≤ n + n + 20 ∧ Chg L M 0 n ∧ Blks M s ∧ KIn W0 B g n cap kb M w2) (fun vs _ => n - (Go.RowKit.intOf vs).toNat)
   case atStart => exact ⟨20, M', rfl, by omega, by omega, HC2.out, HBS.out, HL2.out⟩
   case round =>
    rename World => w2
    clear HBS HC2 HL2
    obtain ⟨s, N, rfl, hs0, hs1, hchg, hblk, hlies⟩ := hrel
    have HC := Lib.hid hchg
    have HB := Lib.hid hblk
    have HL := Lib.hid hlies
    obtain ⟨hc0, hc1⟩ := HBOX.out _ _ HL.out
    clear hchg hblk hlies
    by_cases hsn : s < n
    ·have hz : (s : Int) < (n : Int) := by omega
     obtain ⟨t, ht⟩ : ∃ t, t = s + s := ⟨_, rfl⟩
     have hw1 : IntKind.i64.wrap (2 * (s : Int)) = (t : Int) := by rw [show 2 * (s : Int) = (t : Int) by omega]; exact IntWalk.i64_in _ (by omega)
     have hw2 : IntKind.i64.wrap ((s : Int) * 2) = (t : Int) := by rw [show (s : Int) * 2 = (t : Int) by omega]; exact IntWalk.i64_in _ (by omega)
     have htn : t ≤ 200000 := by omega
     have HT := Lib.hid ht
     clear ht
     go_wp2_with fail
     go_loopw [5, 6] (fun va vb w3 => ∃ (a k : Nat) (M : List Rw), va = .int .i64 (a : Int) ∧ vb = .int .i64 ((a + t : Nat) : Int) ∧ a ≤ n ∧ Hid (a = k * (s + s)) ∧ Chg L M 0 n ∧ Mix M s k ∧ KIn W0 B g n cap kb M w3) (fun va _ _ => n - (Go.RowKit.intOf va).toNat)
     case atStart => exact ⟨0, 0, N, rfl, by rw [Nat.zero_add], Nat.zero_le _, Lib.hid (Nat.zero_mul _).symm, HC.out, Mix.start HB.out, HL.out⟩
     case round =>
      rename World => w3
      clear HC HB HL
      obtain ⟨a, k, M, rfl, rfl, han, HK, hchg, hmix, hlies⟩ := hrel
      have HC := Lib.hid hchg
      have HM := Lib.hid hmix
      have HL := Lib.hid hlies
      obtain ⟨hc0, hc1⟩ := HBOX.out _ _ HL.out
      clear hchg hmix hlies
      have hws : IntKind.i64.wrap ((a : Int) + (s : Int)) = ((a + s : Nat) : Int) := by rw [show (a : Int) + (s : Int) = ((a + s : Nat) : Int) by omega]; exact IntWalk.i64_in _ (by omega)
      by_cases hle : a + t ≤ n
      ·have hz2 : ((a + t : Nat) : Int) ≤ (n : Int) := by omega
       have hw3 : IntKind.i64.wrap (((a + t : Nat) : Int) + (t : Int)) = ((a + t + t : Nat) : Int) := by rw [show ((a + t : Nat) : Int) + (t : Int) = ((a + t + t : Nat) : Int) by omega]; exact IntWalk.i64_in _ (by omega)
       have hin := symMerge_c B g n cap kb hn n a (a + s) (a + t) M w3 (by omega) (by omega) (by have := HT.out; omega) hle (HM.out.pair HK.out).1 (by have h := (HM.out.pair HK.out).2; rw [HT.out, ← Nat.add_assoc]; exact h) HL.out.start
       have HIN := Lib.hid hin
       clear hin
       go_wp2_with fail
       refine HIN.out.mono ?_
       rintro e w4 ⟨rfl, M', hc', ha', hl'⟩
       have HC' := Lib.hid hc'
       have HA' := Lib.hid ha'
       have HL' := Lib.hid (show KIn W0 B g n cap kb M' w4 from hl'.since HL.out.grown)
       clear hc' ha' hl'
       go_wp2_with fail
       go_roundw
       case rel =>
        refine ⟨a + t, k + 1, M', rfl, rfl, hle, Lib.hid (by rw [Nat.add_mul, Nat.one_mul, ← HK.out, HT.out]), HC.out.trans (HC'.out.wide (Nat.zero_le _) hle), ?_, HL'.out⟩
        have h1 := HC'.out
        have h2 := HA'.out
        rw [HT.out] at h1 h2
        exact HM.out.step HK.out h1 h2
       case measure => simp only [Go.RowKit.intOf]; have := HT.out; omega
      ·have hz2 : ¬ ((a + t : Nat) : Int) ≤ (n : Int) := by omega
       by_cases hlm : a + s < n
       ·have hz3 : ((a + s : Nat) : Int) < (n : Int) := by omega
        have hin := symMerge_c B g n cap kb hn n a (a + s) n M w3 (by omega) (by omega) hlm (Nat.le_refl _) (HM.out.pair HK.out).1 (asc_beyond (n := a + s + s) (HM.out.pair HK.out).2 (by rw [HL.out.lies.len]; have := HT.out; omega)) HL.out.start
        have HIN := Lib.hid hin
        clear hin
        go_wp2_with fail
        refine HIN.out.mono ?_
        rintro e w4 ⟨rfl, M', hc', ha', hl'⟩
        have hbs : Blks M' t := by
         have ht := HT.out
         rw [ht]
         exact HM.out.last HK.out hc' ha' (by rw [hl'.lies.len]; exact Nat.le_refl _) (by omega)
        have HBS := Lib.hid hbs
        have HC' := Lib.hid (HC.out.trans (hc'.wide (Nat.zero_le _) (Nat.le_refl _)))
        have HL' := Lib.hid (show KIn W0 B g n cap kb M' w4 from hl'.since HL.out.grown)
        clear hc' ha' hl' hbs
        go_wp2_with fail
        go_roundw
        case rel => exact ⟨t, M', rfl, by have := HT.out; omega, by have := HT.out; omega, HC'.out, HBS.out, HL'.out⟩
        case measure => simp only [Go.RowKit.intOf]; have := HT.out; omega
       ·have hz3 : ¬ ((a + s : Nat) : Int) < (n : Int) := by omega
        have hbs : Blks M t := by
         have ht := HT.out
         rw [ht]
         exact HM.out.last HK.out (Chg.refl _ _ _) (asc_beyond (n := a + s) (HM.out.pair HK.out).1 (by rw [HL.out.lies.len]; omega)) (by rw [HL.out.lies.len]; exact Nat.le_refl _) (by omega)
        have HBS := Lib.hid hbs
        clear hbs
        go_wp2_with fail
        go_roundw
        case rel => exact ⟨t, M, rfl, by have := HT.out; omega, by have := HT.out; omega, HC.out, HBS.out, HL.out⟩
        case measure => simp only [Go.RowKit.intOf]; have := HT.out; omega
    ·have hz : ¬ (s : Int) < (n : Int) := by omega
     go_wp2_with fail
     go_end0
     exact ⟨rfl, N, HC.out, HB.out.all (by omega), HL.out.since HG0.out⟩
end Kk
end Go.Proofs.YtkobmnbjeppnaaaGreat
