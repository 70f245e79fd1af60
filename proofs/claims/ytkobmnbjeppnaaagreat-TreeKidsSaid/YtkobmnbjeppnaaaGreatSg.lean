/-
 Rows put in order by their children, those of one child as they were: blocks in order, plain.
 Rows put in order by their children, those of one child as they were: slices.stableCmpFunc, slices.SortStableFunc, the program's ordered.
-/
import Derived.Test.YtkobmnbjeppnaaaGreatSe
import Derived.Test.YtkobmnbjeppnaaaGreatPe
section
namespace Go.Proofs.YtkobmnbjeppnaaaGreat
open Go.RowKit Go.IntWalk
open Fl
set_option maxRecDepth 100000
/-- each block of s rows, of the first k, is in order -/
def Blk (L : List Rw) (s k : Nat) : Prop := ∀ i, i < k → AscT L (i * s) (i * s + s)
/-- each block of s rows is in order -/
def Blks (L : List Rw) (s : Nat) : Prop := ∀ i, AscT L (i * s) (i * s + s)
theorem blk_le {i k s : Nat} (h : i < k) : i * s + s ≤ k * s := by
 have := Nat.mul_le_mul_right s (show i + 1 ≤ k by omega)
 rw [Nat.add_mul, Nat.one_mul] at this
 exact this
theorem Blk.one {L M : List Rw} {s k : Nat} (h : Blk L s k) (hc : Chg L M (k * s) (k * s + s)) (ha : AscT M (k * s) (k * s + s)) : Blk M s (k + 1) := fun i hi => by
 by_cases e : i = k
 ·subst e; exact ha
 ·have h1 := blk_le (s := s) (show i < k by omega)
  exact (h i (by omega)).same fun j _ hj => hc.out j (.inl (by omega))
theorem asc_beyond {L : List Rw} {a b n : Nat} (h : AscT L a n) (hl : L.length ≤ n) : AscT L a b := fun p q x y h1 h2 _ hx hy => by
 have := (List.getElem?_eq_some_iff.1 hy).1
 exact h p q x y h1 h2 (by omega) hx hy
theorem asc_none {L : List Rw} {a b : Nat} (hl : L.length ≤ a) : AscT L a b := fun p q x y h1 h2 _ hx hy => by
 have := (List.getElem?_eq_some_iff.1 hy).1
 omega
theorem Blk.last {L M : List Rw} {s k n : Nat} (h : Blk L s k) (hc : Chg L M (k * s) n) (ha : AscT M (k * s) n) (hl : M.length ≤ n) (hk : n < k * s + s) : Blks M s := fun i => by
 rcases Nat.lt_trichotomy i k with e | e | e
 ·have h1 := blk_le (s := s) e
  exact (h i e).same fun j _ hj => hc.out j (.inl (by omega))
 ·subst e; exact asc_beyond ha hl
 ·have h1 := blk_le (s := s) e
  exact asc_none (by omega)
/-- blocks of twice as many rows are in order, of the first k; behind them those of s -/
structure Mix (L : List Rw) (s k : Nat) : Prop where
 two : Blk L (s + s) k
 one : ∀ i, k + k ≤ i → AscT L (i * s) (i * s + s)
theorem Mix.start {L : List Rw} {s : Nat} (h : Blks L s) : Mix L s 0 := ⟨fun i hi => by omega, fun i _ => h i⟩
theorem mix_at (s k : Nat) : (k + k) * s = k * (s + s) := by rw [Nat.add_mul, Nat.mul_add]
theorem Mix.pair {L : List Rw} {s k a : Nat} (h : Mix L s k) (ha : a = k * (s + s)) : AscT L a (a + s) ∧ AscT L (a + s) (a + s + s) := by
 have h1 := h.one (k + k) (Nat.le_refl _)
 have h2 := h.one (k + k + 1) (by omega)
 rw [mix_at, ← ha] at h1
 rw [Nat.add_mul, Nat.one_mul, mix_at, ← ha] at h2
 exact ⟨h1, h2⟩
theorem Mix.step {L M : List Rw} {s k a : Nat} (h : Mix L s k) (ha : a = k * (s + s)) (hc : Chg L M a (a + (s + s))) (hs : AscT M a (a + (s + s))) : Mix M s (k + 1) := by
 subst ha
 refine ⟨h.two.one hc hs, fun i hi => (h.one i (by omega)).same fun j hj _ => hc.out j (.inr ?_)⟩
 have h1 := Nat.mul_le_mul_right s (show k + k + 2 ≤ i by omega)
 rw [Nat.add_mul, mix_at] at h1
 omega
theorem Mix.last {L M : List Rw} {s k a n : Nat} (h : Mix L s k) (ha : a = k * (s + s)) (hc : Chg L M a n) (hs : AscT M a n) (hl : M.length ≤ n) (hk : n < a + (s + s)) : Blks M (s + s) := by
 subst ha
 exact h.two.last hc hs hl hk
theorem Blks.all {L : List Rw} {s n : Nat} (h : Blks L s) (hs : n ≤ s) : AscT L 0 n := by
 have := h 0
 rw [Nat.zero_mul, Nat.zero_add] at this
 exact this.sub (Nat.le_refl _) hs
end Go.Proofs.YtkobmnbjeppnaaaGreat
end
section
namespace Go.Proofs.YtkobmnbjeppnaaaGreat
open Go.RowKit Go.IntWalk
open Fl
set_option maxRecDepth 100000
attribute [local go_sem] Oper.semAt_some
/-- what a sort of all rows leaves -/
def StEnd (w : World) (B g n cap : Nat) (L : List Rw) (e : Ending) (w' : World) : Prop :=
 e = .returned (.tuple #[]) ∧ ∃ L', Chg L L' 0 n ∧ AscT L' 0 n ∧ Lies B g n cap L' w' ∧ w.grownBy w' (some g)
set_option maxHeartbeats 16000000 in
theorem stable_c (B g n cap : Nat) (L : List Rw) (hn : n ≤ 100000) (w : World) (h : Lies B g n cap L w) :
  Calls Tryz.prog 92 #[.slice (some ⟨g, 0, none⟩) n cap, .int .i64 (n : Int), cmpV] w (StEnd w B g n cap L) := by
 have H := Lib.hid h
 clear h
 unfold cmpV
 go_enter Tryz.func92, Tryz.ntmps92
 go_wp2_with fail
 go_loopw [7, 8] (fun va vb wr => ∃ (a k : Nat) (M : List Rw), va = .int .i64 (a : Int) ∧ vb = .int .i64 ((a + 20 : Nat) : Int) ∧ a ≤ n ∧ Hid (a = k * 20) ∧ Chg L M 0 n ∧ Blk M 20 k ∧ LiesIn w B g n cap M wr) (fun va _ _ => n - (Go.RowKit.intOf va).toNat)
 case atStart => exact ⟨0, 0, L, rfl, rfl, Nat.zero_le _, Lib.hid rfl, Chg.refl _ _ _, fun i hi => by omega, H.out, grown_refl _ _⟩
 case round =>
  clear H
  obtain ⟨a, k, M, rfl, rfl, han, HK, hchg, hblk, hlies⟩ := hrel
  have HC := Lib.hid hchg
  have HB := Lib.hid hblk
  have HL := Lib.hid hlies
  clear hchg hblk hlies
  by_cases hle : a + 20 ≤ n
  ·have hz : ((a + 20 : Nat) : Int) ≤ (n : Int) := by omega
   have hw1 : IntKind.i64.wrap (((a + 20 : Nat) : Int) + 20) = ((a + 20 + 20 : Nat) : Int) := by rw [show ((a + 20 : Nat) : Int) + 20 = ((a + 20 + 20 : Nat) : Int) by omega]; exact IntWalk.i64_in _ (by omega)
   have hin := insertion_c B g n cap a (a + 20) M (by omega) hle hn wr HL.out.1
   have HIN := Lib.hid hin
   clear hin
   unfold cmpV at HIN
   go_wp2_with fail
   refine HIN.out.mono ?_
   rintro e w1 ⟨rfl, M', hc', ha', hl', hg'⟩
   have HC' := Lib.hid hc'
   have HA' := Lib.hid ha'
   have HL' := Lib.hid (show LiesIn w B g n cap M' w1 from ⟨hl', grown_trans HL.out.2 hg'⟩)
   clear hc' ha' hl' hg'
   go_wp2_with fail
   go_roundw
   case rel =>
    refine ⟨a + 20, k + 1, M', rfl, rfl, hle, Lib.hid (by have := HK.out; omega), HC.out.trans (HC'.out.wide (Nat.zero_le _) hle), ?_, HL'.out⟩
    have hk := HK.out
    have h1 := HC'.out
    have h2 := HA'.out
    rw [hk] at h1 h2
    exact HB.out.one h1 h2
   case measure => simp only [Go.RowKit.intOf]; omega
  ·have hz : ¬ ((a + 20 : Nat) : Int) ≤ (n : Int) := by omega
   have hin := insertion_c B g n cap a n M han (Nat.le_refl _) hn wr HL.out.1
   have HIN := Lib.hid hin
   clear hin
   unfold cmpV at HIN
   go_wp2_with fail
   refine HIN.out.mono ?_
   rintro e w1 ⟨rfl, M', hc', ha', hl', hg'⟩
   have hbs : Blks M' 20 := by
    have hk := HK.out
    rw [hk] at hc' ha' hle
    exact HB.out.last hc' ha' (by rw [hl'.len]; exact Nat.le_refl _) (by omega)
   have HBS := Lib.hid hbs
   have HC2 := Lib.hid (HC.out.trans (hc'.wide (Nat.zero_le _) (Nat.le_refl _)))
   have HL2 := Lib.hid (show LiesIn w B g n cap M' w1 from ⟨hl', grown_trans HL.out.2 hg'⟩)
   clear hc' ha' hl' hg' hbs HC HL HB HK
   go_wp2_with fail
   go_loopw [6] (fun vs w2 => ∃ (s : Nat) (M : List Rw), vs = .int .i64 (s : Int) ∧ 0 < s ∧ s ≤ n + n + 20 ∧ Chg L M 0 n ∧ Blks M s ∧ LiesIn w B g n cap M w2) (fun vs _ => n - (Go.RowKit.intOf vs).toNat)
   case atStart => exact ⟨20, M', rfl, by omega, by omega, HC2.out, HBS.out, HL2.out⟩
   case round =>
    rename World => w2
    clear HBS HC2 HL2
    obtain ⟨s, N, rfl, hs0, hs1, hchg, hblk, hlies⟩ := hrel
    have HC := Lib.hid hchg
    have HB := Lib.hid hblk
    have HL := Lib.hid hlies
    clear hchg hblk hlies
    by_cases hsn : s < n
    ·have hz : (s : Int) < (n : Int) := by omega
     obtain ⟨t, ht⟩ : ∃ t, t = s + s := ⟨_, rfl⟩
     have hw1 : IntKind.i64.wrap (2 * (s : Int)) = (t : Int) := by rw [show 2 * (s : Int) = (t : Int) by omega]; exact IntWalk.i64_in _ (by omega)
     have hw2 : IntKind.i64.wrap ((s : Int) * 2) = (t : Int) := by rw [show (s : Int) * 2 = (t : Int) by omega]; exact IntWalk.i64_in _ (by omega)
     have htn : t ≤ 200000 := by omega
     have HT := Lib.hid ht
     clear ht
     go_wp2_with fail
     go_loopw [7, 8] (fun va vb w3 => ∃ (a k : Nat) (M : List Rw), va = .int .i64 (a : Int) ∧ vb = .int .i64 ((a + t : Nat) : Int) ∧ a ≤ n ∧ Hid (a = k * (s + s)) ∧ Chg L M 0 n ∧ Mix M s k ∧ LiesIn w B g n cap M w3) (fun va _ _ => n - (Go.RowKit.intOf va).toNat)
     case atStart => exact ⟨0, 0, N, rfl, by rw [Nat.zero_add], Nat.zero_le _, Lib.hid (Nat.zero_mul _).symm, HC.out, Mix.start HB.out, HL.out⟩
     case round =>
      rename World => w3
      clear HC HB HL
      obtain ⟨a, k, M, rfl, rfl, han, HK, hchg, hmix, hlies⟩ := hrel
      have HC := Lib.hid hchg
      have HM := Lib.hid hmix
      have HL := Lib.hid hlies
      clear hchg hmix hlies
      have hws : IntKind.i64.wrap ((a : Int) + (s : Int)) = ((a + s : Nat) : Int) := by rw [show (a : Int) + (s : Int) = ((a + s : Nat) : Int) by omega]; exact IntWalk.i64_in _ (by omega)
      by_cases hle : a + t ≤ n
      ·have hz2 : ((a + t : Nat) : Int) ≤ (n : Int) := by omega
       have hw3 : IntKind.i64.wrap (((a + t : Nat) : Int) + (t : Int)) = ((a + t + t : Nat) : Int) := by rw [show ((a + t : Nat) : Int) + (t : Int) = ((a + t + t : Nat) : Int) by omega]; exact IntWalk.i64_in _ (by omega)
       have hin := symMerge_c B g n cap hn n a (a + s) (a + t) M w3 (by omega) (by omega) (by have := HT.out; omega) hle (HM.out.pair HK.out).1 (by have h := (HM.out.pair HK.out).2; rw [HT.out, ← Nat.add_assoc]; exact h) HL.out.1
       have HIN := Lib.hid hin
       clear hin
       unfold cmpV at HIN
       go_wp2_with fail
       refine HIN.out.mono ?_
       rintro e w4 ⟨rfl, M', hc', ha', hl', hg'⟩
       have HC' := Lib.hid hc'
       have HA' := Lib.hid ha'
       have HL' := Lib.hid (show LiesIn w B g n cap M' w4 from ⟨hl', grown_trans HL.out.2 hg'⟩)
       clear hc' ha' hl' hg'
       go_wp2_with fail
       go_roundw
       case rel =>
        refine ⟨a + t, k + 1, M', rfl, rfl, hle, Lib.hid (by rw [Nat.add_mul, Nat.one_mul, ← HK.out, HT.out]), HC.out.trans (HC'.out.wide (Nat.zero_le _) hle), ?_, HL'.out⟩
        have h1 := HC'.out
        have h2 := HA'.out
        rw [HT.out] at h1 h2
        exact HM.out.step HK.out h1 h2
       case measure => simp only [Go.RowKit.intOf]; have := HT.out; omega
      ·have hz2 : ¬ ((a + t : Nat) : Int) ≤ (n : Int) := by omega
       by_cases hlm : a + s < n
       ·have hz3 : ((a + s : Nat) : Int) < (n : Int) := by omega
        have hin := symMerge_c B g n cap hn n a (a + s) n M w3 (by omega) (by omega) hlm (Nat.le_refl _) (HM.out.pair HK.out).1 (asc_beyond (n := a + s + s) (HM.out.pair HK.out).2 (by rw [HL.out.1.len]; have := HT.out; omega)) HL.out.1
        have HIN := Lib.hid hin
        clear hin
        unfold cmpV at HIN
        go_wp2_with fail
        refine HIN.out.mono ?_
        rintro e w4 ⟨rfl, M', hc', ha', hl', hg'⟩
        have hbs : Blks M' t := by
         have ht := HT.out
         rw [ht]
         exact HM.out.last HK.out hc' ha' (by rw [hl'.len]; exact Nat.le_refl _) (by omega)
        have HBS := Lib.hid hbs
        have HC' := Lib.hid (HC.out.trans (hc'.wide (Nat.zero_le _) (Nat.le_refl _)))
        have HL' := Lib.hid (show LiesIn w B g n cap M' w4 from ⟨hl', grown_trans HL.out.2 hg'⟩)
        clear hc' ha' hl' hg' hbs
        go_wp2_with fail
        go_roundw
        case rel => exact ⟨t, M', rfl, by have := HT.out; omega, by have := HT.out; omega, HC'.out, HBS.out, HL'.out⟩
        case measure => simp only [Go.RowKit.intOf]; have := HT.out; omega
       ·have hz3 : ¬ ((a + s : Nat) : Int) < (n : Int) := by omega
        have hbs : Blks M t := by
         have ht := HT.out
         rw [ht]
         exact HM.out.last HK.out (Chg.refl _ _ _) (asc_beyond (n := a + s) (HM.out.pair HK.out).1 (by rw [HL.out.1.len]; omega)) (by rw [HL.out.1.len]; exact Nat.le_refl _) (by omega)
        have HBS := Lib.hid hbs
        clear hbs
        go_wp2_with fail
        go_roundw
        case rel => exact ⟨t, M, rfl, by have := HT.out; omega, by have := HT.out; omega, HC.out, HBS.out, HL.out⟩
        case measure => simp only [Go.RowKit.intOf]; have := HT.out; omega
    ·have hz : ¬ (s : Int) < (n : Int) := by omega
     go_wp2_with fail
     go_end0
     exact ⟨rfl, N, HC.out, HB.out.all (by omega), HL.out.1, HL.out.2⟩
theorem sortStable_c (B g n cap : Nat) (L : List Rw) (hn : n ≤ 100000) (w : World) (h : Lies B g n cap L w) :
  Calls Tryz.prog 67 #[.slice (some ⟨g, 0, none⟩) n cap, cmpV] w (StEnd w B g n cap L) := by
 have H := Lib.hid (stable_c B g n cap L hn w h)
 clear h
 unfold cmpV at H ⊢
 go_enter Tryz.func67, Tryz.ntmps67
 go_wp2_with fail
 refine H.out.mono ?_
 rintro e w1 ⟨rfl, h1⟩
 go_wp2_with fail
 go_end0
 exact ⟨rfl, h1⟩
/-- any rows are put in order -/
theorem ordOk_all {l : List Rw} (hl : l.length ≤ 100000) : OrdOk l := by
 by_cases hs : ascB l = true
 ·exact ordOk_asc hs (by unfold maxLen; omega)
 ·intro A cap w hc
  have hs2 : ascB l = false := by simpa using hs
  have hpos : 0 < l.length := by
   cases l with
   | nil => exact absurd rfl hs
   | cons _ _ => simp
  obtain ⟨r, hr⟩ := some_at hpos
  obtain ⟨b0, o0, rfl, -⟩ := row_cells hc hr
  have HC := Lib.hid hc
  have HS := Lib.hid hs2
  clear hc hs hs2 hr
  go_enter Tryz.func48, Tryz.ntmps48
  go_wp2_with fail
  refine (sorted_c (some ⟨b0, o0, none⟩) cap l (by unfold maxLen; omega) _ HC.out).mono ?_
  rintro e w1 ⟨rfl, hb1⟩
  rw [HS.out]
  have HB1 := Lib.hid hb1
  clear hb1
  go_wp2_with fail
  refine (clone_c (some ⟨b0, o0, none⟩) cap l hl (fun h => by cases h) _ (HC.out.keep HB1.out)).mono ?_
  rintro e w2 ⟨A2, c2, rfl, hown, hb2⟩
  obtain ⟨g, c3, hv, hg, -, -, -, -⟩ := own_some hown hpos
  cases hv
  have HO := Lib.hid hown
  have HB2 := Lib.hid hb2
  have hst := sortStable_c w1.heap.size g l.length c2 l hl w2 hown
  have HST := Lib.hid hst
  clear hown hb2 hst
  unfold cmpV at HST
  go_wp2_with fail
  refine HST.out.mono ?_
  rintro e w3 ⟨rfl, L', hchg, hasc, hlies, hgr⟩
  have hL : L' = srt l := srt_of (asc_all (by rw [hchg.len]; exact hasc)) hchg.flt
  subst hL
  have hb23 : Below w1.heap.size w1 w3 := HB2.out.grown hgr HB2.out.size (fun k hk => by cases hk; exact hg)
  have HL := Lib.hid hlies
  have HB23 := Lib.hid hb23
  clear hchg hasc hlies hgr hb23
  go_wp2_with fail
  go_ret
  obtain ⟨A9, c9, hv, ha9, -, -⟩ := own_at HL.out
  cases hv
  exact ⟨some ⟨g, 0, none⟩, c2, rfl, ha9, HB1.out.trans (HB23.out.mono HB1.out.size)⟩
theorem above_any {l : List Rw} (hl : l.length ≤ 100000) (A : Option Addr) (cap : Nat) (a b : Int) (w : World) (hc : At w w.heap.size A (tvs l)) :
  Calls Tryz.prog 27 #[.slice A l.length cap, .int .i64 a, .int .i64 b] w fun e W' => e = .returned (.bool (abv l a l.length b)) ∧ Below w.heap.size w W' :=
 above_k A cap l a b hl (ordOk_all hl) w hc
end Go.Proofs.YtkobmnbjeppnaaaGreat
end
