/-
 Kids: the document's.
-/
import Derived.Test.YtkobmnbjeppnaaaGreatXn
import Derived.Test.YtkobmnbjeppnaaaGreatTq
namespace Go.Proofs.YtkobmnbjeppnaaaGreat
open Go.RowKit Go.IntWalk
open Fl
attribute [local go_sem] Oper.semAt_some
set_option maxRecDepth 100000
theorem rless_k {x y : Rw} (b : Bool) (h : lsP x y = b) (hx : rk x < 18446744073709551616) (hy : rk y < 18446744073709551616) (w : World) :
  Calls Tryz.prog 34 #[.agg #[.int .i64 (ch x), .int .i64 (pa x), .string (ba (nm x)), .float .f64 (rk x)], .agg #[.int .i64 (ch y), .int .i64 (pa y), .string (ba (nm y)), .float .f64 (rk y)]] w fun e w' => e = .returned (.bool b) ∧ Below w.heap.size w w' := by
 subst h
 exact rLess_c (ch x) (pa x) (ch y) (pa y) (ba (nm x)) (ba (nm y)) (rk x) (rk y) hx hy w
set_option maxHeartbeats 8000000 in
theorem rkids_c (A : Option Addr) (cap : Nat) (l : List Rw) (p : Int) (hl : l.length ≤ 10000) (hr64 : ∀ r ∈ l, rk r < 18446744073709551616) (w : World) (hc : At w w.heap.size A (tvs l)) :
  Calls Tryz.prog 30 #[.slice A l.length cap, .int .i64 p] w (Told_ (kidsR l p) w) := by
 obtain ⟨i0, hi, hz0, hz1, hz2⟩ := info_parts Tryz.info28
 obtain ⟨R, hR⟩ : ∃ R, kidsR l p = R := ⟨_, rfl⟩
 rw [hR]
 unfold kidsR at hR
 have HR := Lib.hid hR
 have HC := Lib.hid hc
 have H64 := Lib.hid hr64
 clear hR hc hr64
 go_enter Tryz.func30, Tryz.ntmps30
 go_wp2_with fail
 go_loopw [5, 6] (fun v i wr => ∃ (k n : Nat) (o : List Rw), i = .int .i64 (k : Int) ∧ k ≤ l.length ∧ (l.take k).foldl (kidG p) [] = o ∧ o.length = n ∧ n ≤ k ∧ (n = 0 → v = .slice none 0 0) ∧ wr.ownsRow w.heap.size 28 4 v n (tvs o) ∧ Below w.heap.size w wr) (fun _ i _ => l.length - (Go.RowKit.intOf i).toNat)
 case atStart => exact ⟨0, 0, [], rfl, Nat.zero_le _, rfl, rfl, Nat.le_refl _, fun _ => rfl, World.ownsRow_nil _ _ _ _, Below.refl _ _⟩
 case round =>
  obtain ⟨k, n, o, rfl, hk, hfo, hon, hnk, hvn, hown, hbw⟩ := hrel
  have HOWN := Lib.hid hown
  have HFO := Lib.hid hfo
  have HON := Lib.hid hon
  have HVN := Lib.hid hvn
  clear hown hfo hon hvn
  by_cases hlt : k < l.length
  ·obtain ⟨r, hr⟩ := some_at hlt
   have hcw := HC.out.keep hbw
   obtain ⟨b0, o0, rfl, hb0, c0, c1, c2, c3⟩ := row_cells hcw hr
   have hki : (0 : Int) ≤ (k : Int) := by omega
   have hkl : (k : Int) < (l.length : Int) := by omega
   have hstep := kid_step p hr
   rw [HFO.out] at hstep
   have HST := Lib.hid hstep
   have HX := Lib.hid hr
   have hx64 := H64.out r (mem_at hr)
   have ho64 : ∀ y ∈ o, rk y < 18446744073709551616 := fun y hy => by
    rcases kids_mem p (l.take k) [] y (by rw [HFO.out]; exact hy) with h | h
    ·exact absurd h (List.not_mem_nil)
    ·exact H64.out y (List.mem_of_mem_take h)
   have HO64 := Lib.hid ho64
   clear hr hstep ho64
   by_cases hq : pa r = p
   ·have hqb : (pa r != p) = false := by simpa using hq
    have HQ := Lib.hid hq
    clear hq
    obtain ⟨A2, c9, rfl, hato, -, hcn⟩ := own_at HOWN.out
    have HATO := Lib.hid hato
    obtain ⟨K, hK⟩ : ∃ K, kAt o r n = K := ⟨_, rfl⟩
    have HK := Lib.hid hK
    have HCW := Lib.hid hcw
    clear hato hK c0 c2 c3
    go_wp2_with fail
    clear c1
    rename World => vr
    go_loopw [7] (fun i wi => ∃ j : Nat, i = .int .i64 (j : Int) ∧ j ≤ n ∧ kAt o r j = K ∧ Below vr.heap.size vr wi) (fun i _ => (Go.RowKit.intOf i).toNat)
    case atStart => exact ⟨n, rfl, Nat.le_refl _, HK.out, Below.refl _ _⟩
    case round =>
     obtain ⟨j, rfl, hj, hkj, hbi⟩ := hrel
     have HKJ := Lib.hid hkj
     clear hkj
     by_cases hj0 : j = 0
     ·have hd : decide (0 < j) = false := decide_eq_false (by omega)
      have hkz : K = j := by have := HKJ.out; rw [hj0] at this ⊢; exact this.symm
      have HKZ := Lib.hid hkz
      clear hkz hj0
      go_wp2_with fail
      go_quiet (fail)
      generalize hw1 : World.drewN wr _ = w1
      have HB1 := Lib.hid (show Below vr.heap.size vr w1 by rw [← hw1]; exact below_drewN hbi _)
      have HKJ2 := HKZ
      clear hw1 hbi
      by_cases hn0 : n = 0
      ·skip
       have hvz := HVN.out hn0
       cases hvz
       have hoz : o = [] := List.eq_nil_of_length_eq_zero (by have := HON.out; omega)
       have HOZ := Lib.hid (show o.length = 0 by rw [hoz]; rfl)
       have HINS := Lib.hid (show insK o r = [r] by rw [hoz]; rfl)
       have hjz : j = 0 := by omega
       subst hjz
       clear hoz hn0
       go_wp2_with fail
       generalize hw2 : World.alloc w1 _ = w2
       have hb2a : Below w1.heap.size w1 w2 := by rw [← hw2]; exact (Below.refl w1.heap.size w1).alloc (Nat.le_refl _) _
       have hx2 := HCW.out.keep (HB1.out.trans (hb2a.mono HB1.out.size))
       obtain ⟨b9, o9, e9, hb02, x0, x1, x2, x3⟩ := row_cells hx2 HX.out
       cases e9
       have HB2 := Lib.hid (HB1.out.trans (hb2a.mono HB1.out.size))
       clear hb2a hx2 hw2
       go_region_held_law (fun w' => (w'.cell? ⟨b0, o0 + k * 4, none⟩ = some (.int .i64 (ch r)) ∧ w'.cell? ⟨b0, o0 + k * 4 + 1, none⟩ = some (.int .i64 (pa r)) ∧ w'.cell? ⟨b0, o0 + k * 4 + 2, none⟩ = some (.string (ba (nm r))) ∧ w'.cell? ⟨b0, o0 + k * 4 + 3, none⟩ = some (.float .f64 (rk r))) ∧ Below w2.heap.size w2 w')
        (first
         | (exact fKeep hb02 (by assumption) hbn)
         | (exact fAlloc hb02 (Nat.le_refl _) (by assumption) _)
         | (exact fAllocD hb02 (Nat.le_refl _) (by assumption) _)
         | (exact ⟨⟨x0, x1, x2, x3⟩, (Below.refl _ _).drew⟩)
         | go_keep)
        (first
         | (refine step_append_own rfl _ _ 22 rfl w2.heap.size 28 i0 _ 4 40 Tryz.underlying22 hi hz0 hz1 hz2 rfl (by decide) _ _ _ rfl (own_drew ((made4 w2.heap.size w2 (Nat.le_refl _)).alloc (.cells #[.int .i64 (ch r), .int .i64 (pa r), .string (ba (nm r)), .float .f64 (rk r)] 28))) ⟨w2.heap.size + 1, 0, none⟩ 1 1 [.int .i64 (ch r), .int .i64 (pa r), .string (ba (nm r)), .float .f64 (rk r)] rfl rfl (is_news (is_new2 w2 [.int .i64 (ch r), .int .i64 (pa r), .string (ba (nm r)), .float .f64 (rk r)] _ _)) (tvs_one [r]) (by unfold maxLen; omega) (by omega) (by simp <;> omega) ?_; intro v4 w4 hown4 hgrow4; have hbn := below_own2 (Below.refl _ _) (by simp <;> omega) (own_drew ((made4 w2.heap.size w2 (Nat.le_refl _)).alloc (.cells #[.int .i64 (ch r), .int .i64 (pa r), .string (ba (nm r)), .float .f64 (rk r)] 28))) hgrow4)
         | (refine step_append_own rfl _ _ 22 rfl w2.heap.size 28 i0 _ 4 40 Tryz.underlying22 hi hz0 hz1 hz2 rfl (by decide) _ _ _ rfl (made4_1 w2.heap.size w2 (.cells #[.int .i64 (ch r), .int .i64 (pa r), .string (ba (nm r)), .float .f64 (rk r)] 28) (Nat.le_refl _)) ⟨w2.heap.size, 0, none⟩ 1 1 [.int .i64 (ch r), .int .i64 (pa r), .string (ba (nm r)), .float .f64 (rk r)] rfl rfl (is_news (is_new1 w2 [.int .i64 (ch r), .int .i64 (pa r), .string (ba (nm r)), .float .f64 (rk r)] _ _)) (tvs_one [r]) (by unfold maxLen; omega) (by omega) (by simp <;> omega) ?_; intro v4 w4 hown4 hgrow4; have hbn := below_own2 (Below.refl _ _) (by simp <;> omega) (made4_1 w2.heap.size w2 (.cells #[.int .i64 (ch r), .int .i64 (pa r), .string (ba (nm r)), .float .f64 (rk r)] 28) (Nat.le_refl _)) hgrow4)
         | (refine step_append_own rfl _ _ 22 rfl w2.heap.size 28 i0 _ 4 40 Tryz.underlying22 hi hz0 hz1 hz2 rfl (by decide) _ _ _ rfl hown4 ⟨w1.heap.size, 0, none⟩ 0 _ [] rfl rfl (fun j u h => by simp at h) (fun u h => by simp at h) (by unfold maxLen; omega) (by omega) (fSize (Nat.le_refl _) (by assumption)) ?_; intro v5 w5 hown5 hgrow5; have hbn := below_own2 (Below.refl _ _) (fSize (Nat.le_refl _) (by assumption)) hown4 hgrow5)
       )
       all_goals
        have hb5 : Below w2.heap.size w2 w5 := fBelow (by assumption)
        have hown := own_head4 (m := 1) (ys := tvs (insK o r)) hown5 (by omega) (by rw [HINS.out]; simp [tvs, rcs])
        have hs2 := Nat.le_trans hbw.size HB2.out.size
        have HO9 := Lib.hid (ownsRow_low hown hs2)
        have HB9 := Lib.hid ((hbw.trans (HB2.out.mono hbw.size)).trans (hb5.mono hs2))
        clear hown hown5 hown4 hgrow4 hgrow5 hs2 hb5
        try clear hcy2
        try clear hcy3
        go_wp2_with fail
        go_roundw
        case rel => exact ⟨k + 1, 1, insK o r, by go_num, by omega, by rw [HST.out]; simp [kidG, HQ.out], by rw [insK_len, HOZ.out], by omega, fun h => by omega, HO9.out, HB9.out⟩
        case measure => simp only [Go.RowKit.intOf]; omega
      ·obtain ⟨g2, cp, hvv, hg2, hcp, hcm, -, -⟩ := own_some HOWN.out (Nat.pos_of_ne_zero hn0)
       cases hvv
       have hat1 := HATO.out.keep HB1.out
       have hdl : (o.drop j).length = n - j := by rw [List.length_drop, HON.out]
       have htl : (o.take j).length = j := by rw [List.length_take]; have := HON.out; omega
       have hj4 : (j : Int) ≤ (c9 : Int) := by omega
       have hj3 : (j : Int) ≤ (n : Int) := by omega
       have hjz : (0 : Int) ≤ (j : Int) := by omega
       by_cases hjn : j < n
       ·have hc0 : ¬ c9 = j := by omega
        have HDL := Lib.hid hdl
        have HTL := Lib.hid htl
        have HA1 := Lib.hid hat1
        clear hdl htl hat1
        go_wp2_with (at_builtin; refine append_optR _ rfl _ _ rfl w1.heap.size _ 0 [] rfl (made0 _ _ (Nat.le_refl _)) (some ⟨g2, j * 4, none⟩) (c9 - j) (o.drop j) (by rw [HDL.out]; rfl) (fun h => by cases h) (by rw [HDL.out]; omega) w1.heap.size (At.below (by have h := at_dropR HA1.out j; rw [Nat.zero_add] at h; exact h) ((Below.refl w1.heap.size w1).alloc (Nat.le_refl _) _)) (by rw [HDL.out]; omega) (by simp) ?_)
        intro v2 w2 hown2 hgrow2
        rw [show o.length - j = n - j by rw [HON.out]] at hown2
        have hb2a : Below w1.heap.size w1 w2 := below_own ((Below.refl _ _).alloc (Nat.le_refl _) _) (by simp) (made0 w1.heap.size w1 (Nat.le_refl _)) hgrow2
        obtain ⟨g3, c3, rfl, hg3, hcp3, hcm3, -, -⟩ := own_some hown2 (by omega)
        have hrest : At w2 w2.heap.size (some ⟨g3, 0, none⟩) (tvs (o.drop j)) := by
         obtain ⟨A9, c9, e9, ha, -, -⟩ := own_at hown2
         cases e9
         exact ha
        have HRS := Lib.hid hrest
        have HT2 := Lib.hid (at_takeR (HA1.out.keep hb2a) j)
        have hx2 := HCW.out.keep (HB1.out.trans (hb2a.mono HB1.out.size))
        obtain ⟨b9, o9, e9, hb02, x0, x1, x2, x3⟩ := row_cells hx2 HX.out
        cases e9
        have HB2 := Lib.hid (HB1.out.trans (hb2a.mono HB1.out.size))
        clear hown2 hgrow2 hrest hb2a hx2
        go_wp2_with fail
        go_region_held_law (fun w' => (w'.cell? ⟨b0, o0 + k * 4, none⟩ = some (.int .i64 (ch r)) ∧ w'.cell? ⟨b0, o0 + k * 4 + 1, none⟩ = some (.int .i64 (pa r)) ∧ w'.cell? ⟨b0, o0 + k * 4 + 2, none⟩ = some (.string (ba (nm r))) ∧ w'.cell? ⟨b0, o0 + k * 4 + 3, none⟩ = some (.float .f64 (rk r))) ∧ Below w2.heap.size w2 w')
         (first
          | (exact fKeep hb02 (by assumption) hbn)
          | (exact fAlloc hb02 (Nat.le_refl _) (by assumption) _)
          | (exact fAllocD hb02 (Nat.le_refl _) (by assumption) _)
          | (exact ⟨⟨x0, x1, x2, x3⟩, (Below.refl _ _).drew⟩)
          | go_keep)
         (first
          | (refine step_append_own rfl _ _ 22 rfl w2.heap.size 28 i0 _ 4 40 Tryz.underlying22 hi hz0 hz1 hz2 rfl (by decide) (.slice (some ⟨w2.heap.size, 0, none⟩) 0 0) 0 [] rfl (own_drew (made4 w2.heap.size w2 (Nat.le_refl _))) ⟨g2, 0, none⟩ j _ (tvs (o.take j)) rfl (by rw [tvs_len, HTL.out]) (at_news (HT2.out.below (fBelow (by assumption)))) (tvs_one _) (by unfold maxLen; omega) (by omega) (by simp <;> omega) ?_; intro v3 w3 hown3 hgrow3; have hbn := below_own2 (Below.refl _ _) (by simp <;> omega) (own_drew (made4 w2.heap.size w2 (Nat.le_refl _))) hgrow3)
          | (refine step_append_own rfl _ _ 22 rfl w2.heap.size 28 i0 _ 4 40 Tryz.underlying22 hi hz0 hz1 hz2 rfl (by decide) (.slice (some ⟨w2.heap.size, 0, none⟩) 0 0) 0 [] rfl (own_drew ((made4 w2.heap.size w2 (Nat.le_refl _)).alloc (.cells #[.int .i64 (ch r), .int .i64 (pa r), .string (ba (nm r)), .float .f64 (rk r)] 28))) ⟨g2, 0, none⟩ j _ (tvs (o.take j)) rfl (by rw [tvs_len, HTL.out]) (at_news (HT2.out.below (fBelow (by assumption)))) (tvs_one _) (by unfold maxLen; omega) (by omega) (by simp <;> omega) ?_; intro v3 w3 hown3 hgrow3; have hbn := below_own2 (Below.refl _ _) (by simp <;> omega) (own_drew ((made4 w2.heap.size w2 (Nat.le_refl _)).alloc (.cells #[.int .i64 (ch r), .int .i64 (pa r), .string (ba (nm r)), .float .f64 (rk r)] 28))) hgrow3; have hcy2 : Is w3 (w2.heap.size + 1) 28 [.int .i64 (ch r), .int .i64 (pa r), .string (ba (nm r)), .float .f64 (rk r)] := is_kept (is_new2 w2 [.int .i64 (ch r), .int .i64 (pa r), .string (ba (nm r)), .float .f64 (rk r)] _ _) hgrow3 (by simp [Value.ownBlock]))
          | (refine step_append_own rfl _ _ 22 rfl w2.heap.size 28 i0 _ 4 40 Tryz.underlying22 hi hz0 hz1 hz2 rfl (by decide) (.slice (some ⟨w2.heap.size + 1, 0, none⟩) 0 0) 0 [] rfl (made4_1 w2.heap.size w2 (.cells #[.int .i64 (ch r), .int .i64 (pa r), .string (ba (nm r)), .float .f64 (rk r)] 28) (Nat.le_refl _)) ⟨g2, 0, none⟩ j _ (tvs (o.take j)) rfl (by rw [tvs_len, HTL.out]) (at_news (HT2.out.below (fBelow (by assumption)))) (tvs_one _) (by unfold maxLen; omega) (by omega) (by simp <;> omega) ?_; intro v3 w3 hown3 hgrow3; have hbn := below_own2 (Below.refl _ _) (by simp <;> omega) (made4_1 w2.heap.size w2 (.cells #[.int .i64 (ch r), .int .i64 (pa r), .string (ba (nm r)), .float .f64 (rk r)] 28) (Nat.le_refl _)) hgrow3; have hcy3 : Is w3 w2.heap.size 28 [.int .i64 (ch r), .int .i64 (pa r), .string (ba (nm r)), .float .f64 (rk r)] := is_kept (is_new1 w2 [.int .i64 (ch r), .int .i64 (pa r), .string (ba (nm r)), .float .f64 (rk r)] _ _) hgrow3 (by simp [Value.ownBlock]))
          | (refine step_append_own rfl _ _ 22 rfl w2.heap.size 28 i0 _ 4 40 Tryz.underlying22 hi hz0 hz1 hz2 rfl (by decide) _ _ _ rfl (hown3.alloc (.cells #[.int .i64 (ch r), .int .i64 (pa r), .string (ba (nm r)), .float .f64 (rk r)] 28)) ⟨w3.heap.size, 0, none⟩ 1 1 [.int .i64 (ch r), .int .i64 (pa r), .string (ba (nm r)), .float .f64 (rk r)] rfl rfl (is_news (is_new w3 28 [.int .i64 (ch r), .int .i64 (pa r), .string (ba (nm r)), .float .f64 (rk r)])) (tvs_one [r]) (by unfold maxLen; omega) (by omega) (fSize (Nat.le_refl _) (by assumption)) ?_; intro v4 w4 hown4 hgrow4; have hbn := below_own2 (Below.refl _ _) (fSize (Nat.le_refl _) (by assumption)) (hown3.alloc (.cells #[.int .i64 (ch r), .int .i64 (pa r), .string (ba (nm r)), .float .f64 (rk r)] 28)) hgrow4)
          | (refine step_append_own rfl _ _ 22 rfl w2.heap.size 28 i0 _ 4 40 Tryz.underlying22 hi hz0 hz1 hz2 rfl (by decide) _ _ _ rfl (hown3) ⟨w2.heap.size + 1, 0, none⟩ 1 1 [.int .i64 (ch r), .int .i64 (pa r), .string (ba (nm r)), .float .f64 (rk r)] rfl rfl (is_news hcy2) (tvs_one [r]) (by unfold maxLen; omega) (by omega) (fSize (Nat.le_refl _) (by assumption)) ?_; intro v4 w4 hown4 hgrow4; have hbn := below_own2 (Below.refl _ _) (fSize (Nat.le_refl _) (by assumption)) (hown3) hgrow4)
          | (refine step_append_own rfl _ _ 22 rfl w2.heap.size 28 i0 _ 4 40 Tryz.underlying22 hi hz0 hz1 hz2 rfl (by decide) _ _ _ rfl (hown3) ⟨w2.heap.size, 0, none⟩ 1 1 [.int .i64 (ch r), .int .i64 (pa r), .string (ba (nm r)), .float .f64 (rk r)] rfl rfl (is_news hcy3) (tvs_one [r]) (by unfold maxLen; omega) (by omega) (fSize (Nat.le_refl _) (by assumption)) ?_; intro v4 w4 hown4 hgrow4; have hbn := below_own2 (Below.refl _ _) (fSize (Nat.le_refl _) (by assumption)) (hown3) hgrow4)
          | (refine step_append_own rfl _ _ 22 rfl w2.heap.size 28 i0 _ 4 40 Tryz.underlying22 hi hz0 hz1 hz2 rfl (by decide) _ _ _ rfl hown4 ⟨g3, 0, none⟩ (n - j) _ (tvs (o.drop j)) rfl (by rw [tvs_len, HDL.out]) (at_news (HRS.out.below (fBelow (by assumption)))) (tvs_one _) (by unfold maxLen; omega) (by omega) (fSize (Nat.le_refl _) (by assumption)) ?_; intro v5 w5 hown5 hgrow5; have hbn := below_own2 (Below.refl _ _) (fSize (Nat.le_refl _) (by assumption)) hown4 hgrow5)
        )
        all_goals
         have hb5 : Below w2.heap.size w2 w5 := fBelow (by assumption)
         have hown := own_head4 (m := n + 1) (ys := tvs (insK o r)) hown5 (by omega) (by unfold insK; rw [HON.out, HK.out, HKJ2.out, tvs_append]; simp [tvs, rcs])
         have hs2 := Nat.le_trans hbw.size HB2.out.size
         have HO9 := Lib.hid (ownsRow_low hown hs2)
         have HB9 := Lib.hid ((hbw.trans (HB2.out.mono hbw.size)).trans (hb5.mono hs2))
         clear hown hown5 hown4 hown3 hgrow3 hgrow4 hgrow5 hs2 hb5
         try clear hcy2
         try clear hcy3
         go_wp2_with fail
         go_roundw
         case rel => exact ⟨k + 1, n + 1, insK o r, by go_num, by omega, by rw [HST.out]; simp [kidG, HQ.out], by rw [insK_len, HON.out], by omega, fun h => by omega, HO9.out, HB9.out⟩
         case measure => simp only [Go.RowKit.intOf]; omega
       ·exact absurd hd (by simp; omega)
     ·obtain ⟨i, hi⟩ : ∃ i, j = i + 1 := ⟨j - 1, by omega⟩
      have hd : decide (0 < j) = true := decide_eq_true (by omega)
      obtain ⟨y, hy⟩ := some_at (show i < o.length by have := HON.out; omega)
      have hkk := HKJ.out
      rw [hi, kAt, hy] at hkk
      have hwr : IntKind.i64.wrap ((j : Int) - 1) = (i : Int) := by rw [show (j : Int) - 1 = (i : Int) by omega]; exact IntWalk.i64_in _ (by omega)
      have hi0 : (0 : Int) ≤ (i : Int) := by omega
      have hil : (i : Int) < (n : Int) := by omega
      have hato2 := HATO.out.keep hbi
      obtain ⟨g, og, rfl, -, -⟩ := row_cells hato2 hy
      have hcw2 := HCW.out.keep hbi
      have hy64 := HO64.out y (mem_at hy)
      have HY := Lib.hid hy
      have HI := Lib.hid hi
      clear hy hi hj0
      cases hls : lsP r y with
      | true =>
       have HLS := Lib.hid hls
       replace hkk : kAt o r i = K := by simpa [hls] using hkk
       have HKK := Lib.hid hkk
       clear hls hkk
       go_wp2_with fail
       refine quiet_held (fun w' => At w' w'.heap.size (some ⟨b0, o0, none⟩) (tvs l) ∧ At w' w'.heap.size (some ⟨g, og, none⟩) (tvs o) ∧ Below vr.heap.size vr w') (by kernel_rfl) (by kernel_rfl) ⟨at_drewE hcw2 ⟨1, rfl⟩, at_drewE hato2 ⟨1, rfl⟩, hbi.drew⟩ ?_
       repeat (first
        | go_big_quiet_skip
        | (simp only [hd])
        | (simp only [hwr])
        | (go_big_quiet_want; go_big_quiet_op; go_big_quiet_on)
        | (go_big_quiet_want; apply Exists.intro; refine ⟨fun wq hq => ?_, ?_⟩; (focus (obtain ⟨b9, o9, e9, -, d0, d1, d2, d3⟩ := row_cells hq.1 HX.out; cases e9; obtain ⟨b9, o9, e9, -, g0, g1, g2, g3⟩ := row_cells hq.2.1 HY.out; cases e9; unfold Oper.quietAt; go_simp; all_goals (first | rfl | (refine (rless_k true HLS.out hx64 hy64 _).mono ?_; rintro e w5 ⟨rfl, hbn⟩; exact ⟨rfl, both_keep hq hbn⟩)))); simp only [Act.put, List.setIfInBounds_toArray, List.set_cons_zero, List.set_cons_succ]; go_big_quiet_on))
       refine wpQuiet_nil ?_
       intro wq hq
       obtain ⟨-, -, hwq⟩ := hq
       go_wp2_with fail
       go_roundw
       case rel => exact ⟨i, rfl, by omega, HKK.out, hwq⟩
       case measure => simp only [Go.RowKit.intOf]; have := HI.out; omega
      | false =>
       have HLS := Lib.hid hls
       have hkk2 : i + 1 = K := by simpa [hls] using hkk
       replace hkk : K = j := by have := HI.out; omega
       clear hkk2
       have HKK := Lib.hid hkk
       clear hls hkk
       go_wp2_with fail
       refine quiet_held (fun w' => At w' w'.heap.size (some ⟨b0, o0, none⟩) (tvs l) ∧ At w' w'.heap.size (some ⟨g, og, none⟩) (tvs o) ∧ Below vr.heap.size vr w') (by kernel_rfl) (by kernel_rfl) ⟨at_drewE hcw2 ⟨1, rfl⟩, at_drewE hato2 ⟨1, rfl⟩, hbi.drew⟩ ?_
       repeat (first
        | go_big_quiet_skip
        | (simp only [hd])
        | (simp only [hwr])
        | (go_big_quiet_want; go_big_quiet_op; go_big_quiet_on)
        | (go_big_quiet_want; apply Exists.intro; refine ⟨fun wq hq => ?_, ?_⟩; (focus (obtain ⟨b9, o9, e9, -, d0, d1, d2, d3⟩ := row_cells hq.1 HX.out; cases e9; obtain ⟨b9, o9, e9, -, g0, g1, g2, g3⟩ := row_cells hq.2.1 HY.out; cases e9; unfold Oper.quietAt; go_simp; all_goals (first | rfl | (refine (rless_k false HLS.out hx64 hy64 _).mono ?_; rintro e w5 ⟨rfl, hbn⟩; exact ⟨rfl, both_keep hq hbn⟩)))); simp only [Act.put, List.setIfInBounds_toArray, List.set_cons_zero, List.set_cons_succ]; go_big_quiet_on))
       refine wpQuiet_nil ?_
       intro wq hq
       obtain ⟨hql, hqo, hwq⟩ := hq
       have HB1 := Lib.hid hwq
       have HKJ2 := HKK
       clear hql hqo hwq hbi
       rename World => w1
       by_cases hn0 : n = 0
       ·exact absurd hd (by simp; omega)
       ·obtain ⟨g2, cp, hvv, hg2, hcp, hcm, -, -⟩ := own_some HOWN.out (Nat.pos_of_ne_zero hn0)
        cases hvv
        have hat1 := HATO.out.keep HB1.out
        have hdl : (o.drop j).length = n - j := by rw [List.length_drop, HON.out]
        have htl : (o.take j).length = j := by rw [List.length_take]; have := HON.out; omega
        have hj4 : (j : Int) ≤ (c9 : Int) := by omega
        have hj3 : (j : Int) ≤ (n : Int) := by omega
        have hjz : (0 : Int) ≤ (j : Int) := by omega
        by_cases hjn : j < n
        ·have hc0 : ¬ c9 = j := by omega
         have HDL := Lib.hid hdl
         have HTL := Lib.hid htl
         have HA1 := Lib.hid hat1
         clear hdl htl hat1
         go_wp2_with (at_builtin; refine append_optR _ rfl _ _ rfl w1.heap.size _ 0 [] rfl (made0 _ _ (Nat.le_refl _)) (some ⟨g, j * 4, none⟩) (c9 - j) (o.drop j) (by rw [HDL.out]; rfl) (fun h => by cases h) (by rw [HDL.out]; omega) w1.heap.size (At.below (by have h := at_dropR HA1.out j; rw [Nat.zero_add] at h; exact h) ((Below.refl w1.heap.size w1).alloc (Nat.le_refl _) _)) (by rw [HDL.out]; omega) (by simp) ?_)
         intro v2 w2 hown2 hgrow2
         rw [show o.length - j = n - j by rw [HON.out]] at hown2
         have hb2a : Below w1.heap.size w1 w2 := below_own ((Below.refl _ _).alloc (Nat.le_refl _) _) (by simp) (made0 w1.heap.size w1 (Nat.le_refl _)) hgrow2
         obtain ⟨g3, c3, rfl, hg3, hcp3, hcm3, -, -⟩ := own_some hown2 (by omega)
         have hrest : At w2 w2.heap.size (some ⟨g3, 0, none⟩) (tvs (o.drop j)) := by
          obtain ⟨A9, c9, e9, ha, -, -⟩ := own_at hown2
          cases e9
          exact ha
         have HRS := Lib.hid hrest
         have HT2 := Lib.hid (at_takeR (HA1.out.keep hb2a) j)
         have hx2 := HCW.out.keep (HB1.out.trans (hb2a.mono HB1.out.size))
         obtain ⟨b9, o9, e9, hb02, x0, x1, x2, x3⟩ := row_cells hx2 HX.out
         cases e9
         have HB2 := Lib.hid (HB1.out.trans (hb2a.mono HB1.out.size))
         clear hown2 hgrow2 hrest hb2a hx2
         go_wp2_with fail
         go_region_held_law (fun w' => (w'.cell? ⟨b0, o0 + k * 4, none⟩ = some (.int .i64 (ch r)) ∧ w'.cell? ⟨b0, o0 + k * 4 + 1, none⟩ = some (.int .i64 (pa r)) ∧ w'.cell? ⟨b0, o0 + k * 4 + 2, none⟩ = some (.string (ba (nm r))) ∧ w'.cell? ⟨b0, o0 + k * 4 + 3, none⟩ = some (.float .f64 (rk r))) ∧ Below w2.heap.size w2 w')
          (first
           | (exact fKeep hb02 (by assumption) hbn)
           | (exact fAlloc hb02 (Nat.le_refl _) (by assumption) _)
           | (exact fAllocD hb02 (Nat.le_refl _) (by assumption) _)
           | (exact ⟨⟨x0, x1, x2, x3⟩, (Below.refl _ _).drew⟩)
           | go_keep)
          (first
           | (refine step_append_own rfl _ _ 22 rfl w2.heap.size 28 i0 _ 4 40 Tryz.underlying22 hi hz0 hz1 hz2 rfl (by decide) (.slice (some ⟨w2.heap.size, 0, none⟩) 0 0) 0 [] rfl (own_drew (made4 w2.heap.size w2 (Nat.le_refl _))) ⟨g, 0, none⟩ j _ (tvs (o.take j)) rfl (by rw [tvs_len, HTL.out]) (at_news (HT2.out.below (fBelow (by assumption)))) (tvs_one _) (by unfold maxLen; omega) (by omega) (by simp <;> omega) ?_; intro v3 w3 hown3 hgrow3; have hbn := below_own2 (Below.refl _ _) (by simp <;> omega) (own_drew (made4 w2.heap.size w2 (Nat.le_refl _))) hgrow3)
           | (refine step_append_own rfl _ _ 22 rfl w2.heap.size 28 i0 _ 4 40 Tryz.underlying22 hi hz0 hz1 hz2 rfl (by decide) (.slice (some ⟨w2.heap.size, 0, none⟩) 0 0) 0 [] rfl (own_drew ((made4 w2.heap.size w2 (Nat.le_refl _)).alloc (.cells #[.int .i64 (ch r), .int .i64 (pa r), .string (ba (nm r)), .float .f64 (rk r)] 28))) ⟨g, 0, none⟩ j _ (tvs (o.take j)) rfl (by rw [tvs_len, HTL.out]) (at_news (HT2.out.below (fBelow (by assumption)))) (tvs_one _) (by unfold maxLen; omega) (by omega) (by simp <;> omega) ?_; intro v3 w3 hown3 hgrow3; have hbn := below_own2 (Below.refl _ _) (by simp <;> omega) (own_drew ((made4 w2.heap.size w2 (Nat.le_refl _)).alloc (.cells #[.int .i64 (ch r), .int .i64 (pa r), .string (ba (nm r)), .float .f64 (rk r)] 28))) hgrow3; have hcy2 : Is w3 (w2.heap.size + 1) 28 [.int .i64 (ch r), .int .i64 (pa r), .string (ba (nm r)), .float .f64 (rk r)] := is_kept (is_new2 w2 [.int .i64 (ch r), .int .i64 (pa r), .string (ba (nm r)), .float .f64 (rk r)] _ _) hgrow3 (by simp [Value.ownBlock]))
           | (refine step_append_own rfl _ _ 22 rfl w2.heap.size 28 i0 _ 4 40 Tryz.underlying22 hi hz0 hz1 hz2 rfl (by decide) (.slice (some ⟨w2.heap.size + 1, 0, none⟩) 0 0) 0 [] rfl (made4_1 w2.heap.size w2 (.cells #[.int .i64 (ch r), .int .i64 (pa r), .string (ba (nm r)), .float .f64 (rk r)] 28) (Nat.le_refl _)) ⟨g, 0, none⟩ j _ (tvs (o.take j)) rfl (by rw [tvs_len, HTL.out]) (at_news (HT2.out.below (fBelow (by assumption)))) (tvs_one _) (by unfold maxLen; omega) (by omega) (by simp <;> omega) ?_; intro v3 w3 hown3 hgrow3; have hbn := below_own2 (Below.refl _ _) (by simp <;> omega) (made4_1 w2.heap.size w2 (.cells #[.int .i64 (ch r), .int .i64 (pa r), .string (ba (nm r)), .float .f64 (rk r)] 28) (Nat.le_refl _)) hgrow3; have hcy3 : Is w3 w2.heap.size 28 [.int .i64 (ch r), .int .i64 (pa r), .string (ba (nm r)), .float .f64 (rk r)] := is_kept (is_new1 w2 [.int .i64 (ch r), .int .i64 (pa r), .string (ba (nm r)), .float .f64 (rk r)] _ _) hgrow3 (by simp [Value.ownBlock]))
           | (refine step_append_own rfl _ _ 22 rfl w2.heap.size 28 i0 _ 4 40 Tryz.underlying22 hi hz0 hz1 hz2 rfl (by decide) _ _ _ rfl (hown3.alloc (.cells #[.int .i64 (ch r), .int .i64 (pa r), .string (ba (nm r)), .float .f64 (rk r)] 28)) ⟨w3.heap.size, 0, none⟩ 1 1 [.int .i64 (ch r), .int .i64 (pa r), .string (ba (nm r)), .float .f64 (rk r)] rfl rfl (is_news (is_new w3 28 [.int .i64 (ch r), .int .i64 (pa r), .string (ba (nm r)), .float .f64 (rk r)])) (tvs_one [r]) (by unfold maxLen; omega) (by omega) (fSize (Nat.le_refl _) (by assumption)) ?_; intro v4 w4 hown4 hgrow4; have hbn := below_own2 (Below.refl _ _) (fSize (Nat.le_refl _) (by assumption)) (hown3.alloc (.cells #[.int .i64 (ch r), .int .i64 (pa r), .string (ba (nm r)), .float .f64 (rk r)] 28)) hgrow4)
           | (refine step_append_own rfl _ _ 22 rfl w2.heap.size 28 i0 _ 4 40 Tryz.underlying22 hi hz0 hz1 hz2 rfl (by decide) _ _ _ rfl (hown3) ⟨w2.heap.size + 1, 0, none⟩ 1 1 [.int .i64 (ch r), .int .i64 (pa r), .string (ba (nm r)), .float .f64 (rk r)] rfl rfl (is_news hcy2) (tvs_one [r]) (by unfold maxLen; omega) (by omega) (fSize (Nat.le_refl _) (by assumption)) ?_; intro v4 w4 hown4 hgrow4; have hbn := below_own2 (Below.refl _ _) (fSize (Nat.le_refl _) (by assumption)) (hown3) hgrow4)
           | (refine step_append_own rfl _ _ 22 rfl w2.heap.size 28 i0 _ 4 40 Tryz.underlying22 hi hz0 hz1 hz2 rfl (by decide) _ _ _ rfl (hown3) ⟨w2.heap.size, 0, none⟩ 1 1 [.int .i64 (ch r), .int .i64 (pa r), .string (ba (nm r)), .float .f64 (rk r)] rfl rfl (is_news hcy3) (tvs_one [r]) (by unfold maxLen; omega) (by omega) (fSize (Nat.le_refl _) (by assumption)) ?_; intro v4 w4 hown4 hgrow4; have hbn := below_own2 (Below.refl _ _) (fSize (Nat.le_refl _) (by assumption)) (hown3) hgrow4)
           | (refine step_append_own rfl _ _ 22 rfl w2.heap.size 28 i0 _ 4 40 Tryz.underlying22 hi hz0 hz1 hz2 rfl (by decide) _ _ _ rfl hown4 ⟨g3, 0, none⟩ (n - j) _ (tvs (o.drop j)) rfl (by rw [tvs_len, HDL.out]) (at_news (HRS.out.below (fBelow (by assumption)))) (tvs_one _) (by unfold maxLen; omega) (by omega) (fSize (Nat.le_refl _) (by assumption)) ?_; intro v5 w5 hown5 hgrow5; have hbn := below_own2 (Below.refl _ _) (fSize (Nat.le_refl _) (by assumption)) hown4 hgrow5)
         )
         all_goals
          have hb5 : Below w2.heap.size w2 w5 := fBelow (by assumption)
          have hown := own_head4 (m := n + 1) (ys := tvs (insK o r)) hown5 (by omega) (by unfold insK; rw [HON.out, HK.out, HKJ2.out, tvs_append]; simp [tvs, rcs])
          have hs2 := Nat.le_trans hbw.size HB2.out.size
          have HO9 := Lib.hid (ownsRow_low hown hs2)
          have HB9 := Lib.hid ((hbw.trans (HB2.out.mono hbw.size)).trans (hb5.mono hs2))
          clear hown hown5 hown4 hown3 hgrow3 hgrow4 hgrow5 hs2 hb5
          try clear hcy2
          try clear hcy3
          go_wp2_with fail
          go_roundw
          case rel => exact ⟨k + 1, n + 1, insK o r, by go_num, by omega, by rw [HST.out]; simp [kidG, HQ.out], by rw [insK_len, HON.out], by omega, fun h => by omega, HO9.out, HB9.out⟩
          case measure => simp only [Go.RowKit.intOf]; omega
        ·obtain rfl : j = n := by omega
         by_cases hcj : c9 = j
         ·have hcj2 := hcj.symm
          subst hcj2
          have HTL := Lib.hid htl
          have HDN := Lib.hid (show o.drop j = [] from List.drop_of_length_le (by have := HON.out; omega))
          have HTN := Lib.hid (show o.take j = o from List.take_of_length_le (by have := HON.out; omega))
          have HA1 := Lib.hid hat1
          clear hdl htl hat1
          go_wp2_with fail
          generalize hw2 : World.alloc w1 _ = w2
          have hb2a : Below w1.heap.size w1 w2 := by rw [← hw2]; exact (Below.refl w1.heap.size w1).alloc (Nat.le_refl _) _
          have HT2 := Lib.hid (HA1.out.keep hb2a)
          have hx2 := HCW.out.keep (HB1.out.trans (hb2a.mono HB1.out.size))
          obtain ⟨b9, o9, e9, hb02, x0, x1, x2, x3⟩ := row_cells hx2 HX.out
          cases e9
          have HB2 := Lib.hid (HB1.out.trans (hb2a.mono HB1.out.size))
          clear hb2a hx2 hw2
          go_region_held_law (fun w' => (w'.cell? ⟨b0, o0 + k * 4, none⟩ = some (.int .i64 (ch r)) ∧ w'.cell? ⟨b0, o0 + k * 4 + 1, none⟩ = some (.int .i64 (pa r)) ∧ w'.cell? ⟨b0, o0 + k * 4 + 2, none⟩ = some (.string (ba (nm r))) ∧ w'.cell? ⟨b0, o0 + k * 4 + 3, none⟩ = some (.float .f64 (rk r))) ∧ Below w2.heap.size w2 w')
           (first
            | (exact fKeep hb02 (by assumption) hbn)
            | (exact fAlloc hb02 (Nat.le_refl _) (by assumption) _)
            | (exact fAllocD hb02 (Nat.le_refl _) (by assumption) _)
            | (exact ⟨⟨x0, x1, x2, x3⟩, (Below.refl _ _).drew⟩)
            | go_keep)
           (first
            | (refine step_append_own rfl _ _ 22 rfl w2.heap.size 28 i0 _ 4 40 Tryz.underlying22 hi hz0 hz1 hz2 rfl (by decide) (.slice (some ⟨w2.heap.size, 0, none⟩) 0 0) 0 [] rfl (own_drew (made4 w2.heap.size w2 (Nat.le_refl _))) ⟨g, 0, none⟩ j _ (tvs o) rfl (by rw [tvs_len]; have := HON.out; omega) (at_news (HT2.out.below (fBelow (by assumption)))) (tvs_one _) (by unfold maxLen; omega) (by omega) (by simp <;> omega) ?_; intro v3 w3 hown3 hgrow3; have hbn := below_own2 (Below.refl _ _) (by simp <;> omega) (own_drew (made4 w2.heap.size w2 (Nat.le_refl _))) hgrow3)
            | (refine step_append_own rfl _ _ 22 rfl w2.heap.size 28 i0 _ 4 40 Tryz.underlying22 hi hz0 hz1 hz2 rfl (by decide) (.slice (some ⟨w2.heap.size, 0, none⟩) 0 0) 0 [] rfl (own_drew ((made4 w2.heap.size w2 (Nat.le_refl _)).alloc (.cells #[.int .i64 (ch r), .int .i64 (pa r), .string (ba (nm r)), .float .f64 (rk r)] 28))) ⟨g, 0, none⟩ j _ (tvs o) rfl (by rw [tvs_len]; have := HON.out; omega) (at_news (HT2.out.below (fBelow (by assumption)))) (tvs_one _) (by unfold maxLen; omega) (by omega) (by simp <;> omega) ?_; intro v3 w3 hown3 hgrow3; have hbn := below_own2 (Below.refl _ _) (by simp <;> omega) (own_drew ((made4 w2.heap.size w2 (Nat.le_refl _)).alloc (.cells #[.int .i64 (ch r), .int .i64 (pa r), .string (ba (nm r)), .float .f64 (rk r)] 28))) hgrow3; have hcy2 : Is w3 (w2.heap.size + 1) 28 [.int .i64 (ch r), .int .i64 (pa r), .string (ba (nm r)), .float .f64 (rk r)] := is_kept (is_new2 w2 [.int .i64 (ch r), .int .i64 (pa r), .string (ba (nm r)), .float .f64 (rk r)] _ _) hgrow3 (by simp [Value.ownBlock]))
            | (refine step_append_own rfl _ _ 22 rfl w2.heap.size 28 i0 _ 4 40 Tryz.underlying22 hi hz0 hz1 hz2 rfl (by decide) (.slice (some ⟨w2.heap.size + 1, 0, none⟩) 0 0) 0 [] rfl (made4_1 w2.heap.size w2 (.cells #[.int .i64 (ch r), .int .i64 (pa r), .string (ba (nm r)), .float .f64 (rk r)] 28) (Nat.le_refl _)) ⟨g, 0, none⟩ j _ (tvs o) rfl (by rw [tvs_len]; have := HON.out; omega) (at_news (HT2.out.below (fBelow (by assumption)))) (tvs_one _) (by unfold maxLen; omega) (by omega) (by simp <;> omega) ?_; intro v3 w3 hown3 hgrow3; have hbn := below_own2 (Below.refl _ _) (by simp <;> omega) (made4_1 w2.heap.size w2 (.cells #[.int .i64 (ch r), .int .i64 (pa r), .string (ba (nm r)), .float .f64 (rk r)] 28) (Nat.le_refl _)) hgrow3; have hcy3 : Is w3 w2.heap.size 28 [.int .i64 (ch r), .int .i64 (pa r), .string (ba (nm r)), .float .f64 (rk r)] := is_kept (is_new1 w2 [.int .i64 (ch r), .int .i64 (pa r), .string (ba (nm r)), .float .f64 (rk r)] _ _) hgrow3 (by simp [Value.ownBlock]))
            | (refine step_append_own rfl _ _ 22 rfl w2.heap.size 28 i0 _ 4 40 Tryz.underlying22 hi hz0 hz1 hz2 rfl (by decide) _ _ _ rfl (hown3.alloc (.cells #[.int .i64 (ch r), .int .i64 (pa r), .string (ba (nm r)), .float .f64 (rk r)] 28)) ⟨w3.heap.size, 0, none⟩ 1 1 [.int .i64 (ch r), .int .i64 (pa r), .string (ba (nm r)), .float .f64 (rk r)] rfl rfl (is_news (is_new w3 28 [.int .i64 (ch r), .int .i64 (pa r), .string (ba (nm r)), .float .f64 (rk r)])) (tvs_one [r]) (by unfold maxLen; omega) (by omega) (fSize (Nat.le_refl _) (by assumption)) ?_; intro v4 w4 hown4 hgrow4; have hbn := below_own2 (Below.refl _ _) (fSize (Nat.le_refl _) (by assumption)) (hown3.alloc (.cells #[.int .i64 (ch r), .int .i64 (pa r), .string (ba (nm r)), .float .f64 (rk r)] 28)) hgrow4)
            | (refine step_append_own rfl _ _ 22 rfl w2.heap.size 28 i0 _ 4 40 Tryz.underlying22 hi hz0 hz1 hz2 rfl (by decide) _ _ _ rfl (hown3) ⟨w2.heap.size + 1, 0, none⟩ 1 1 [.int .i64 (ch r), .int .i64 (pa r), .string (ba (nm r)), .float .f64 (rk r)] rfl rfl (is_news hcy2) (tvs_one [r]) (by unfold maxLen; omega) (by omega) (fSize (Nat.le_refl _) (by assumption)) ?_; intro v4 w4 hown4 hgrow4; have hbn := below_own2 (Below.refl _ _) (fSize (Nat.le_refl _) (by assumption)) (hown3) hgrow4)
            | (refine step_append_own rfl _ _ 22 rfl w2.heap.size 28 i0 _ 4 40 Tryz.underlying22 hi hz0 hz1 hz2 rfl (by decide) _ _ _ rfl (hown3) ⟨w2.heap.size, 0, none⟩ 1 1 [.int .i64 (ch r), .int .i64 (pa r), .string (ba (nm r)), .float .f64 (rk r)] rfl rfl (is_news hcy3) (tvs_one [r]) (by unfold maxLen; omega) (by omega) (fSize (Nat.le_refl _) (by assumption)) ?_; intro v4 w4 hown4 hgrow4; have hbn := below_own2 (Below.refl _ _) (fSize (Nat.le_refl _) (by assumption)) (hown3) hgrow4)
            | (refine step_append_own rfl _ _ 22 rfl w2.heap.size 28 i0 _ 4 40 Tryz.underlying22 hi hz0 hz1 hz2 rfl (by decide) _ _ _ rfl hown4 ⟨w1.heap.size, 0, none⟩ 0 _ [] rfl rfl (fun j u h => by simp at h) (fun u h => by simp at h) (by unfold maxLen; omega) (by omega) (fSize (Nat.le_refl _) (by assumption)) ?_; intro v5 w5 hown5 hgrow5; have hbn := below_own2 (Below.refl _ _) (fSize (Nat.le_refl _) (by assumption)) hown4 hgrow5)
          )
          all_goals
           have hb5 : Below w2.heap.size w2 w5 := fBelow (by assumption)
           have hown := own_head4 (m := j + 1) (ys := tvs (insK o r)) hown5 (by omega) (by unfold insK; rw [HON.out, HK.out, HKJ2.out, HDN.out, HTN.out, tvs_append]; simp [tvs, rcs])
           have hs2 := Nat.le_trans hbw.size HB2.out.size
           have HO9 := Lib.hid (ownsRow_low hown hs2)
           have HB9 := Lib.hid ((hbw.trans (HB2.out.mono hbw.size)).trans (hb5.mono hs2))
           clear hown hown5 hown4 hown3 hgrow3 hgrow4 hgrow5 hs2 hb5
           try clear hcy2
           try clear hcy3
           go_wp2_with fail
           go_roundw
           case rel => exact ⟨k + 1, j + 1, insK o r, by go_num, by omega, by rw [HST.out]; simp [kidG, HQ.out], by rw [insK_len, HON.out], by omega, fun h => by omega, HO9.out, HB9.out⟩
           case measure => simp only [Go.RowKit.intOf]; omega
         ·have hc0 : ¬ c9 = j := hcj
          have HTL := Lib.hid htl
          have HDN := Lib.hid (show o.drop j = [] from List.drop_of_length_le (by have := HON.out; omega))
          have HTN := Lib.hid (show o.take j = o from List.take_of_length_le (by have := HON.out; omega))
          have HA1 := Lib.hid hat1
          clear hdl htl hat1
          go_wp2_with fail
          generalize hw2 : World.alloc w1 _ = w2
          have hb2a : Below w1.heap.size w1 w2 := by rw [← hw2]; exact (Below.refl w1.heap.size w1).alloc (Nat.le_refl _) _
          have HT2 := Lib.hid (HA1.out.keep hb2a)
          have hx2 := HCW.out.keep (HB1.out.trans (hb2a.mono HB1.out.size))
          obtain ⟨b9, o9, e9, hb02, x0, x1, x2, x3⟩ := row_cells hx2 HX.out
          cases e9
          have HB2 := Lib.hid (HB1.out.trans (hb2a.mono HB1.out.size))
          clear hb2a hx2 hw2
          go_region_held_law (fun w' => (w'.cell? ⟨b0, o0 + k * 4, none⟩ = some (.int .i64 (ch r)) ∧ w'.cell? ⟨b0, o0 + k * 4 + 1, none⟩ = some (.int .i64 (pa r)) ∧ w'.cell? ⟨b0, o0 + k * 4 + 2, none⟩ = some (.string (ba (nm r))) ∧ w'.cell? ⟨b0, o0 + k * 4 + 3, none⟩ = some (.float .f64 (rk r))) ∧ Below w2.heap.size w2 w')
           (first
            | (exact fKeep hb02 (by assumption) hbn)
            | (exact fAlloc hb02 (Nat.le_refl _) (by assumption) _)
            | (exact fAllocD hb02 (Nat.le_refl _) (by assumption) _)
            | (exact ⟨⟨x0, x1, x2, x3⟩, (Below.refl _ _).drew⟩)
            | go_keep)
           (first
            | (refine step_append_own rfl _ _ 22 rfl w2.heap.size 28 i0 _ 4 40 Tryz.underlying22 hi hz0 hz1 hz2 rfl (by decide) (.slice (some ⟨w2.heap.size, 0, none⟩) 0 0) 0 [] rfl (own_drew (made4 w2.heap.size w2 (Nat.le_refl _))) ⟨g, 0, none⟩ j _ (tvs o) rfl (by rw [tvs_len]; have := HON.out; omega) (at_news (HT2.out.below (fBelow (by assumption)))) (tvs_one _) (by unfold maxLen; omega) (by omega) (by simp <;> omega) ?_; intro v3 w3 hown3 hgrow3; have hbn := below_own2 (Below.refl _ _) (by simp <;> omega) (own_drew (made4 w2.heap.size w2 (Nat.le_refl _))) hgrow3)
            | (refine step_append_own rfl _ _ 22 rfl w2.heap.size 28 i0 _ 4 40 Tryz.underlying22 hi hz0 hz1 hz2 rfl (by decide) (.slice (some ⟨w2.heap.size, 0, none⟩) 0 0) 0 [] rfl (own_drew ((made4 w2.heap.size w2 (Nat.le_refl _)).alloc (.cells #[.int .i64 (ch r), .int .i64 (pa r), .string (ba (nm r)), .float .f64 (rk r)] 28))) ⟨g, 0, none⟩ j _ (tvs o) rfl (by rw [tvs_len]; have := HON.out; omega) (at_news (HT2.out.below (fBelow (by assumption)))) (tvs_one _) (by unfold maxLen; omega) (by omega) (by simp <;> omega) ?_; intro v3 w3 hown3 hgrow3; have hbn := below_own2 (Below.refl _ _) (by simp <;> omega) (own_drew ((made4 w2.heap.size w2 (Nat.le_refl _)).alloc (.cells #[.int .i64 (ch r), .int .i64 (pa r), .string (ba (nm r)), .float .f64 (rk r)] 28))) hgrow3; have hcy2 : Is w3 (w2.heap.size + 1) 28 [.int .i64 (ch r), .int .i64 (pa r), .string (ba (nm r)), .float .f64 (rk r)] := is_kept (is_new2 w2 [.int .i64 (ch r), .int .i64 (pa r), .string (ba (nm r)), .float .f64 (rk r)] _ _) hgrow3 (by simp [Value.ownBlock]))
            | (refine step_append_own rfl _ _ 22 rfl w2.heap.size 28 i0 _ 4 40 Tryz.underlying22 hi hz0 hz1 hz2 rfl (by decide) (.slice (some ⟨w2.heap.size + 1, 0, none⟩) 0 0) 0 [] rfl (made4_1 w2.heap.size w2 (.cells #[.int .i64 (ch r), .int .i64 (pa r), .string (ba (nm r)), .float .f64 (rk r)] 28) (Nat.le_refl _)) ⟨g, 0, none⟩ j _ (tvs o) rfl (by rw [tvs_len]; have := HON.out; omega) (at_news (HT2.out.below (fBelow (by assumption)))) (tvs_one _) (by unfold maxLen; omega) (by omega) (by simp <;> omega) ?_; intro v3 w3 hown3 hgrow3; have hbn := below_own2 (Below.refl _ _) (by simp <;> omega) (made4_1 w2.heap.size w2 (.cells #[.int .i64 (ch r), .int .i64 (pa r), .string (ba (nm r)), .float .f64 (rk r)] 28) (Nat.le_refl _)) hgrow3; have hcy3 : Is w3 w2.heap.size 28 [.int .i64 (ch r), .int .i64 (pa r), .string (ba (nm r)), .float .f64 (rk r)] := is_kept (is_new1 w2 [.int .i64 (ch r), .int .i64 (pa r), .string (ba (nm r)), .float .f64 (rk r)] _ _) hgrow3 (by simp [Value.ownBlock]))
            | (refine step_append_own rfl _ _ 22 rfl w2.heap.size 28 i0 _ 4 40 Tryz.underlying22 hi hz0 hz1 hz2 rfl (by decide) _ _ _ rfl (hown3.alloc (.cells #[.int .i64 (ch r), .int .i64 (pa r), .string (ba (nm r)), .float .f64 (rk r)] 28)) ⟨w3.heap.size, 0, none⟩ 1 1 [.int .i64 (ch r), .int .i64 (pa r), .string (ba (nm r)), .float .f64 (rk r)] rfl rfl (is_news (is_new w3 28 [.int .i64 (ch r), .int .i64 (pa r), .string (ba (nm r)), .float .f64 (rk r)])) (tvs_one [r]) (by unfold maxLen; omega) (by omega) (fSize (Nat.le_refl _) (by assumption)) ?_; intro v4 w4 hown4 hgrow4; have hbn := below_own2 (Below.refl _ _) (fSize (Nat.le_refl _) (by assumption)) (hown3.alloc (.cells #[.int .i64 (ch r), .int .i64 (pa r), .string (ba (nm r)), .float .f64 (rk r)] 28)) hgrow4)
            | (refine step_append_own rfl _ _ 22 rfl w2.heap.size 28 i0 _ 4 40 Tryz.underlying22 hi hz0 hz1 hz2 rfl (by decide) _ _ _ rfl (hown3) ⟨w2.heap.size + 1, 0, none⟩ 1 1 [.int .i64 (ch r), .int .i64 (pa r), .string (ba (nm r)), .float .f64 (rk r)] rfl rfl (is_news hcy2) (tvs_one [r]) (by unfold maxLen; omega) (by omega) (fSize (Nat.le_refl _) (by assumption)) ?_; intro v4 w4 hown4 hgrow4; have hbn := below_own2 (Below.refl _ _) (fSize (Nat.le_refl _) (by assumption)) (hown3) hgrow4)
            | (refine step_append_own rfl _ _ 22 rfl w2.heap.size 28 i0 _ 4 40 Tryz.underlying22 hi hz0 hz1 hz2 rfl (by decide) _ _ _ rfl (hown3) ⟨w2.heap.size, 0, none⟩ 1 1 [.int .i64 (ch r), .int .i64 (pa r), .string (ba (nm r)), .float .f64 (rk r)] rfl rfl (is_news hcy3) (tvs_one [r]) (by unfold maxLen; omega) (by omega) (fSize (Nat.le_refl _) (by assumption)) ?_; intro v4 w4 hown4 hgrow4; have hbn := below_own2 (Below.refl _ _) (fSize (Nat.le_refl _) (by assumption)) (hown3) hgrow4)
            | (refine step_append_own rfl _ _ 22 rfl w2.heap.size 28 i0 _ 4 40 Tryz.underlying22 hi hz0 hz1 hz2 rfl (by decide) _ _ _ rfl hown4 ⟨w1.heap.size, 0, none⟩ 0 _ [] rfl rfl (fun j u h => by simp at h) (fun u h => by simp at h) (by unfold maxLen; omega) (by omega) (fSize (Nat.le_refl _) (by assumption)) ?_; intro v5 w5 hown5 hgrow5; have hbn := below_own2 (Below.refl _ _) (fSize (Nat.le_refl _) (by assumption)) hown4 hgrow5)
          )
          all_goals
           have hb5 : Below w2.heap.size w2 w5 := fBelow (by assumption)
           have hown := own_head4 (m := j + 1) (ys := tvs (insK o r)) hown5 (by omega) (by unfold insK; rw [HON.out, HK.out, HKJ2.out, HDN.out, HTN.out, tvs_append]; simp [tvs, rcs])
           have hs2 := Nat.le_trans hbw.size HB2.out.size
           have HO9 := Lib.hid (ownsRow_low hown hs2)
           have HB9 := Lib.hid ((hbw.trans (HB2.out.mono hbw.size)).trans (hb5.mono hs2))
           clear hown hown5 hown4 hown3 hgrow3 hgrow4 hgrow5 hs2 hb5
           try clear hcy2
           try clear hcy3
           go_wp2_with fail
           go_roundw
           case rel => exact ⟨k + 1, j + 1, insK o r, by go_num, by omega, by rw [HST.out]; simp [kidG, HQ.out], by rw [insK_len, HON.out], by omega, fun h => by omega, HO9.out, HB9.out⟩
           case measure => simp only [Go.RowKit.intOf]; omega
   ·have hqb : (pa r != p) = true := by simpa using hq
    have HQ := Lib.hid hq
    clear hq
    go_wp2_with fail
    go_roundw
    case rel => exact ⟨k + 1, n, o, by go_num, by omega, by rw [HST.out]; simp [kidG, HQ.out], HON.out, by omega, HVN.out, HOWN.out, hbw⟩
    case measure => simp only [Go.RowKit.intOf]; omega
  ·obtain rfl : k = l.length := by omega
   have hR := HR.out
   have hfo := HFO.out
   rw [List.take_length] at hfo
   rw [hfo] at hR
   have HRR := Lib.hid hR
   clear hR
   go_wp2_with fail
   go_ret
   have hh := HOWN.out
   rw [← HRR.out]
   refine own_toldR (B := w.heap.size) ?_ hbw
   rw [HON.out]
   exact hh
end Go.Proofs.YtkobmnbjeppnaaaGreat
