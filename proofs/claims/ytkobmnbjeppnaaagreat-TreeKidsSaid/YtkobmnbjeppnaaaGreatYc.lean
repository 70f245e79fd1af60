/-
 Path and Reached: the document's.
-/
import Derived.Test.YtkobmnbjeppnaaaGreatTk
import Derived.Test.YtkobmnbjeppnaaaGreatQa
import Derived.Test.YtkobmnbjeppnaaaGreatTn
namespace Go.Proofs.YtkobmnbjeppnaaaGreat
open Go.RowKit Go.IntWalk
attribute [local go_sem] Oper.semAt_some
set_option maxRecDepth 100000
set_option maxHeartbeats 8000000 in
theorem rpath_c (A : Option Addr) (cap : Nat) (l : List Rw) (c0 : Int) (hl : l.length ≤ 50000) (w : World) (hc : At w w.heap.size A (tvs l)) :
  Calls Tryz.prog 24 #[.slice A l.length cap, .int .i64 c0] w (PathEnd (wayR l c0) w) := by
 obtain ⟨i0, hi, hz0, hz1, hz2⟩ := info_parts Tryz.info3
 obtain ⟨R, hR⟩ : ∃ R, wayR l c0 = R := ⟨_, rfl⟩
 rw [hR]
 unfold wayR at hR
 have HR := Lib.hid hR
 have HC := Lib.hid hc
 have HL := Lib.hid (show l.length ≤ maxLen by unfold maxLen; omega)
 clear hR hc
 go_enter Tryz.func24, Tryz.ntmps24
 go_wp2_with fail
 go_loopw [6, 7] (fun v i wr => ∃ (k cap : Nat) (Av : Option Addr) (p : List Int) (c : Int), i = .int .i64 (k : Int) ∧ v = .slice Av (k + 1) cap ∧ k ≤ l.length + 1 ∧ p.length = k + 1 ∧ p[k]? = some c ∧ wayG l (l.length + 1 - k) p c = R ∧ wr.ownsRow w.heap.size 3 1 v (k + 1) (ivs p) ∧ Below w.heap.size w wr) (fun _ i _ => l.length + 1 - (Go.RowKit.intOf i).toNat)
 case atStart => exact ⟨0, 1, _, [c0], c0, rfl, rfl, Nat.zero_le _, rfl, rfl, HR.out, own_oneI w c0, (Below.refl _ _).alloc (Nat.le_refl _) _⟩
 case round =>
  obtain ⟨k, cp, Av, p, c, rfl, rfl, hk, hpl, hpc, hway, hown, hbw⟩ := hrel
  obtain ⟨g, cp2, hv, hg, hcp, hcm, hfz, hcl⟩ := own_some hown (Nat.succ_pos k)
  cases hv
  have hpk := hcl k _ (ivs_at hpc)
  have hlg : g < wr.heap.size := World.block_lt_of_cell? _ _ hpk
  have HOWN := Lib.hid hown
  have HPL := Lib.hid hpl
  have HPC := Lib.hid hpc
  have HG := Lib.hid hg
  clear hown hpl hpc hfz hcl
  by_cases hlt : k < l.length + 1
  ·obtain ⟨m, hm⟩ : ∃ m, l.length + 1 - k = m + 1 := ⟨l.length - k, by omega⟩
   rw [hm, wayG] at hway
   have hcw := HC.out.keep hbw
   have hk0 : (0 : Int) ≤ (k : Int) := by omega
   have hk1 : (k : Int) ≤ (l.length : Int) := by omega
   have hk2 : (k : Int) < (k : Int) + 1 := by omega
   have HM := Lib.hid hm
   clear hm
   cases hf : fnd l c with
   | none =>
    have HF := Lib.hid hf
    rw [hf] at hway
    by_cases hq : c = 0
    ·subst hq
     have hway2 : some p = R := by rw [← hway]; simp
     have HW := Lib.hid hway2
     clear hway hway2 hf
     go_wp2_with fail
     refine (rfind_none HF.out HL.out hcw).mono ?_
     rintro e w1 ⟨rfl, hb1⟩
     have hpk1 := (hb1.cell (p := ⟨g, k, none⟩) hlg).trans hpk
     have hlg1 : g < w1.heap.size := Nat.lt_of_lt_of_le hlg hb1.size
     have hpk2 : ∀ o, (w1.alloc o).cell? ⟨g, k, none⟩ = some (.int .i64 0) := fun o => (((Below.refl w1.heap.size w1).alloc (Nat.le_refl _) o).cell (p := ⟨g, k, none⟩) hlg1).trans hpk1
     have hbw1 := hbw.trans (hb1.mono hbw.size)
     have hown1 := below_ownI HOWN.out hb1
     have HO1 := Lib.hid hown1
     clear hown1
     go_wp2_with fail
     refine bodyPost_ret (v := .tuple #[.slice (some ⟨g, 0, none⟩) (k + 1) cp, .bool true]) (by simp [results, Tryz.f24, go_sem]) rfl ?_
     rw [← HW.out]
     obtain ⟨A9, c9, e9, ha9, hf9, hc9⟩ := own_at (HO1.out.alloc (.cells #[.int .i64 0, .int .i64 0, .string ⟨#[]⟩, .float .f64 0] 28))
     cases e9
     have hpl := HPL.out
     refine ⟨some ⟨g, 0, none⟩, cp, (by rw [Option.getD_some, hpl]; rfl), ha9, (fun h => by cases h), (by rw [Option.getD_some, hpl]; exact hc9), hbw1.alloc hbw1.size _⟩
    ·have hqb : (c == 0) = false := by simpa using hq
     have hway2 : none = R := by rw [← hway]; simp [hq]
     have HW := Lib.hid hway2
     clear hway hway2 hf hq
     go_wp2_with fail
     refine (rfind_none HF.out HL.out hcw).mono ?_
     rintro e w1 ⟨rfl, hb1⟩
     have hpk1 := (hb1.cell (p := ⟨g, k, none⟩) hlg).trans hpk
     have hlg1 : g < w1.heap.size := Nat.lt_of_lt_of_le hlg hb1.size
     have hpk2 : ∀ o, (w1.alloc o).cell? ⟨g, k, none⟩ = some (.int .i64 c) := fun o => (((Below.refl w1.heap.size w1).alloc (Nat.le_refl _) o).cell (p := ⟨g, k, none⟩) hlg1).trans hpk1
     have hbw1 := hbw.trans (hb1.mono hbw.size)
     have hown1 := below_ownI HOWN.out hb1
     have HO1 := Lib.hid hown1
     clear hown1
     go_wp2_with fail
     refine bodyPost_ret (v := .tuple #[.slice none 0 0, .bool false]) (by simp [results, Tryz.f24, go_sem]) rfl ?_
     rw [← HW.out]
     exact path_none (hbw1.alloc hbw1.size _)
   | some r =>
    have HF := Lib.hid hf
    rw [hf] at hway
    replace hway : (if pa r ∈ p then none else wayG l m (p ++ [pa r]) (pa r)) = R := hway
    have HW := Lib.hid hway
    clear hway hf
    go_wp2_with fail
    refine (rfind_some HF.out HL.out hcw).mono ?_
    rintro e w1 ⟨rfl, hb1⟩
    have hbw1 := hbw.trans (hb1.mono hbw.size)
    have HO1 := Lib.hid (below_ownI HOWN.out hb1)
    have HB1 := Lib.hid hbw1
    have HXX := Lib.hid (And.intro hpk (And.intro hb1 hcw))
    clear hb1 hbw1 hpk hcw hbw
    go_wp2_with fail
    have hbox := box4 (r := r) (cells4 w1 (.int .i64 (ch r)) (.int .i64 (pa r)) (.string (ba (nm r))) (.float .f64 (rk r)) 28)
    have HBOX := Lib.hid hbox.2.1
    have HO2 := Lib.hid (HO1.out.alloc (.cells #[.int .i64 (ch r), .int .i64 (pa r), .string (ba (nm r)), .float .f64 (rk r)] 28))
    have HB2 := Lib.hid (HB1.out.alloc HB1.out.size (.cells #[.int .i64 (ch r), .int .i64 (pa r), .string (ba (nm r)), .float .f64 (rk r)] 28))
    have hgn : g ≠ w1.heap.size := by have := (HO1.out.lt g rfl).2; omega
    obtain ⟨W, hW⟩ : ∃ W, w1.alloc (.cells #[.int .i64 (ch r), .int .i64 (pa r), .string (ba (nm r)), .float .f64 (rk r)] 28) = W := ⟨_, rfl⟩
    rw [hW] at HBOX HO2 HB2 ⊢
    clear hbox hW HB1 HO1
    go_loopw [10] (fun i wi => ∃ (j q : Nat), i = .int .i64 (j : Int) ∧ j ≤ k + 1 ∧ (∀ x ∈ p.take j, x ≠ pa r) ∧ wi = W.drewN q) (fun i _ => k + 1 - (Go.RowKit.intOf i).toNat)
    case atStart => exact ⟨0, 0, rfl, Nat.zero_le _, fun x hx => by simp at hx, rfl⟩
    case round =>
     obtain ⟨j, q, rfl, hj, hno, rfl⟩ := hrel
     have HNO := Lib.hid hno
     clear hno
     have hbx : W.cell? ⟨w1.heap.size, 1, none⟩ = some (.int .i64 (pa r)) := HBOX.out
     have hj0 : (0 : Int) ≤ (j : Int) := by omega
     by_cases hjk : j < k + 1
     ·obtain ⟨x, hx⟩ := some_at (show j < p.length by have := HPL.out; omega)
      have hjc : W.cell? ⟨g, j, none⟩ = some (.int .i64 x) := cell_ownI HO2.out (ivs_at hx)
      have hj1 : (j : Int) ≤ (k : Int) := by omega
      have hj2 : (j : Int) < (k : Int) + 1 := by omega
      have HX := Lib.hid hx
      clear hx
      by_cases hq : x = pa r
      ·have hqb : (x == pa r) = true := by simpa using hq
       have HQ := Lib.hid hq
       clear hq
       go_wp2_with fail
       go_region
       go_wp2_with fail
       refine bodyPost_ret (v := .tuple #[.slice none 0 0, .bool false]) (by simp [results, Tryz.f24, go_sem]) rfl ?_
       have hW := HW.out
       rw [if_pos (by rw [← HQ.out]; exact mem_at HX.out)] at hW
       rw [← hW]
       exact path_none (below_drewN HB2.out _)
      ·have hqb : (x == pa r) = false := by simpa using hq
       have HQ := Lib.hid hq
       clear hq
       go_wp2_with fail
       go_region
       go_wp2_with fail
       go_roundw
       case rel =>
        refine ⟨j + 1, _, by go_num, by omega, ?_, rfl⟩
        intro y hy
        rw [List.take_add_one, HX.out, List.mem_append] at hy
        rcases hy with hy | hy
        ·exact HNO.out y hy
        ·simp at hy; rw [hy]; exact HQ.out
       case measure => simp only [Go.RowKit.intOf]; omega
     ·obtain rfl : j = k + 1 := by omega
      have hnm : pa r ∉ p := fun hm => by
       have h := HNO.out (pa r)
       rw [← HPL.out, List.take_length] at h
       exact h hm rfl
      have hW := HW.out
      rw [if_neg hnm] at hW
      have HWW := Lib.hid hW
      clear hW hnm
      go_wp2_with (at_builtin; refine append_optI _ rfl _ _ rfl w.heap.size (W.drewN q).heap.size.succ _ _ p rfl ((ownsRow_drewN HO2.out q).alloc (.cells #[.int .i64 (pa r)] 3)) (some ⟨(W.drewN q).heap.size, 0, none⟩) 1 [pa r] 1 rfl rfl (fun h => by cases h) (Nat.le_refl _) (at_oneI (W.drewN q) (pa r)) (by omega) (by have := HB2.out.size; simp; omega) ?_)
      intro v3 w3 hown3 hgrow3
      have hb3 : Below w.heap.size w w3 := below_own ((below_drewN HB2.out q).alloc HB2.out.size (.cells #[.int .i64 (pa r)] 3)) (by have := HB2.out.size; simp; omega) ((ownsRow_drewN HO2.out q).alloc (.cells #[.int .i64 (pa r)] 3)) hgrow3
      obtain ⟨A9, c9, rfl, -, -, -⟩ := own_at hown3
      have HO3 := Lib.hid hown3
      clear hown3 hgrow3
      go_wp2_with fail
      go_roundw
      case rel =>
       refine ⟨k + 1, c9, A9, p ++ [pa r], pa r, by go_num, rfl, by omega, by rw [List.length_append, HPL.out]; rfl, ?_, ?_, HO3.out, hb3⟩
       ·rw [List.getElem?_append_right (by have := HPL.out; omega), HPL.out, Nat.sub_self]; rfl
       ·rw [show l.length + 1 - (k + 1) = m by have := HM.out; omega]
        exact HWW.out
      case measure => simp only [Go.RowKit.intOf]; omega
  ·obtain rfl : k = l.length + 1 := by omega
   rw [Nat.sub_self, wayG] at hway
   have HW := Lib.hid hway
   clear hway
   go_wp2_with fail
   refine bodyPost_ret (v := .tuple #[.slice none 0 0, .bool false]) (by simp [results, Tryz.f24, go_sem]) rfl ?_
   rw [← HW.out]
   exact path_none hbw
theorem rpath_no {A : Option Addr} {cap : Nat} {l : List Rw} {c : Int} (h : wayR l c = none) (hl : l.length ≤ 50000) {w : World} (hc : At w w.heap.size A (tvs l)) :
  Calls Tryz.prog 24 #[.slice A l.length cap, .int .i64 c] w fun e w' => (∃ A1 n c1, e = .returned (.tuple #[.slice A1 n c1, .bool false])) ∧ Below w.heap.size w w' :=
 (rpath_c A cap l c hl w hc).mono fun e w' h2 => by
  rw [h] at h2
  obtain ⟨A1, c1, rfl, _, _, _, hb⟩ := h2
  exact ⟨⟨A1, _, c1, rfl⟩, hb⟩
theorem rpath_yes {A : Option Addr} {cap : Nat} {l : List Rw} {c : Int} (h : (wayR l c).isSome = true) (hl : l.length ≤ 50000) {w : World} (hc : At w w.heap.size A (tvs l)) :
  Calls Tryz.prog 24 #[.slice A l.length cap, .int .i64 c] w fun e w' => (∃ A1 n c1, e = .returned (.tuple #[.slice A1 n c1, .bool true])) ∧ Below w.heap.size w w' :=
 (rpath_c A cap l c hl w hc).mono fun e w' h2 => by
  obtain ⟨A1, c1, rfl, _, _, _, hb⟩ := h2
  rw [h]
  exact ⟨⟨A1, _, c1, rfl⟩, hb⟩
set_option maxHeartbeats 8000000 in
theorem rreached_c (A : Option Addr) (cap : Nat) (l : List Rw) (hl : l.length ≤ 10000) (w : World) (hc : At w w.heap.size A (tvs l)) :
  Calls Tryz.prog 33 #[.slice A l.length cap] w (ToldI (reachR l) w) := by
 obtain ⟨i0, hi, hz0, hz1, hz2⟩ := info_parts Tryz.info3
 obtain ⟨R, hR⟩ : ∃ R, reachR l = R := ⟨_, rfl⟩
 rw [hR]
 unfold reachR at hR
 have HR := Lib.hid hR
 have HC := Lib.hid hc
 have hl5 : l.length ≤ 50000 := by omega
 clear hR hc
 go_enter Tryz.func33, Tryz.ntmps33
 go_wp2_with fail
 go_loopw [3, 4] (fun v i wr => ∃ (k n : Nat) (o : List Int), i = .int .i64 (k : Int) ∧ k ≤ l.length ∧ (l.take k).foldl (reachG l) [0] = o ∧ o.length = n ∧ 0 < n ∧ n ≤ k + 1 ∧ wr.ownsRow w.heap.size 3 1 v n (ivs o) ∧ Below w.heap.size w wr) (fun _ i _ => l.length - (Go.RowKit.intOf i).toNat)
 case atStart => exact ⟨0, 1, [0], rfl, Nat.zero_le _, rfl, rfl, Nat.zero_lt_one, Nat.le_refl _, own_oneI w 0, (Below.refl _ _).alloc (Nat.le_refl _) _⟩
 case round =>
  obtain ⟨k, n, o, rfl, hk, hfo, hon, hn0, hnk, hown, hbw⟩ := hrel
  obtain ⟨g, cp, rfl, hg, hcp, hcm, hfz, hcl⟩ := own_some hown hn0
  clear hfz hcl
  have HOWN := Lib.hid hown
  have HFO := Lib.hid hfo
  have HON := Lib.hid hon
  clear hown hfo hon
  by_cases hlt : k < l.length
  ·obtain ⟨r, hr⟩ := some_at hlt
   have hcw := HC.out.keep hbw
   obtain ⟨b0, o0, rfl, hb0, c0, -⟩ := row_cells hcw hr
   have hki : (0 : Int) ≤ (k : Int) := by omega
   have hkl : (k : Int) < (l.length : Int) := by omega
   have hstep := reach_step hr
   rw [HFO.out] at hstep
   have HST := Lib.hid hstep
   have HX := Lib.hid hr
   clear hr hstep
   cases hw : wayR l (ch r) with
   | none =>
    have HW := Lib.hid hw
    clear hw
    go_wp2_with fail
    refine (rpath_no HW.out hl5 hcw).mono ?_
    rintro e w1 ⟨⟨A1, n1, c1, rfl⟩, hb1⟩
    have hbw1 := hbw.trans (hb1.mono hbw.size)
    have HO1 := Lib.hid (below_ownI HOWN.out hb1)
    go_wp2_with fail
    go_roundw
    case rel => exact ⟨k + 1, n, o, by go_num, by omega, by rw [HST.out]; simp [reachG, HW.out], HON.out, hn0, by omega, HO1.out, hbw1⟩
    case measure => simp only [Go.RowKit.intOf]; omega
   | some p =>
    have HW := Lib.hid (show (wayR l (ch r)).isSome = true by rw [hw]; rfl)
    clear hw
    go_wp2_with fail
    refine (rpath_yes HW.out hl5 hcw).mono ?_
    rintro e w1 ⟨⟨A1, n1, c1, rfl⟩, hb1⟩
    have hbw1 := hbw.trans (hb1.mono hbw.size)
    have hcw1 := hcw.keep hb1
    have HO1 := Lib.hid (below_ownI HOWN.out hb1)
    have hc0' := (hb1.cell (p := ⟨b0, o0 + k * 4, none⟩) hb0).trans c0
    have hb01 : b0 < w1.heap.size := Nat.lt_of_lt_of_le hb0 hb1.size
    have hrr : reachG l o r = insI o (ch r) := by unfold reachG; rw [HW.out, if_pos rfl]
    rw [hrr] at HST
    clear hb1 hcw c0 hrr
    have HCW := Lib.hid hcw1
    clear hcw1
    go_wp2_with fail
    go_loopw [7] (fun i wi => ∃ (j q : Nat), i = .int .i64 (j : Int) ∧ j ≤ n ∧ (∀ x ∈ o.take j, x < ch r) ∧ wi = w1.drewN q) (fun i _ => n - (Go.RowKit.intOf i).toNat)
    case atStart => exact ⟨0, 0, rfl, Nat.zero_le _, fun x hx => by simp at hx, rfl⟩
    case round =>
     obtain ⟨j, q, rfl, hj, hlo, rfl⟩ := hrel
     have HLO := Lib.hid hlo
     clear hlo
     have hj0 : (0 : Int) ≤ (j : Int) := by omega
     by_cases hjn : j < n
     ·obtain ⟨x, hx⟩ := some_at (show j < o.length by have := HON.out; omega)
      have hjc : w1.cell? ⟨g, j, none⟩ = some (.int .i64 x) := cell_ownI HO1.out (ivs_at hx)
      have hj2 : (j : Int) < (n : Int) := by omega
      have HXX := Lib.hid hx
      clear hx
      by_cases hq : x < ch r
      ·have hd : decide (x < ch r) = true := decide_eq_true hq
       have HQ := Lib.hid hq
       clear hq
       go_wp2_with fail
       go_region
       go_wp2_with fail
       go_roundw
       case rel =>
        refine ⟨j + 1, _, by go_num, by omega, ?_, rfl⟩
        intro y hy
        rw [List.take_add_one, HXX.out, List.mem_append] at hy
        rcases hy with hy | hy
        ·exact HLO.out y hy
        ·simp at hy; rw [hy]; exact HQ.out
       case measure => simp only [Go.RowKit.intOf]; omega
      ·have hd : decide (x < ch r) = false := decide_eq_false hq
       have hins := insI_at (o := o) (x := ch r) (j := j) (by have := HON.out; omega) HLO.out (.inr ⟨x, HXX.out, hq⟩)
       rw [HXX.out] at hins
       by_cases he : x = ch r
       ·have heb : (x == ch r) = true := by simpa using he
        rw [he, if_pos rfl] at hins
        have HINS := Lib.hid hins
        clear hins hq he
        go_wp2_with fail
        go_region
        go_wp2_with fail
        go_region
        go_wp2_with fail
        go_roundw
        case rel => exact ⟨k + 1, n, o, by go_num, by omega, by rw [HST.out, HINS.out], HON.out, hn0, by omega, HO1.out, below_drewN hbw1 _⟩
        case measure => simp only [Go.RowKit.intOf]; omega
       ·have heb : (x == ch r) = false := by simpa using he
        rw [if_neg (by simpa using he)] at hins
        have HINS := Lib.hid hins
        clear hins hq he
        go_wp2_with fail
        go_region
        go_wp2_with fail
        go_region
        have hat1 : At w1 w1.heap.size (some ⟨g, 0, none⟩) (ivs o) := by
         obtain ⟨A9, c9, e9, ha, -, -⟩ := own_at HO1.out
         cases e9
         exact ha
        have hdr : At w1 w1.heap.size (some ⟨g, j, none⟩) (ivs (o.drop j)) := by
         have h := hat1.drop j
         rw [Nat.zero_add] at h
         rw [ivs_drop]
         exact h
        have htk : At w1 w1.heap.size (some ⟨g, 0, none⟩) (ivs (o.take j)) := by rw [ivs_take]; exact hat1.take j
        have hdl : (o.drop j).length = n - j := by rw [List.length_drop, HON.out]
        have htl : (o.take j).length = j := by rw [List.length_take]; have := HON.out; omega
        have hj3 : (j : Int) ≤ (n : Int) := by omega
        have hj4 : (j : Int) ≤ (cp : Int) := by omega
        have hc0 : ¬ cp = j := by omega
        have HDR := Lib.hid hdr
        have HTK := Lib.hid htk
        have HDL := Lib.hid hdl
        have HTL := Lib.hid htl
        clear hat1 hdr htk hdl htl hjc
        go_wp2_with (at_builtin; refine append_optI _ rfl _ _ rfl w1.heap.size w1.heap.size _ 0 [] rfl (made_i w1.heap.size (w1.drewN _) (Nat.le_refl _)) (some ⟨g, j, none⟩) (cp - j) (o.drop j) (n - j) HDL.out.symm rfl (fun h => by cases h) (by omega) (HDR.out.below ((below_drewN (Below.refl w1.heap.size w1) _).alloc (Nat.le_refl _) _)) (by omega) (by simp) ?_)
        intro v2 w2 hown2 hgrow2
        have hb2 : Below w1.heap.size w1 w2 := below_own ((below_drewN (Below.refl w1.heap.size w1) _).alloc (Nat.le_refl _) _) (by simp) (made_i w1.heap.size (w1.drewN _) (Nat.le_refl _)) hgrow2
        obtain ⟨g2, c2, rfl, hg2, hcp2, hcm2, -, -⟩ := own_some hown2 (by omega)
        have hrest : At w2 w2.heap.size (some ⟨g2, 0, none⟩) (ivs (o.drop j)) := by
         obtain ⟨A9, c9, e9, ha, -, -⟩ := own_at hown2
         cases e9
         exact ha
        have HRS := Lib.hid hrest
        have HT2 := Lib.hid (HTK.out.keep hb2)
        have hcx2 : w2.cell? ⟨b0, o0 + k * 4, none⟩ = some (.int .i64 (ch r)) := (hb2.cell (p := ⟨b0, o0 + k * 4, none⟩) hb01).trans hc0'
        have hb02 : b0 < w2.heap.size := Nat.lt_of_lt_of_le hb01 hb2.size
        have HB2 := Lib.hid hb2
        clear hown2 hgrow2 hrest hb2
        go_wp2_with fail
        go_region_held_law (fun w' => w'.cell? ⟨b0, o0 + k * 4, none⟩ = some (.int .i64 (ch r)) ∧ Below w2.heap.size w2 w')
         (first
          | (exact sKeep hb02 (by assumption) hbn)
          | (exact sAlloc hb02 (Nat.le_refl _) (by assumption) _)
          | (exact sAllocD hb02 (Nat.le_refl _) (by assumption) _)
          | (exact ⟨hcx2, (Below.refl _ _).drew⟩)
          | go_keep)
         (first
          | (refine step_append_own rfl _ _ 36 rfl w2.heap.size 3 i0 (.int .i64 0) 1 8 Tryz.underlying36 hi hz0 hz1 hz2 rfl (by decide) (.slice (some ⟨w2.heap.size, 0, none⟩) 0 0) 0 [] rfl (own_drew (made w2.heap.size w2 (Nat.le_refl _))) ⟨g, 0, none⟩ j cp (ivs (o.take j)) rfl (by rw [ivs_len, HTL.out, Nat.mul_one]) (at_news (HT2.out.below (sBelow (by assumption)))) (ivs_one _) (by unfold maxLen; omega) (by omega) (by simp <;> omega) ?_; intro v3 w3 hown3 hgrow3; have hbn := below_own2 (Below.refl _ _) (by simp <;> omega) (own_drew (made w2.heap.size w2 (Nat.le_refl _))) hgrow3)
          | (refine step_append_own rfl _ _ 36 rfl w2.heap.size 3 i0 (.int .i64 0) 1 8 Tryz.underlying36 hi hz0 hz1 hz2 rfl (by decide) (.slice (some ⟨w2.heap.size, 0, none⟩) 0 0) 0 [] rfl (own_drew ((made w2.heap.size w2 (Nat.le_refl _)).alloc (.cells #[.int .i64 (ch r)] 3))) ⟨g, 0, none⟩ j cp (ivs (o.take j)) rfl (by rw [ivs_len, HTL.out, Nat.mul_one]) (at_news (HT2.out.below (sBelow (by assumption)))) (ivs_one _) (by unfold maxLen; omega) (by omega) (by simp <;> omega) ?_; intro v3 w3 hown3 hgrow3; have hbn := below_own2 (Below.refl _ _) (by simp <;> omega) (own_drew ((made w2.heap.size w2 (Nat.le_refl _)).alloc (.cells #[.int .i64 (ch r)] 3))) hgrow3; have hcy2 : w3.cell? ⟨w2.heap.size + 1, 0, none⟩ = some (.int .i64 (ch r)) := cell_kept (cell_new2 w2 _ _) hgrow3 (by simp [Value.ownBlock]))
          | (refine step_append_own rfl _ _ 36 rfl w2.heap.size 3 i0 (.int .i64 0) 1 8 Tryz.underlying36 hi hz0 hz1 hz2 rfl (by decide) (.slice (some ⟨w2.heap.size + 1, 0, none⟩) 0 0) 0 [] rfl (made1 w2.heap.size w2 (.cells #[.int .i64 (ch r)] 3) (Nat.le_refl _)) ⟨g, 0, none⟩ j cp (ivs (o.take j)) rfl (by rw [ivs_len, HTL.out, Nat.mul_one]) (at_news (HT2.out.below (sBelow (by assumption)))) (ivs_one _) (by unfold maxLen; omega) (by omega) (by simp <;> omega) ?_; intro v3 w3 hown3 hgrow3; have hbn := below_own2 (Below.refl _ _) (by simp <;> omega) (made1 w2.heap.size w2 (.cells #[.int .i64 (ch r)] 3) (Nat.le_refl _)) hgrow3; have hcy3 : w3.cell? ⟨w2.heap.size, 0, none⟩ = some (.int .i64 (ch r)) := cell_kept (cell_new1 w2 _ _) hgrow3 (by simp [Value.ownBlock]))
          | (refine step_append_own rfl _ _ 36 rfl w2.heap.size 3 i0 (.int .i64 0) 1 8 Tryz.underlying36 hi hz0 hz1 hz2 rfl (by decide) _ _ _ rfl (hown3.alloc (.cells #[.int .i64 (ch r)] 3)) ⟨w3.heap.size, 0, none⟩ 1 1 [.int .i64 (ch r)] rfl rfl (one_news (is_cell (is_new w3 3 [.int .i64 (ch r)]) 0)) (by simp [Value.oneCell']) (by unfold maxLen; omega) (by omega) (sSize (Nat.le_refl _) (by assumption)) ?_; intro v4 w4 hown4 hgrow4; have hbn := below_own2 (Below.refl _ _) (sSize (Nat.le_refl _) (by assumption)) (hown3.alloc (.cells #[.int .i64 (ch r)] 3)) hgrow4)
          | (refine step_append_own rfl _ _ 36 rfl w2.heap.size 3 i0 (.int .i64 0) 1 8 Tryz.underlying36 hi hz0 hz1 hz2 rfl (by decide) _ _ _ rfl (hown3) ⟨w2.heap.size + 1, 0, none⟩ 1 1 [.int .i64 (ch r)] rfl rfl (one_news hcy2) (by simp [Value.oneCell']) (by unfold maxLen; omega) (by omega) (sSize (Nat.le_refl _) (by assumption)) ?_; intro v4 w4 hown4 hgrow4; have hbn := below_own2 (Below.refl _ _) (sSize (Nat.le_refl _) (by assumption)) (hown3) hgrow4)
          | (refine step_append_own rfl _ _ 36 rfl w2.heap.size 3 i0 (.int .i64 0) 1 8 Tryz.underlying36 hi hz0 hz1 hz2 rfl (by decide) _ _ _ rfl (hown3) ⟨w2.heap.size, 0, none⟩ 1 1 [.int .i64 (ch r)] rfl rfl (one_news hcy3) (by simp [Value.oneCell']) (by unfold maxLen; omega) (by omega) (sSize (Nat.le_refl _) (by assumption)) ?_; intro v4 w4 hown4 hgrow4; have hbn := below_own2 (Below.refl _ _) (sSize (Nat.le_refl _) (by assumption)) (hown3) hgrow4)
          | (refine step_append_own rfl _ _ 36 rfl w2.heap.size 3 i0 (.int .i64 0) 1 8 Tryz.underlying36 hi hz0 hz1 hz2 rfl (by decide) _ _ _ rfl hown4 ⟨g2, 0, none⟩ (n - j) _ (ivs (o.drop j)) rfl (by rw [ivs_len, HDL.out, Nat.mul_one]) (at_news (HRS.out.below (sBelow (by assumption)))) (ivs_one _) (by unfold maxLen; omega) (by omega) (sSize (Nat.le_refl _) (by assumption)) ?_; intro v5 w5 hown5 hgrow5; have hbn := below_own2 (Below.refl _ _) (sSize (Nat.le_refl _) (by assumption)) hown4 hgrow5)
        )
        all_goals
         have hb5 : Below w2.heap.size w2 w5 := sBelow (by assumption)
         have hown := own_head (m := n + 1) (ys := ivs (insI o (ch r))) hown5 (by omega) (by rw [HINS.out]; simp [ivs])
         obtain ⟨A9, c9, rfl, -, -, -⟩ := own_at hown
         have hs2 := Nat.le_trans hbw1.size HB2.out.size
         have HO9 := Lib.hid (ownsRow_low hown hs2)
         have HB9 := Lib.hid ((hbw1.trans (HB2.out.mono hbw1.size)).trans (hb5.mono hs2))
         clear hown hown5 hown4 hown3 hgrow3 hgrow4 hgrow5 hs2 hb5
         try clear hcy2
         try clear hcy3
         go_wp2_with fail
         go_roundw
         case rel => exact ⟨k + 1, n + 1, insI o (ch r), by go_num, by omega, HST.out, by rw [HINS.out]; have h1 := HTL.out; have h2 := HDL.out; simp only [List.length_append, List.length_cons]; omega, by omega, by omega, HO9.out, HB9.out⟩
         case measure => simp only [Go.RowKit.intOf]; omega
     ·obtain rfl : j = n := by omega
      have hins := insI_at (o := o) (x := ch r) (j := j) (by have := HON.out; omega) HLO.out (.inl HON.out.symm)
      have hon := HON.out
      rw [List.getElem?_eq_none (by omega), if_neg (by simp), List.take_of_length_le (by omega), List.drop_of_length_le (by omega)] at hins
      have HINS := Lib.hid hins
      have hat1 : At w1 w1.heap.size (some ⟨g, 0, none⟩) (ivs o) := by
       obtain ⟨A9, c9, e9, ha, -, -⟩ := own_at HO1.out
       cases e9
       exact ha
      have HTK := Lib.hid hat1
      have hj4 : (j : Int) ≤ (cp : Int) := by omega
      clear hins hon hat1
      by_cases hcj : cp = j
      ·have hcj2 := hcj.symm
       subst hcj2
       go_wp2_with fail
       go_quiet (fail)
       go_wp2_with fail
       go_quiet (fail)
       go_wp2_with fail
       generalize hw2 : World.alloc (World.drewN w1 _) _ = w2
       have hb2 : Below w1.heap.size w1 w2 := by rw [← hw2]; exact (below_drewN (Below.refl w1.heap.size w1) _).alloc (Nat.le_refl _) _
       have HT2 := Lib.hid (HTK.out.keep hb2)
       have hcx2 : w2.cell? ⟨b0, o0 + k * 4, none⟩ = some (.int .i64 (ch r)) := (hb2.cell (p := ⟨b0, o0 + k * 4, none⟩) hb01).trans hc0'
       have hb02 : b0 < w2.heap.size := Nat.lt_of_lt_of_le hb01 hb2.size
       have HB2 := Lib.hid hb2
       clear hb2 hw2
       go_region_held_law (fun w' => w'.cell? ⟨b0, o0 + k * 4, none⟩ = some (.int .i64 (ch r)) ∧ Below w2.heap.size w2 w')
        (first
         | (exact sKeep hb02 (by assumption) hbn)
         | (exact sAlloc hb02 (Nat.le_refl _) (by assumption) _)
         | (exact sAllocD hb02 (Nat.le_refl _) (by assumption) _)
         | (exact ⟨hcx2, (Below.refl _ _).drew⟩)
         | go_keep)
        (first
         | (refine step_append_own rfl _ _ 36 rfl w2.heap.size 3 i0 (.int .i64 0) 1 8 Tryz.underlying36 hi hz0 hz1 hz2 rfl (by decide) (.slice (some ⟨w2.heap.size, 0, none⟩) 0 0) 0 [] rfl (own_drew (made w2.heap.size w2 (Nat.le_refl _))) ⟨g, 0, none⟩ j _ (ivs o) rfl (by rw [ivs_len, HON.out, Nat.mul_one]) (at_news (HT2.out.below (sBelow (by assumption)))) (ivs_one _) (by unfold maxLen; omega) (by omega) (by simp <;> omega) ?_; intro v3 w3 hown3 hgrow3; have hbn := below_own2 (Below.refl _ _) (by simp <;> omega) (own_drew (made w2.heap.size w2 (Nat.le_refl _))) hgrow3)
         | (refine step_append_own rfl _ _ 36 rfl w2.heap.size 3 i0 (.int .i64 0) 1 8 Tryz.underlying36 hi hz0 hz1 hz2 rfl (by decide) (.slice (some ⟨w2.heap.size, 0, none⟩) 0 0) 0 [] rfl (own_drew ((made w2.heap.size w2 (Nat.le_refl _)).alloc (.cells #[.int .i64 (ch r)] 3))) ⟨g, 0, none⟩ j _ (ivs o) rfl (by rw [ivs_len, HON.out, Nat.mul_one]) (at_news (HT2.out.below (sBelow (by assumption)))) (ivs_one _) (by unfold maxLen; omega) (by omega) (by simp <;> omega) ?_; intro v3 w3 hown3 hgrow3; have hbn := below_own2 (Below.refl _ _) (by simp <;> omega) (own_drew ((made w2.heap.size w2 (Nat.le_refl _)).alloc (.cells #[.int .i64 (ch r)] 3))) hgrow3; have hcy2 : w3.cell? ⟨w2.heap.size + 1, 0, none⟩ = some (.int .i64 (ch r)) := cell_kept (cell_new2 w2 _ _) hgrow3 (by simp [Value.ownBlock]))
         | (refine step_append_own rfl _ _ 36 rfl w2.heap.size 3 i0 (.int .i64 0) 1 8 Tryz.underlying36 hi hz0 hz1 hz2 rfl (by decide) (.slice (some ⟨w2.heap.size + 1, 0, none⟩) 0 0) 0 [] rfl (made1 w2.heap.size w2 (.cells #[.int .i64 (ch r)] 3) (Nat.le_refl _)) ⟨g, 0, none⟩ j _ (ivs o) rfl (by rw [ivs_len, HON.out, Nat.mul_one]) (at_news (HT2.out.below (sBelow (by assumption)))) (ivs_one _) (by unfold maxLen; omega) (by omega) (by simp <;> omega) ?_; intro v3 w3 hown3 hgrow3; have hbn := below_own2 (Below.refl _ _) (by simp <;> omega) (made1 w2.heap.size w2 (.cells #[.int .i64 (ch r)] 3) (Nat.le_refl _)) hgrow3; have hcy3 : w3.cell? ⟨w2.heap.size, 0, none⟩ = some (.int .i64 (ch r)) := cell_kept (cell_new1 w2 _ _) hgrow3 (by simp [Value.ownBlock]))
         | (refine step_append_own rfl _ _ 36 rfl w2.heap.size 3 i0 (.int .i64 0) 1 8 Tryz.underlying36 hi hz0 hz1 hz2 rfl (by decide) _ _ _ rfl (hown3.alloc (.cells #[.int .i64 (ch r)] 3)) ⟨w3.heap.size, 0, none⟩ 1 1 [.int .i64 (ch r)] rfl rfl (one_news (is_cell (is_new w3 3 [.int .i64 (ch r)]) 0)) (by simp [Value.oneCell']) (by unfold maxLen; omega) (by omega) (sSize (Nat.le_refl _) (by assumption)) ?_; intro v4 w4 hown4 hgrow4; have hbn := below_own2 (Below.refl _ _) (sSize (Nat.le_refl _) (by assumption)) (hown3.alloc (.cells #[.int .i64 (ch r)] 3)) hgrow4)
         | (refine step_append_own rfl _ _ 36 rfl w2.heap.size 3 i0 (.int .i64 0) 1 8 Tryz.underlying36 hi hz0 hz1 hz2 rfl (by decide) _ _ _ rfl (hown3) ⟨w2.heap.size + 1, 0, none⟩ 1 1 [.int .i64 (ch r)] rfl rfl (one_news hcy2) (by simp [Value.oneCell']) (by unfold maxLen; omega) (by omega) (sSize (Nat.le_refl _) (by assumption)) ?_; intro v4 w4 hown4 hgrow4; have hbn := below_own2 (Below.refl _ _) (sSize (Nat.le_refl _) (by assumption)) (hown3) hgrow4)
         | (refine step_append_own rfl _ _ 36 rfl w2.heap.size 3 i0 (.int .i64 0) 1 8 Tryz.underlying36 hi hz0 hz1 hz2 rfl (by decide) _ _ _ rfl (hown3) ⟨w2.heap.size, 0, none⟩ 1 1 [.int .i64 (ch r)] rfl rfl (one_news hcy3) (by simp [Value.oneCell']) (by unfold maxLen; omega) (by omega) (sSize (Nat.le_refl _) (by assumption)) ?_; intro v4 w4 hown4 hgrow4; have hbn := below_own2 (Below.refl _ _) (sSize (Nat.le_refl _) (by assumption)) (hown3) hgrow4)
         | (refine step_append_own rfl _ _ 36 rfl w2.heap.size 3 i0 (.int .i64 0) 1 8 Tryz.underlying36 hi hz0 hz1 hz2 rfl (by decide) _ _ _ rfl hown4 ⟨w1.heap.size, 0, none⟩ 0 _ [] rfl rfl (fun j u h => by simp at h) (fun u h => by simp at h) (by unfold maxLen; omega) (by omega) (sSize (Nat.le_refl _) (by assumption)) ?_; intro v5 w5 hown5 hgrow5; have hbn := below_own2 (Below.refl _ _) (sSize (Nat.le_refl _) (by assumption)) hown4 hgrow5)
       )
       all_goals
        have hb5 : Below w2.heap.size w2 w5 := sBelow (by assumption)
        have hown := own_head (m := j + 1) (ys := ivs (insI o (ch r))) hown5 (by omega) (by rw [HINS.out]; simp [ivs])
        obtain ⟨A9, c9, rfl, -, -, -⟩ := own_at hown
        have hs2 := Nat.le_trans hbw1.size HB2.out.size
        have HO9 := Lib.hid (ownsRow_low hown hs2)
        have HB9 := Lib.hid ((hbw1.trans (HB2.out.mono hbw1.size)).trans (hb5.mono hs2))
        clear hown hown5 hown4 hown3 hgrow3 hgrow4 hgrow5 hs2 hb5
        try clear hcy2
        try clear hcy3
        go_wp2_with fail
        go_roundw
        case rel => exact ⟨k + 1, j + 1, insI o (ch r), by go_num, by omega, HST.out, by rw [HINS.out]; have h1 := HON.out; simp only [List.length_append, List.length_cons, List.length_nil]; omega, by omega, by omega, HO9.out, HB9.out⟩
        case measure => simp only [Go.RowKit.intOf]; omega
      ·have hc0 : ¬ cp = j := hcj
       go_wp2_with fail
       go_quiet (fail)
       go_wp2_with fail
       go_quiet (fail)
       go_wp2_with fail
       generalize hw2 : World.alloc (World.drewN w1 _) _ = w2
       have hb2 : Below w1.heap.size w1 w2 := by rw [← hw2]; exact (below_drewN (Below.refl w1.heap.size w1) _).alloc (Nat.le_refl _) _
       have HT2 := Lib.hid (HTK.out.keep hb2)
       have hcx2 : w2.cell? ⟨b0, o0 + k * 4, none⟩ = some (.int .i64 (ch r)) := (hb2.cell (p := ⟨b0, o0 + k * 4, none⟩) hb01).trans hc0'
       have hb02 : b0 < w2.heap.size := Nat.lt_of_lt_of_le hb01 hb2.size
       have HB2 := Lib.hid hb2
       clear hb2 hw2
       go_region_held_law (fun w' => w'.cell? ⟨b0, o0 + k * 4, none⟩ = some (.int .i64 (ch r)) ∧ Below w2.heap.size w2 w')
        (first
         | (exact sKeep hb02 (by assumption) hbn)
         | (exact sAlloc hb02 (Nat.le_refl _) (by assumption) _)
         | (exact sAllocD hb02 (Nat.le_refl _) (by assumption) _)
         | (exact ⟨hcx2, (Below.refl _ _).drew⟩)
         | go_keep)
        (first
         | (refine step_append_own rfl _ _ 36 rfl w2.heap.size 3 i0 (.int .i64 0) 1 8 Tryz.underlying36 hi hz0 hz1 hz2 rfl (by decide) (.slice (some ⟨w2.heap.size, 0, none⟩) 0 0) 0 [] rfl (own_drew (made w2.heap.size w2 (Nat.le_refl _))) ⟨g, 0, none⟩ j _ (ivs o) rfl (by rw [ivs_len, HON.out, Nat.mul_one]) (at_news (HT2.out.below (sBelow (by assumption)))) (ivs_one _) (by unfold maxLen; omega) (by omega) (by simp <;> omega) ?_; intro v3 w3 hown3 hgrow3; have hbn := below_own2 (Below.refl _ _) (by simp <;> omega) (own_drew (made w2.heap.size w2 (Nat.le_refl _))) hgrow3)
         | (refine step_append_own rfl _ _ 36 rfl w2.heap.size 3 i0 (.int .i64 0) 1 8 Tryz.underlying36 hi hz0 hz1 hz2 rfl (by decide) (.slice (some ⟨w2.heap.size, 0, none⟩) 0 0) 0 [] rfl (own_drew ((made w2.heap.size w2 (Nat.le_refl _)).alloc (.cells #[.int .i64 (ch r)] 3))) ⟨g, 0, none⟩ j _ (ivs o) rfl (by rw [ivs_len, HON.out, Nat.mul_one]) (at_news (HT2.out.below (sBelow (by assumption)))) (ivs_one _) (by unfold maxLen; omega) (by omega) (by simp <;> omega) ?_; intro v3 w3 hown3 hgrow3; have hbn := below_own2 (Below.refl _ _) (by simp <;> omega) (own_drew ((made w2.heap.size w2 (Nat.le_refl _)).alloc (.cells #[.int .i64 (ch r)] 3))) hgrow3; have hcy2 : w3.cell? ⟨w2.heap.size + 1, 0, none⟩ = some (.int .i64 (ch r)) := cell_kept (cell_new2 w2 _ _) hgrow3 (by simp [Value.ownBlock]))
         | (refine step_append_own rfl _ _ 36 rfl w2.heap.size 3 i0 (.int .i64 0) 1 8 Tryz.underlying36 hi hz0 hz1 hz2 rfl (by decide) (.slice (some ⟨w2.heap.size + 1, 0, none⟩) 0 0) 0 [] rfl (made1 w2.heap.size w2 (.cells #[.int .i64 (ch r)] 3) (Nat.le_refl _)) ⟨g, 0, none⟩ j _ (ivs o) rfl (by rw [ivs_len, HON.out, Nat.mul_one]) (at_news (HT2.out.below (sBelow (by assumption)))) (ivs_one _) (by unfold maxLen; omega) (by omega) (by simp <;> omega) ?_; intro v3 w3 hown3 hgrow3; have hbn := below_own2 (Below.refl _ _) (by simp <;> omega) (made1 w2.heap.size w2 (.cells #[.int .i64 (ch r)] 3) (Nat.le_refl _)) hgrow3; have hcy3 : w3.cell? ⟨w2.heap.size, 0, none⟩ = some (.int .i64 (ch r)) := cell_kept (cell_new1 w2 _ _) hgrow3 (by simp [Value.ownBlock]))
         | (refine step_append_own rfl _ _ 36 rfl w2.heap.size 3 i0 (.int .i64 0) 1 8 Tryz.underlying36 hi hz0 hz1 hz2 rfl (by decide) _ _ _ rfl (hown3.alloc (.cells #[.int .i64 (ch r)] 3)) ⟨w3.heap.size, 0, none⟩ 1 1 [.int .i64 (ch r)] rfl rfl (one_news (is_cell (is_new w3 3 [.int .i64 (ch r)]) 0)) (by simp [Value.oneCell']) (by unfold maxLen; omega) (by omega) (sSize (Nat.le_refl _) (by assumption)) ?_; intro v4 w4 hown4 hgrow4; have hbn := below_own2 (Below.refl _ _) (sSize (Nat.le_refl _) (by assumption)) (hown3.alloc (.cells #[.int .i64 (ch r)] 3)) hgrow4)
         | (refine step_append_own rfl _ _ 36 rfl w2.heap.size 3 i0 (.int .i64 0) 1 8 Tryz.underlying36 hi hz0 hz1 hz2 rfl (by decide) _ _ _ rfl (hown3) ⟨w2.heap.size + 1, 0, none⟩ 1 1 [.int .i64 (ch r)] rfl rfl (one_news hcy2) (by simp [Value.oneCell']) (by unfold maxLen; omega) (by omega) (sSize (Nat.le_refl _) (by assumption)) ?_; intro v4 w4 hown4 hgrow4; have hbn := below_own2 (Below.refl _ _) (sSize (Nat.le_refl _) (by assumption)) (hown3) hgrow4)
         | (refine step_append_own rfl _ _ 36 rfl w2.heap.size 3 i0 (.int .i64 0) 1 8 Tryz.underlying36 hi hz0 hz1 hz2 rfl (by decide) _ _ _ rfl (hown3) ⟨w2.heap.size, 0, none⟩ 1 1 [.int .i64 (ch r)] rfl rfl (one_news hcy3) (by simp [Value.oneCell']) (by unfold maxLen; omega) (by omega) (sSize (Nat.le_refl _) (by assumption)) ?_; intro v4 w4 hown4 hgrow4; have hbn := below_own2 (Below.refl _ _) (sSize (Nat.le_refl _) (by assumption)) (hown3) hgrow4)
         | (refine step_append_own rfl _ _ 36 rfl w2.heap.size 3 i0 (.int .i64 0) 1 8 Tryz.underlying36 hi hz0 hz1 hz2 rfl (by decide) _ _ _ rfl hown4 ⟨w1.heap.size, 0, none⟩ 0 _ [] rfl rfl (fun j u h => by simp at h) (fun u h => by simp at h) (by unfold maxLen; omega) (by omega) (sSize (Nat.le_refl _) (by assumption)) ?_; intro v5 w5 hown5 hgrow5; have hbn := below_own2 (Below.refl _ _) (sSize (Nat.le_refl _) (by assumption)) hown4 hgrow5)
       )
       all_goals
        have hb5 : Below w2.heap.size w2 w5 := sBelow (by assumption)
        have hown := own_head (m := j + 1) (ys := ivs (insI o (ch r))) hown5 (by omega) (by rw [HINS.out]; simp [ivs])
        obtain ⟨A9, c9, rfl, -, -, -⟩ := own_at hown
        have hs2 := Nat.le_trans hbw1.size HB2.out.size
        have HO9 := Lib.hid (ownsRow_low hown hs2)
        have HB9 := Lib.hid ((hbw1.trans (HB2.out.mono hbw1.size)).trans (hb5.mono hs2))
        clear hown hown5 hown4 hown3 hgrow3 hgrow4 hgrow5 hs2 hb5
        try clear hcy2
        try clear hcy3
        go_wp2_with fail
        go_roundw
        case rel => exact ⟨k + 1, j + 1, insI o (ch r), by go_num, by omega, HST.out, by rw [HINS.out]; have h1 := HON.out; simp only [List.length_append, List.length_cons, List.length_nil]; omega, by omega, by omega, HO9.out, HB9.out⟩
        case measure => simp only [Go.RowKit.intOf]; omega
  ·obtain rfl : k = l.length := by omega
   have hR := HR.out
   have hfo := HFO.out
   rw [List.take_length] at hfo
   rw [hfo] at hR
   have HRR := Lib.hid hR
   clear hR
   go_wp2_with fail
   go_ret
   have hh := HOWN.out
   rw [← HRR.out]
   refine own_toldI (B := w.heap.size) ?_ hbw
   rw [HON.out]
   exact hh
end Go.Proofs.YtkobmnbjeppnaaaGreat
