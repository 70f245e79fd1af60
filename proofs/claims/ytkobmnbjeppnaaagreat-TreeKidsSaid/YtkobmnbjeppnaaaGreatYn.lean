/-
 All kids of all parents of a tree: a walk.
-/
import Derived.Test.YtkobmnbjeppnaaaGreatYf
import Derived.Test.YtkobmnbjeppnaaaGreatXl
import Derived.Test.YtkobmnbjeppnaaaGreatYp
import Derived.Deep.DeepCutAuto
import Derived.Deep.RegionHeld3
namespace Go.Proofs.YtkobmnbjeppnaaaGreat
open Go.RowKit Go.IntWalk Go.Maps
open Fl Gr
set_option maxRecDepth 100000
attribute [local go_sem] Oper.semAt_some
theorem hold8T {p0 p1 p2 p3 p4 p5 p6 p7 : Addr} {v0 v1 v2 v3 v4 v5 v6 v7 : Value} {wb W W' : World} (h : W.cell? p0 = some v0 ∧ W.cell? p1 = some v1 ∧ W.cell? p2 = some v2 ∧ W.cell? p3 = some v3 ∧ W.cell? p4 = some v4 ∧ W.cell? p5 = some v5 ∧ W.cell? p6 = some v6 ∧ W.cell? p7 = some v7 ∧ Below wb.heap.size wb W) (hb : Below W.heap.size W W') : W'.cell? p0 = some v0 ∧ W'.cell? p1 = some v1 ∧ W'.cell? p2 = some v2 ∧ W'.cell? p3 = some v3 ∧ W'.cell? p4 = some v4 ∧ W'.cell? p5 = some v5 ∧ W'.cell? p6 = some v6 ∧ W'.cell? p7 = some v7 ∧ Below wb.heap.size wb W' := by
 obtain ⟨h0, h1, h2, h3, h4, h5, h6, h7, hB⟩ := h
 exact ⟨keep_cell hb h0, keep_cell hb h1, keep_cell hb h2, keep_cell hb h3, keep_cell hb h4, keep_cell hb h5, keep_cell hb h6, keep_cell hb h7, hB.trans (hb.mono hB.size)⟩
theorem hold8Tb {p0 p1 p2 p3 p4 p5 p6 p7 : Addr} {v0 v1 v2 v3 v4 v5 v6 v7 : Value} {wb W : World} (h : W.cell? p0 = some v0 ∧ W.cell? p1 = some v1 ∧ W.cell? p2 = some v2 ∧ W.cell? p3 = some v3 ∧ W.cell? p4 = some v4 ∧ W.cell? p5 = some v5 ∧ W.cell? p6 = some v6 ∧ W.cell? p7 = some v7 ∧ Below wb.heap.size wb W) : Below wb.heap.size wb W := by
 obtain ⟨h0, h1, h2, h3, h4, h5, h6, h7, hB⟩ := h
 exact hB
theorem hold8Ts {p0 p1 p2 p3 p4 p5 p6 p7 : Addr} {v0 v1 v2 v3 v4 v5 v6 v7 : Value} {wb : World} (h0 : wb.cell? p0 = some v0) (h1 : wb.cell? p1 = some v1) (h2 : wb.cell? p2 = some v2) (h3 : wb.cell? p3 = some v3) (h4 : wb.cell? p4 = some v4) (h5 : wb.cell? p5 = some v5) (h6 : wb.cell? p6 = some v6) (h7 : wb.cell? p7 = some v7) : wb.drew.cell? p0 = some v0 ∧ wb.drew.cell? p1 = some v1 ∧ wb.drew.cell? p2 = some v2 ∧ wb.drew.cell? p3 = some v3 ∧ wb.drew.cell? p4 = some v4 ∧ wb.drew.cell? p5 = some v5 ∧ wb.drew.cell? p6 = some v6 ∧ wb.drew.cell? p7 = some v7 ∧ Below wb.heap.size wb wb.drew := ⟨h0, h1, h2, h3, h4, h5, h6, h7, (Below.refl _ _).drew⟩
theorem pas_step {l : List Rw} {k : Nat} {r : Rw} (h : l[k]? = some r) : (l.take (k + 1)).map pa = (l.take k).map pa ++ [pa r] := by
 rw [List.take_add_one, h]; simp
theorem seen_le (l : List Rw) (k : Nat) : seenN l k ≤ l.length := by unfold seenN; exact List.length_filter_le _ _
namespace treeKids
set_option maxHeartbeats 16000000 in
theorem walk (A : Option Addr) (cap : Nat) (l : List Rw) (hA : A = none → cap = 0) (hcap : l.length ≤ cap) (hmx : l.length ≤ maxLen) (hrw : Rows_ l) (h6 : ∀ r ∈ l, In64 (ch r) ∧ In64 (pa r)) (r : Rw) (hr1 : rk r < 18446744073709551616) (hr2 : (nm r).length ≤ maxLen) (w : World) (hc : At w w.heap.size A (tvs l)) :
  Calls Tryz.prog 7 #[.slice A l.length cap, .agg #[.int .i64 (ch r), .int .i64 (pa r), .string (ba (nm r)), .float .f64 (rk r)]] w fun e w' => e = .returned (.bool true) ∧ Below w.heap.size w w' := by
 have S0 := Lib.hid ((Bed.start w).addR (A := A) (l := l) hc)
 have HRW := Lib.hid hrw
 have H6 := Lib.hid h6
 have HCAP := Lib.hid (show Cap A l.length cap from ⟨hA, hcap⟩)
 have HR := Lib.hid (And.intro hr1 hr2)
 clear hc hrw h6 hA hcap hr1 hr2
 have hsz := ba_size (nm r)
 go_enter Tryz.func7, Tryz.ntmps7
 obtain ⟨w1, hw⟩ : ∃ w1, w1 = w.alloc (.cells #[.int .i64 (ch r), .int .i64 (pa r), .string (ba (nm r)), .float .f64 (rk r)] 28) := ⟨_, rfl⟩
 have hb : Below w.heap.size w w1 := by rw [hw]; exact (Below.refl _ _).alloc (Nat.le_refl _) _
 have S1 := Lib.hid ((S0.out.step hb).addB (g := w.heap.size) (t := 28) (vs := [.int .i64 (ch r), .int .i64 (pa r), .string (ba (nm r)), .float .f64 (rk r)]) (by rw [hw]; exact is_new w 28 _))
 have HW1 := Lib.hid hw
 clear hw hb
 cases hfew : few l with
 | false =>
  go_wp2_with fail
  rw [← HW1.out]
  refine (few_v hfew hmx (S1.out.rows (.tail _ (.head _)))).mono ?_
  rintro e w2 ⟨rfl, hb⟩
  have S2 := Lib.hid (S1.out.step hb)
  clear hb
  go_wp2_with fail
  refine (live12_c _).mono ?_
  rintro e w3 ⟨rfl, hb⟩
  have S3 := Lib.hid (S2.out.step hb)
  clear hb
  go_wp2_with fail
  go_ret
  exact ⟨rfl, S3.out.bel⟩
 | true =>
  go_wp2_with fail
  rw [← HW1.out]
  refine (few_v hfew hmx (S1.out.rows (.tail _ (.head _)))).mono ?_
  rintro e w2 ⟨rfl, hb⟩
  have S2 := Lib.hid (S1.out.step hb)
  clear hb
  have hl60 := (few_in hfew).1
  have hl5 : l.length ≤ 100000 := by omega
  clear hfew
  cases hmay : mayB l with
  | false =>
   go_wp2_with fail
   refine (rmay_v hmay hmx HRW.out (S2.out.rows (.tail _ (.head _)))).mono ?_
   rintro e w3 ⟨rfl, hb⟩
   have S3 := Lib.hid (S2.out.step hb)
   clear hb
   go_wp2_with fail
   refine (live12_c _).mono ?_
   rintro e w4 ⟨rfl, hb⟩
   have S4 := Lib.hid (S3.out.step hb)
   clear hb
   go_wp2_with fail
   go_ret
   exact ⟨rfl, S4.out.bel⟩
  | true =>
   go_wp2_with fail
   refine (rmay_v hmay hmx HRW.out (S2.out.rows (.tail _ (.head _)))).mono ?_
   rintro e w3 ⟨rfl, hb⟩
   have S3 := Lib.hid (S2.out.step hb)
   clear hb
   have HT := Lib.hid ((mayB_tree l).1 hmay)
   clear hmay
   have hx := (S3.out.box (.head _))
   have y1_0 := is_cell hx 0
   have y1_1 := is_cell hx 1
   have y1_2 := is_cell hx 2
   have y1_3 := is_cell hx 3
   simp only [List.getElem?_cons_zero, List.getElem?_cons_succ] at y1_0 y1_1 y1_2 y1_3
   clear hx
   by_cases h100 : 100 < (nm r).length
   ·have h100i : (100 : Int) < ((nm r).length : Int) := by omega
    go_wp2_with fail
    refine (live12_c _).mono ?_
    rintro e w4 ⟨rfl, hb⟩
    have S4 := Lib.hid (S3.out.step hb)
    clear y1_0 y1_1 y1_2 y1_3
    clear hb
    go_wp2_with fail
    go_ret
    exact ⟨rfl, S4.out.bel⟩
   ·have h100i : ¬ (100 : Int) < ((nm r).length : Int) := by omega
    have HS6 := Lib.hid (show Kk.S64 l from fun x hx => ⟨by have := (H6.out x hx).1; unfold In64 at this; omega, (HRW.out x hx).1⟩)
    have hmk : ∀ w : World, (Instr.makeMap 47 none).run Tryz.prog w = .ok (.map (some w.heap.size)) (w.alloc (.map #[] 0)) := fun w => by simp [Instr.makeMap, go_sem]
    go_wp2_with fail
    clear y1_0 y1_1 y1_2 y1_3
    clear h100 h100i hmk
    go_loopw [5, 7] (fun nv i wr => ∃ (k nn : Nat) (D : DataW Unit), i = .int .i64 (k : Int) ∧ nv = .int .i64 (seenN l k : Int) ∧ k ≤ l.length ∧ wr.ownsMap Tryz.prog 3 RB w3.heap.size nn D ∧ nn ≤ k ∧ Bok D ((l.take k).map pa) ∧ Below w3.heap.size w3 wr) (fun _ i _ => l.length - (Go.RowKit.intOf i).toNat)
    case atStart => exact ⟨0, 0, .map [], rfl, by rw [seenN_zero]; rfl, Nat.zero_le _, World.ownsMap_made _ _ _ _, Nat.le_refl _, bok_nil, (Below.refl _ _).alloc (Nat.le_refl _) _⟩
    case round =>
     obtain ⟨k, nn, D, rfl, rfl, hk, hmap, hnn, hbok, hbw⟩ := hrel
     have SR := Lib.hid (S3.out.step hbw)
     have HBW := Lib.hid hbw
     have HMAP := Lib.hid hmap
     have HBOK := Lib.hid hbok
     clear hbw hmap hbok
     by_cases hlt : k < l.length
     ·obtain ⟨x, hxk⟩ := some_at hlt
      have hki : (0 : Int) ≤ (k : Int) := by omega
      have hkl : (k : Int) < (l.length : Int) := by omega
      obtain ⟨b0, o0, hAe, hb0, c0, c1, c2, c3⟩ := row_cells (SR.out.rows (.tail _ (.head _))) hxk
      subst hAe
      have h6x := (H6.out x (List.mem_of_getElem? hxk)).2
      have HXK := Lib.hid hxk
      clear hxk c0 c2 c3
      by_cases hin : pa x ∈ (l.take k).map pa
      ·have hlk := look_b HMAP.out HBOK.out h6x hin
       have hse := seenN_old HXK.out hin
       have HSE := Lib.hid hse
       have HBK := Lib.hid (show Bok D ((l.take (k + 1)).map pa) by
        rw [pas_step HXK.out]
        exact HBOK.out.same fun y => ⟨fun h => List.mem_append_left _ h, fun h => by
         rcases List.mem_append.1 h with h | h
         ·exact h
         ·rw [List.mem_singleton] at h; rw [h]; exact hin⟩)
       clear hse hin
       go_wp2_with fail
       go_roundw
       case rel => exact ⟨k + 1, nn, D, by go_num, by rw [HSE.out], by omega, HMAP.out, by omega, HBK.out, HBW.out⟩
       case measure => simp only [Go.RowKit.intOf]; omega
      ·have hlk := look_n HMAP.out HBOK.out h6x hin
       obtain ⟨w7, D7, hput, hmap7, hbok7, hg7⟩ := put_b HMAP.out HBOK.out (by omega) h6x
       have hse := seenN_new HXK.out hin
       have HSE := Lib.hid hse
       have hb7 : Below w3.heap.size w3 w7 := HBW.out.grown hg7 HBW.out.size (fun j hj => by cases hj; exact Nat.le_refl _)
       have HB7 := Lib.hid hb7
       have HMAP7 := Lib.hid hmap7
       have HBOK7 := Lib.hid (show Bok D7 ((l.take (k + 1)).map pa) by rw [pas_step HXK.out]; exact hbok7)
       have SP := Lib.hid (S3.out.step hb7)
       obtain ⟨b1, o1, hAe1, hb1, d0, d1, d2, d3⟩ := row_cells (SP.out.rows (.tail _ (.head _))) HXK.out
       cases hAe1
       obtain ⟨ks, hks⟩ : ∃ ks, kidsR l (pa x) = ks := ⟨_, rfl⟩
       have hkl2 : ks.length ≤ l.length := by rw [← hks]; exact kidsR_le l (pa x)
       have hkn : ks.length = hisN l (pa x) := by rw [← hks]; exact kidsR_len l (pa x)
       have HKN := Lib.hid hkn
       have HKS := Lib.hid hks
       have HKM := Lib.hid (show ∀ y ∈ ks, y ∈ l by rw [← hks]; exact fun y hy => ((kidsR_mem l (pa x) y).1 hy).1)
       have HKO := Lib.hid (show ks.Pairwise fun a b => lsP a b = true by rw [← hks]; exact kidsR_sorted HT.out.asc (pa x))
       have hsl := seen_le l k
       have hwa : IntKind.i64.wrap ((seenN l k : Int) + (ks.length : Int)) = ((seenN l (k + 1) : Nat) : Int) := by
        rw [hse, ← hkn, show (seenN l k : Int) + (ks.length : Int) = ((seenN l k + ks.length : Nat) : Int) by omega]
        exact IntWalk.i64_in _ (by omega)
       clear hse hin hmap7 hbok7 hg7 hb7 hks hkn d0 d2 d3
       go_wp2_with fail
       refine (kids_v HKS.out rfl (show l.length ≤ 10000 by omega) HS6.out (SP.out.rows (.tail _ (.head _)))).mono ?_
       rintro e w8 ⟨AK, cK, rfl, hat, hcap, hb⟩
       have S8 := Lib.hid ((SP.out.step hb).addR (A := AK) (l := ks) hat)
       have HB8 := Lib.hid (HB7.out.trans (hb.mono HB7.out.size))
       have HMAP8 := Lib.hid (map_below HMAP7.out hb)
       clear c1 d1 hlk hput HMAP7
       clear hb hat hcap
       go_wp2_with fail
       go_loopw [9] (fun i wr => ∃ n : Nat, i = .int .i64 (n : Int) ∧ n ≤ ks.length ∧ Below w8.heap.size w8 wr) (fun i _ => ks.length - (Go.RowKit.intOf i).toNat)
       case atStart => exact ⟨0, rfl, Nat.zero_le _, Below.refl _ _⟩
       case round =>
        rename World => wq3
        obtain ⟨n, rfl, hn, hbw⟩ := hrel
        have SR3 := Lib.hid (S8.out.step hbw)
        have HBW3 := Lib.hid hbw
        clear hbw
        by_cases hln : n < ks.length
        ·obtain ⟨y, hy⟩ := some_at hln
         have hni : (0 : Int) ≤ (n : Int) := by omega
         have hnl : (n : Int) < (ks.length : Int) := by omega
         obtain ⟨b5, o5, hAe5, hb5, e0, e1, e2, e3⟩ := row_cells (SR3.out.rows (.head _)) hy
         subst hAe5
         have hyl := HKM.out y (List.mem_of_getElem? hy)
         have hfy := fnd_self HT.out.asc hyl
         have HFY := Lib.hid hfy
         have HYR := Lib.hid (HRW.out y hyl)
         have HY := Lib.hid hy
         clear hfy hyl hy e1 e2 e3
         go_wp2_with fail
         refine (find_v (c := ch y) (v := .agg #[.int .i64 (ch y), .int .i64 (pa y), .string (ba (nm y)), .float .f64 (rk y)]) (x := true) (by rw [HFY.out]; rfl) (by rw [HFY.out]; rfl) hmx (SR3.out.rows (.tail _ (.tail _ (.head _))))).mono ?_
         rintro e w9 ⟨rfl, hb⟩
         have S9 := Lib.hid (SR3.out.step hb)
         have HB9 := Lib.hid (HBW3.out.trans (hb.mono HBW3.out.size))
         clear e0 hb5
         clear hb
         obtain ⟨w10, hw⟩ : ∃ w10, w10 = w9.alloc (.cells #[.int .i64 (ch y), .int .i64 (pa y), .string (ba (nm y)), .float .f64 (rk y)] 28) := ⟨_, rfl⟩
         have hb : Below w9.heap.size w9 w10 := by rw [hw]; exact (Below.refl _ _).alloc (Nat.le_refl _) _
         have S10 := Lib.hid ((S9.out.step hb).addB (g := w9.heap.size) (t := 28) (vs := [.int .i64 (ch y), .int .i64 (pa y), .string (ba (nm y)), .float .f64 (rk y)]) (by rw [hw]; exact is_new w9 28 _))
         have HW10 := Lib.hid hw
         clear hw hb
         obtain ⟨b6, o6, hAe6, hb6, e0, e1, e2, e3⟩ := row_cells (S10.out.rows (.tail _ (.head _))) HY.out
         cases hAe6
         have HE := Lib.hid (And.intro hb6 (And.intro e0 (And.intro e1 (And.intro e2 e3))))
         have HYB := Lib.hid (S10.out.box (.head _))
         have HBA := Lib.hid (HB9.out.trans ((show Below w9.heap.size w9 w10 by rw [HW10.out]; exact (Below.refl _ _).alloc (Nat.le_refl _) _).mono HB9.out.size))
         clear e0 e1 e2 e3 hb6
         by_cases hn0 : 0 < n
         ·have hn0i : (0 : Int) < (n : Int) := by omega
          obtain ⟨j, hj⟩ : ∃ j, n = j + 1 := ⟨n - 1, by omega⟩
          have hwj : IntKind.i64.wrap ((n : Int) - 1) = (j : Int) := by rw [show (n : Int) - 1 = (j : Int) by omega]; exact IntWalk.i64_in _ (by omega)
          obtain ⟨y1, hy1⟩ := some_at (show j < ks.length by omega)
          obtain ⟨b6, o6, hAe6, hb6, e0, e1, e2, e3⟩ := row_cells (S10.out.rows (.tail _ (.head _))) hy1
          cases hAe6
          have HE1 := Lib.hid (And.intro hb6 (And.intro e0 (And.intro e1 (And.intro e2 e3))))
          have HLS := Lib.hid (show lsP y1 y = true by
           obtain ⟨g1, g2⟩ := List.getElem?_eq_some_iff.1 hy1
           obtain ⟨g3, g4⟩ := List.getElem?_eq_some_iff.1 HY.out
           rw [← g2, ← g4]
           exact List.pairwise_iff_getElem.1 HKO.out j n g1 g3 (by omega))
          have HYR1 := Lib.hid (HRW.out y1 (HKM.out y1 (List.mem_of_getElem? hy1)))
          have hji : (0 : Int) ≤ (j : Int) := by omega
          have hjl : (j : Int) < (ks.length : Int) := by omega
          clear e0 e1 e2 e3 hb6 hj hy1
          go_wp2_with fail
          rw [← HW10.out]
          refine quiet_held (fun w' => Below w10.heap.size w10 w') (by kernel_rfl) (by kernel_rfl) (Below.refl _ _).drew ?_
          repeat (first
           | go_big_quiet_skip
           | (go_big_quiet_want; go_big_quiet_op; go_big_quiet_on)
           | (go_big_quiet_want; apply Exists.intro; refine ⟨fun wq hq => ?_, ?_⟩; (focus (have hx := is_below HYB.out hq (is_lt HYB.out); have y0 := is_cell hx 0; have y1 := is_cell hx 1; have y2 := is_cell hx 2; have y3 := is_cell hx 3; simp only [List.getElem?_cons_zero, List.getElem?_cons_succ] at y0 y1 y2 y3; have z0 := (hq.cell (p := ⟨b5, o5 + n * 4, none⟩) HE.out.1).trans HE.out.2.1; have z1 := (hq.cell (p := ⟨b5, o5 + n * 4 + 1, none⟩) HE.out.1).trans HE.out.2.2.1; have z2 := (hq.cell (p := ⟨b5, o5 + n * 4 + 2, none⟩) HE.out.1).trans HE.out.2.2.2.1; have z3 := (hq.cell (p := ⟨b5, o5 + n * 4 + 3, none⟩) HE.out.1).trans HE.out.2.2.2.2; have t0 := (hq.cell (p := ⟨b5, o5 + j * 4, none⟩) HE1.out.1).trans HE1.out.2.1; have t1 := (hq.cell (p := ⟨b5, o5 + j * 4 + 1, none⟩) HE1.out.1).trans HE1.out.2.2.1; have t2 := (hq.cell (p := ⟨b5, o5 + j * 4 + 2, none⟩) HE1.out.1).trans HE1.out.2.2.2.1; have t3 := (hq.cell (p := ⟨b5, o5 + j * 4 + 3, none⟩) HE1.out.1).trans HE1.out.2.2.2.2; unfold Oper.quietAt; go_simp; all_goals (first | rfl | exact ⟨rfl, rfl⟩ | (with_reducible refine (alike_v (alike_one y) HYR.out.1 HYR.out.1).mono ?_; rintro e wz ⟨rfl, hbn⟩; exact ⟨rfl, hq.trans (hbn.mono hq.size)⟩) | (with_reducible refine (rless_k true HLS.out HYR1.out.1 HYR.out.1 _).mono ?_; rintro e wz ⟨rfl, hbn⟩; exact ⟨rfl, hq.trans (hbn.mono hq.size)⟩)))); simp only [Act.put, List.setIfInBounds_toArray, List.set_cons_zero, List.set_cons_succ]; go_big_quiet_on))
          refine wpQuiet_nil ?_
          intro w11 hb
          have S11 := Lib.hid (S10.out.step hb)
          have HBQ := Lib.hid (HBA.out.trans (hb.mono HBA.out.size))
          clear hb
          go_wp2_with fail
          go_roundw
          case rel => exact ⟨n + 1, by go_num, by omega, HBQ.out⟩
          case measure => simp only [Go.RowKit.intOf]; omega
         ·have hn0i : ¬ (0 : Int) < (n : Int) := by omega
          go_wp2_with fail
          rw [← HW10.out]
          refine quiet_held (fun w' => Below w10.heap.size w10 w') (by kernel_rfl) (by kernel_rfl) (Below.refl _ _).drew ?_
          repeat (first
           | go_big_quiet_skip
           | (go_big_quiet_want; go_big_quiet_op; go_big_quiet_on)
           | (go_big_quiet_want; apply Exists.intro; refine ⟨fun wq hq => ?_, ?_⟩; (focus (have hx := is_below HYB.out hq (is_lt HYB.out); have y0 := is_cell hx 0; have y1 := is_cell hx 1; have y2 := is_cell hx 2; have y3 := is_cell hx 3; simp only [List.getElem?_cons_zero, List.getElem?_cons_succ] at y0 y1 y2 y3; have z0 := (hq.cell (p := ⟨b5, o5 + n * 4, none⟩) HE.out.1).trans HE.out.2.1; have z1 := (hq.cell (p := ⟨b5, o5 + n * 4 + 1, none⟩) HE.out.1).trans HE.out.2.2.1; have z2 := (hq.cell (p := ⟨b5, o5 + n * 4 + 2, none⟩) HE.out.1).trans HE.out.2.2.2.1; have z3 := (hq.cell (p := ⟨b5, o5 + n * 4 + 3, none⟩) HE.out.1).trans HE.out.2.2.2.2; unfold Oper.quietAt; go_simp; all_goals (first | rfl | exact ⟨rfl, rfl⟩ | (with_reducible refine (alike_v (alike_one y) HYR.out.1 HYR.out.1).mono ?_; rintro e wz ⟨rfl, hbn⟩; exact ⟨rfl, hq.trans (hbn.mono hq.size)⟩)))); simp only [Act.put, List.setIfInBounds_toArray, List.set_cons_zero, List.set_cons_succ]; go_big_quiet_on))
          refine wpQuiet_nil ?_
          intro w11 hb
          have S11 := Lib.hid (S10.out.step hb)
          have HBQ := Lib.hid (HBA.out.trans (hb.mono HBA.out.size))
          clear hb
          go_wp2_with fail
          go_roundw
          case rel => exact ⟨n + 1, by go_num, by omega, HBQ.out⟩
          case measure => simp only [Go.RowKit.intOf]; omega
        ·obtain rfl : n = ks.length := by omega
         go_wp2_with fail
         go_roundw
         case rel => exact ⟨k + 1, nn + 1, D7, by go_num, rfl, by omega, map_below HMAP8.out HBW3.out, by omega, HBOK7.out, HB8.out.trans (HBW3.out.mono HB8.out.size)⟩
         case measure => simp only [Go.RowKit.intOf]; omega
     ·obtain rfl : k = l.length := by omega
      rw [seenN_all]
      obtain ⟨m, hm⟩ : ∃ m, setP l r = m := ⟨_, rfl⟩
      have hml : m.length ≤ l.length + 1 := by rw [← hm]; exact setP_le l r
      have hmm : m.length ≤ maxLen := by unfold maxLen; omega
      have hm5 : m.length ≤ 100000 := by omega
      have hfm : fnd m (ch r) = some r := by rw [← hm, setP_fnd, if_pos rfl]
      obtain ⟨dd, hdd⟩ : ∃ dd, dropP l (ch r) = dd := ⟨_, rfl⟩
      have hdm : dropP m (ch r) = dd := by rw [← hm, drop_set HT.out.asc, hdd]
      have hdl : dd.length ≤ l.length := by rw [← hdd]; exact dropP_len l (ch r)
      have hdx : dd.length ≤ maxLen := by omega
      have HDR := Lib.hid (show Rows_ dd by rw [← hdd]; exact fun z hz => HRW.out z (dropP_mem hz))
      have HM := Lib.hid hm
      have HFM := Lib.hid hfm
      have HDD := Lib.hid hdd
      have HDM := Lib.hid hdm
      clear hm hfm hdd hdm hdl HMAP HBOK HBW hnn
      have hx := (SR.out.box (.head _))
      have y2_0 := is_cell hx 0
      have y2_1 := is_cell hx 1
      have y2_2 := is_cell hx 2
      have y2_3 := is_cell hx 3
      simp only [List.getElem?_cons_zero, List.getElem?_cons_succ] at y2_0 y2_1 y2_2 y2_3
      clear hx
      go_wp2_with fail
      refine (set_v (r := r) HM.out rfl hl5 HCAP.out (SR.out.rows (.tail _ (.head _)))).mono ?_
      rintro e w4 ⟨AS, cS, rfl, hat, hcap, hb⟩
      have S4 := Lib.hid ((SR.out.step hb).addR (A := AS) (l := m) hat)
      have HCS := Lib.hid hcap
      clear y2_0 y2_1 y2_2 y2_3
      clear hb hat hcap
      have hx := (S4.out.box (.tail _ (.head _)))
      have y3_0 := is_cell hx 0
      have y3_1 := is_cell hx 1
      have y3_2 := is_cell hx 2
      have y3_3 := is_cell hx 3
      simp only [List.getElem?_cons_zero, List.getElem?_cons_succ] at y3_0 y3_1 y3_2 y3_3
      clear hx
      go_wp2_with fail
      refine (find_v (c := ch r) (v := .agg #[.int .i64 (ch r), .int .i64 (pa r), .string (ba (nm r)), .float .f64 (rk r)]) (x := true) (by rw [HFM.out]; rfl) (by rw [HFM.out]; rfl) hmm (S4.out.rows (.head _))).mono ?_
      rintro e w5 ⟨rfl, hb⟩
      have S5 := Lib.hid (S4.out.step hb)
      clear y3_0 y3_1 y3_2 y3_3
      clear hb
      obtain ⟨w6, hw⟩ : ∃ w6, w6 = w5.alloc (.cells #[.int .i64 (ch r), .int .i64 (pa r), .string (ba (nm r)), .float .f64 (rk r)] 28) := ⟨_, rfl⟩
      have hb : Below w5.heap.size w5 w6 := by rw [hw]; exact (Below.refl _ _).alloc (Nat.le_refl _) _
      have S6 := Lib.hid ((S5.out.step hb).addB (g := w5.heap.size) (t := 28) (vs := [.int .i64 (ch r), .int .i64 (pa r), .string (ba (nm r)), .float .f64 (rk r)]) (by rw [hw]; exact is_new w5 28 _))
      have HW6 := Lib.hid hw
      clear hw hb
      go_upto_region 20 with fail
      rw [← HW6.out]
      have HI1 := Lib.hid (S6.out.box (.tail _ (.tail _ (.head _))))
      have HI2 := Lib.hid (S6.out.box (.head _))
      have HLz := Lib.hid (S6.out.rows (.tail _ (.tail _ (.tail _ (.head _)))))
      have HSz := Lib.hid (S6.out.rows (.tail _ (.head _)))
      have g0 := is_cell HI1.out 0
      have g1 := is_cell HI1.out 1
      have g2 := is_cell HI1.out 2
      have g3 := is_cell HI1.out 3
      have g4 := is_cell HI2.out 0
      have g5 := is_cell HI2.out 1
      have g6 := is_cell HI2.out 2
      have g7 := is_cell HI2.out 3
      simp only [List.getElem?_cons_zero, List.getElem?_cons_succ] at g0 g1 g2 g3 g4 g5 g6 g7
      have hll : ((l.length : Int) == (l.length : Int)) = true := by simp
      go_region_held3 (fun w' => w'.cell? ⟨w.heap.size, 0, none⟩ = some (.int .i64 (ch r)) ∧ w'.cell? ⟨w.heap.size, 1, none⟩ = some (.int .i64 (pa r)) ∧ w'.cell? ⟨w.heap.size, 2, none⟩ = some (.string (ba (nm r))) ∧ w'.cell? ⟨w.heap.size, 3, none⟩ = some (.float .f64 (rk r)) ∧ w'.cell? ⟨w5.heap.size, 0, none⟩ = some (.int .i64 (ch r)) ∧ w'.cell? ⟨w5.heap.size, 1, none⟩ = some (.int .i64 (pa r)) ∧ w'.cell? ⟨w5.heap.size, 2, none⟩ = some (.string (ba (nm r))) ∧ w'.cell? ⟨w5.heap.size, 3, none⟩ = some (.float .f64 (rk r)) ∧ Below w6.heap.size w6 w')
       (first
        | (exact hold8T (by assumption) hbn)
        | (exact hold8Td (by assumption))
        | (exact hold8Ts g0 g1 g2 g3 g4 g5 g6 g7)
        | go_keep)
       (first
        | (go_at_call 20; refine (alike_v (alike_one r) HR.out.1 HR.out.1).mono ?_; rintro e wz ⟨rfl, hbn⟩)
        | (go_at_call 21; (first | (with_reducible refine (drop_v HDM.out rfl hm5 HCS.out (HSz.out.keep (hold8Tb (by assumption)))).mono ?_; rintro e wz ⟨E1, f1, rfl, hT1, hc1, hbn⟩) | (with_reducible refine (drop_v HDD.out rfl hl5 HCAP.out (HLz.out.keep (hold8Tb (by assumption)))).mono ?_; rintro e wz ⟨E2, f2, rfl, hT2, hc2, hbn⟩; have hT1b := At.keep hT1 hbn)))
        | (go_at_call 18; refine (same_v (same_one dd) hdx hdx HDR.out HDR.out hT1b hT2).mono ?_; rintro e wz ⟨rfl, hbn⟩)
        | (go_at_call 11; refine (live12_c _).mono ?_; rintro e wz ⟨rfl, hbn⟩))
      have hbz : Below w6.heap.size w6 wz := hold8Tb (by assumption)
      have HBZ := Lib.hid (S6.out.step hbz).bel
      clear hbz g0 g1 g2 g3 g4 g5 g6 g7
      go_wp2_with fail
      go_ret
      exact ⟨rfl, HBZ.out⟩
end treeKids
end Go.Proofs.YtkobmnbjeppnaaaGreat
