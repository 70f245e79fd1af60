/-
  The walk of FoldOthers.
-/
import Derived.Test.YtihaiabkjmmmoaaQd
import Derived.Test.YtihaiabkjmmmoaaUg
namespace Go.Proofs.Ytihaiabkjmmmoaa
open Go.RowKit Go.IntWalk
open Gr
set_option maxRecDepth 100000
attribute [local go_sem] Oper.semAt_some

theorem fnd_getD {l : List Rw} {c : Int} (hM : Rows_ l) : rk ((fnd l c).getD zr) < 18446744073709551616 := by
  cases h : fnd l c with
  | none => show 0 < _; omega
  | some r =>
    unfold fnd at h
    exact (hM r (List.mem_of_find?_eq_some h)).1
theorem doP_other {l : List Rw} {m : Mv} {c : Int} (h : c ≠ ch (mw m)) : fnd (doP l m) c = fnd l c := by
  unfold doP
  split
  · rfl
  · rw [setP_fnd, if_neg h]
theorem doP_above {l : List Rw} {m : Mv} {a b : Int} (hb : b ≠ ch (mw m)) (h : abv l (ch (mw m)) l.length b = false) : abv (doP l m) a (doP l m).length b = abv l a l.length b := by
  unfold doP
  split
  · rfl
  · rw [Bool.eq_iff_iff, abv_ab, abv_ab, setP_up]
    exact upd_others hb (fun hab => by rw [(abv_ab _ _ _).2 hab] at h; cases h)
theorem doP_asc {l : List Rw} {m : Mv} (h : AscR l) : AscR (doP l m) := by
  unfold doP
  split
  · exact h
  · exact setP_asc h _
theorem doP_rows {l : List Rw} {m : Mv} (h : Rows_ l) (hm : rk (mw m) < 18446744073709551616 ∧ (nm (mw m)).length ≤ maxLen) : Rows_ (doP l m) := by
  unfold doP
  split
  · exact h
  · intro r hr
    rcases setP_mem hr with rfl | hr
    · exact hm
    · exact h r hr

namespace foldOthers
set_option maxHeartbeats 8000000 in
theorem walk (A : Option Addr) (cap : Nat) (l : List Rw) (m : Mv) (a b : Int) (hA : A = none → cap = 0) (hcap : l.length ≤ cap) (hl : l.length ≤ maxLen) (hM : Rows_ l) (hm1 : rk (mw m) < 18446744073709551616) (hm2 : (nm (mw m)).length ≤ maxLen) (w : World) (hc : At w w.heap.size A (tvs l)) :
    Calls Try.prog 13 #[.slice A l.length cap, .agg #[.int .i64 (mc m), .int .i64 (mr m), .int .i64 (pa (mw m)), .int .i64 (ch (mw m)), .string (ba (nm (mw m))), .float .f64 (rk (mw m))], .agg #[.int .i64 a, .int .i64 b]] w fun e w' => e = .returned (.bool true) ∧ Below w.heap.size w w' := by
  obtain ⟨w0, hw0⟩ : ∃ w0, w0 = (w.alloc (.cells #[.int .i64 (mc m), .int .i64 (mr m), .int .i64 (pa (mw m)), .int .i64 (ch (mw m)), .string (ba (nm (mw m))), .float .f64 (rk (mw m))] 30)).alloc (.cells #[.int .i64 a, .int .i64 b] 63) := ⟨_, rfl⟩
  have hbx : Below w.heap.size w w0 := by rw [hw0]; exact ((Below.refl w.heap.size w).alloc (Nat.le_refl _) _).alloc (by simp) _
  have hI : Is w0 w.heap.size 30 [.int .i64 (mc m), .int .i64 (mr m), .int .i64 (pa (mw m)), .int .i64 (ch (mw m)), .string (ba (nm (mw m))), .float .f64 (rk (mw m))] := by rw [hw0]; exact is_alloc (is_new w 30 [.int .i64 (mc m), .int .i64 (mr m), .int .i64 (pa (mw m)), .int .i64 (ch (mw m)), .string (ba (nm (mw m))), .float .f64 (rk (mw m))]) _
  have hJ : Is w0 (w.heap.size + 1) 63 [.int .i64 a, .int .i64 b] := by
    have := is_new (w.alloc (.cells #[.int .i64 (mc m), .int .i64 (mr m), .int .i64 (pa (mw m)), .int .i64 (ch (mw m)), .string (ba (nm (mw m))), .float .f64 (rk (mw m))] 30)) 63 [.int .i64 a, .int .i64 b]
    rw [World.size_alloc] at this
    rw [hw0]; exact this
  have hs0 : w0.heap.size = w.heap.size + 2 := by rw [hw0]; simp
  have HI := Lib.hid hI
  have HJ := Lib.hid hJ
  have HBX := Lib.hid hbx
  have HC := Lib.hid (hc.keep hbx)
  have HA := Lib.hid hA
  have HM := Lib.hid hM
  have HM2 := Lib.hid (And.intro hm1 hm2)
  have HL := Lib.hid hl
  have HW := Lib.hid hw0
  have HS := Lib.hid hs0
  have hsz := ba_size (nm (mw m))
  have g0 := is_cell HI.out 0
  have g1 := is_cell HI.out 1
  have g2 := is_cell HI.out 2
  have g3 := is_cell HI.out 3
  have g4 := is_cell HI.out 4
  have g5 := is_cell HI.out 5
  simp only [List.getElem?_cons_zero, List.getElem?_cons_succ] at g0 g1 g2 g3 g4 g5
  unfold maxLen at hm2
  clear hI hJ hbx hc hA hM hl hm1 hw0 hs0
  cases hf : few l with
  | false =>
    have HF := Lib.hid hf
    clear hf
    go_enter Try.func13, Try.ntmps13
    go_wp2_with fail
    rw [← HW.out]
    refine (few_c A cap l HL.out _ HC.out).mono ?_
    rintro e w1 ⟨rfl, rfl⟩
    rw [HF.out]
    go_wp2_with fail
    refine (live14_c _).mono ?_
    rintro e w2 ⟨rfl, hb⟩
    go_wp2_with fail
    go_ret
    exact ⟨rfl, HBX.out.trans (hb.mono HBX.out.size)⟩
  | true =>
    obtain ⟨hl60, -⟩ := few_in hf
    have HF := Lib.hid hf
    clear hf
    by_cases hlong : 100 < (nm (mw m)).length
    · go_enter Try.func13, Try.ntmps13
      go_wp2_with fail
      rw [← HW.out]
      refine (few_c A cap l HL.out _ HC.out).mono ?_
      rintro e w1 ⟨rfl, rfl⟩
      rw [HF.out]
      go_wp2_with fail
      refine (live14_c _).mono ?_
      rintro e w2 ⟨rfl, hb⟩
      go_wp2_with fail
      go_ret
      exact ⟨rfl, HBX.out.trans (hb.mono HBX.out.size)⟩
    · cases hmay : mayB l with
      | false =>
        have HMY := Lib.hid hmay
        clear hmay
        go_enter Try.func13, Try.ntmps13
        go_wp2_with fail
        rw [← HW.out]
        refine (few_c A cap l HL.out _ HC.out).mono ?_
        rintro e w1 ⟨rfl, rfl⟩
        rw [HF.out]
        go_wp2_with fail
        refine (rmay_c A cap l HL.out (fun r hr => (HM.out r hr).2) _ HC.out).mono ?_
        rintro e w1 ⟨rfl, hb1⟩
        rw [HMY.out]
        go_wp2_with fail
        refine (live14_c _).mono ?_
        rintro e w2 ⟨rfl, hb⟩
        go_wp2_with fail
        go_ret
        exact ⟨rfl, HBX.out.trans ((hb1.trans (hb.mono hb1.size)).mono HBX.out.size)⟩
      | true =>
        have HT := Lib.hid ((mayB_tree l).1 hmay)
        have HMY := Lib.hid hmay
        clear hmay
        go_enter Try.func13, Try.ntmps13
        go_wp2_with fail
        rw [← HW.out]
        refine (few_c A cap l HL.out _ HC.out).mono ?_
        rintro e w1 ⟨rfl, rfl⟩
        rw [HF.out]
        go_wp2_with fail
        refine (rmay_c A cap l HL.out (fun r hr => (HM.out r hr).2) _ HC.out).mono ?_
        rintro e w1 ⟨rfl, hb1⟩
        rw [HMY.out]
        clear g0 g1 g2 g3 g4 g5
        have hI9 := is_below HI.out (hb1) (by have := HS.out; omega)
        have hJ9 := is_below HJ.out (hb1) (by have := HS.out; omega)
        have g0 := is_cell hI9 0
        have g1 := is_cell hI9 1
        have g2 := is_cell hI9 2
        have g3 := is_cell hI9 3
        have g4 := is_cell hI9 4
        have g5 := is_cell hI9 5
        have k0 := is_cell hJ9 0
        have k1 := is_cell hJ9 1
        simp only [List.getElem?_cons_zero, List.getElem?_cons_succ] at g0 g1 g2 g3 g4 g5 k0 k1
        clear hI9 hJ9

        cases ho : oneM m with
        | false =>
          have HO := Lib.hid ho
          clear ho
          go_wp2_with fail
          refine (rmone_c m (by have := HM2.out.2; omega) _).mono ?_
          rintro e w2 ⟨rfl, hb2⟩
          have hb2' := hb1.trans (hb2.mono hb1.size)
          rw [HO.out]
          go_wp2_with fail
          refine (live14_c _).mono ?_
          rintro e w9 ⟨rfl, hb9⟩
          go_wp2_with fail
          go_ret
          exact ⟨rfl, HBX.out.trans ((hb2'.trans (hb9.mono hb2'.size)).mono HBX.out.size)⟩

        | true =>
          have HO := Lib.hid ho
          clear ho
          go_wp2_with fail
          refine (rmone_c m (by have := HM2.out.2; omega) _).mono ?_
          rintro e w2 ⟨rfl, hb2⟩
          have hb2' := hb1.trans (hb2.mono hb1.size)
          rw [HO.out]
          clear g0 g1 g2 g3 g4 g5 k0 k1
          have hI9 := is_below HI.out (hb2') (by have := HS.out; omega)
          have hJ9 := is_below HJ.out (hb2') (by have := HS.out; omega)
          have g0 := is_cell hI9 0
          have g1 := is_cell hI9 1
          have g2 := is_cell hI9 2
          have g3 := is_cell hI9 3
          have g4 := is_cell hI9 4
          have g5 := is_cell hI9 5
          have k0 := is_cell hJ9 0
          have k1 := is_cell hJ9 1
          simp only [List.getElem?_cons_zero, List.getElem?_cons_succ] at g0 g1 g2 g3 g4 g5 k0 k1
          clear hI9 hJ9

          have hl' : l.length ≤ 100000 := by omega
          have hlt' : (doP l m).length ≤ 100000 := by have := doP_len l m; omega
          go_wp2_with fail
          refine (mdo_c A cap l m hl' HA.out hcap (above_asc (asc_of_AscR HT.out.asc) hl' A cap) _ (HC.out.keep hb2')).mono ?_
          rintro e w3 ⟨A3, cap3, rfl, h3, n3, c3, hb3⟩
          have hb3' := hb2'.trans (hb3.mono hb2'.size)
          have H3 := Lib.hid h3
          have HC3 := Lib.hid (HC.out.keep hb3')
          clear h3 n3 c3
          clear g0 g1 g2 g3 g4 g5 k0 k1
          have hI9 := is_below HI.out (hb3') (by have := HS.out; omega)
          have hJ9 := is_below HJ.out (hb3') (by have := HS.out; omega)
          have g0 := is_cell hI9 0
          have g1 := is_cell hI9 1
          have g2 := is_cell hI9 2
          have g3 := is_cell hI9 3
          have g4 := is_cell hI9 4
          have g5 := is_cell hI9 5
          have k0 := is_cell hJ9 0
          have k1 := is_cell hJ9 1
          simp only [List.getElem?_cons_zero, List.getElem?_cons_succ] at g0 g1 g2 g3 g4 g5 k0 k1
          clear hI9 hJ9

          have k0' : w3.drew.cell? ⟨w.heap.size + 1, 0, none⟩ = some (.int .i64 a) := k0
          have k1' : w3.drew.cell? ⟨w.heap.size + 1, 1, none⟩ = some (.int .i64 b) := k1
          have g3' : w3.drew.cell? ⟨w.heap.size, 3, none⟩ = some (.int .i64 (ch (mw m))) := g3
          have hb4 := below_drewN hb3' 1
          go_wp2_with fail
          go_region
          by_cases ham : a = ch (mw m)
          · have ham' : (a != ch (mw m)) = false := by simpa using ham
            have HAM := Lib.hid ham
            clear ham
            by_cases hbm : b = ch (mw m)
            · have hbm' : (b != ch (mw m)) = false := by simpa using hbm
              have HBM := Lib.hid hbm
              clear hbm
              go_wp2_with fail
              refine (live14_c _).mono ?_
              rintro e w9 ⟨rfl, hb9⟩
              go_wp2_with fail
              go_ret
              exact ⟨rfl, HBX.out.trans ((hb4.trans (hb9.mono hb4.size)).mono HBX.out.size)⟩

            · have hbm' : (b != ch (mw m)) = true := by simpa using hbm
              have HBM := Lib.hid hbm
              clear hbm
              cases hab : abv l (ch (mw m)) l.length b with
              | true =>
                have HAB := Lib.hid hab
                clear hab
                go_wp2_with fail
                refine (above_asc (asc_of_AscR HT.out.asc) hl' A cap _ _ _ (HC3.out.keep (Below.refl _ _).drew)).mono ?_
                rintro e w5 ⟨rfl, hb5⟩
                have hb5' := hb4.trans (hb5.mono hb4.size)
                rw [HAB.out]
                go_wp2_with fail
                refine (live14_c _).mono ?_
                rintro e w9 ⟨rfl, hb9⟩
                go_wp2_with fail
                go_ret
                exact ⟨rfl, HBX.out.trans ((hb5'.trans (hb9.mono hb5'.size)).mono HBX.out.size)⟩

              | false =>
                have HAB := Lib.hid hab
                clear hab
                go_wp2_with fail
                refine (above_asc (asc_of_AscR HT.out.asc) hl' A cap _ _ _ (HC3.out.keep (Below.refl _ _).drew)).mono ?_
                rintro e w5 ⟨rfl, hb5⟩
                have hb5' := hb4.trans (hb5.mono hb4.size)
                rw [HAB.out]
                go_wp2_with fail
                refine (above_asc (asc_of_AscR HT.out.asc) hl' A cap _ _ _ (((HC3.out.keep (Below.refl _ _).drew)).keep hb5)).mono ?_
                rintro e w6 ⟨rfl, hb6⟩
                have hb6' := hb5'.trans (hb6.mono hb5'.size)
                go_wp2_with fail
                refine (above_asc (asc_of_AscR (doP_asc HT.out.asc)) hlt' A3 cap3 _ _ _ ((((H3.out.keep (Below.refl _ _).drew)).keep hb5).keep hb6)).mono ?_
                rintro e w7 ⟨rfl, hb7⟩
                have hb7' := hb6'.trans (hb7.mono hb6'.size)
                rw [doP_above HBM.out HAB.out]
                have hne : ∀ q : Bool, (q != q) = false := fun q => by cases q <;> rfl
                go_wp2_with fail
                refine (live14_c _).mono ?_
                rintro e w9 ⟨rfl, hb9⟩
                go_wp2_with fail
                go_ret
                exact ⟨rfl, HBX.out.trans ((hb7'.trans (hb9.mono hb7'.size)).mono HBX.out.size)⟩

          · have ham' : (a != ch (mw m)) = true := by simpa using ham
            have HAM := Lib.hid ham
            clear ham
            go_wp2_with fail
            refine (find_c A cap l a HL.out _ (HC3.out.keep (Below.refl _ _).drew)).mono ?_
            rintro e w11 ⟨rfl, hb11⟩
            have hb11' := hb4.trans (hb11.mono hb4.size)
            obtain ⟨r, hr⟩ : ∃ r, (fnd l a).getD zr = r := ⟨_, rfl⟩
            obtain ⟨u, hu⟩ : ∃ u, (fnd l a).isSome = u := ⟨_, rfl⟩
            rw [hr, hu, show rv r = .agg #[.int .i64 (ch r), .int .i64 (pa r), .string (ba (nm r)), .float .f64 (rk r)] from rfl]
            have hcl11 := (HC3.out.keep (Below.refl _ _).drew).keep hb11
            have h311 := (H3.out.keep (Below.refl _ _).drew).keep hb11
            have HR := Lib.hid hr
            have HU := Lib.hid hu
            clear hr hu
            have hx12 := (Below.refl w11.heap.size w11).alloc (Nat.le_refl _) (.cells #[.int .i64 (ch r), .int .i64 (pa r), .string (ba (nm r)), .float .f64 (rk r)] 33)
            have hI12 := is_new w11 33 [.int .i64 (ch r), .int .i64 (pa r), .string (ba (nm r)), .float .f64 (rk r)]
            obtain ⟨w12, hw12⟩ : ∃ w12, w12 = w11.alloc (.cells #[.int .i64 (ch r), .int .i64 (pa r), .string (ba (nm r)), .float .f64 (rk r)] 33) := ⟨_, rfl⟩
            rw [← hw12] at hx12
            change Is (w11.alloc (.cells #[.int .i64 (ch r), .int .i64 (pa r), .string (ba (nm r)), .float .f64 (rk r)] 33)) _ _ _ at hI12
            rw [← hw12] at hI12
            have hs12 : w11.heap.size < w12.heap.size := by rw [hw12]; simp
            have hb12 := hb11'.trans (hx12.mono hb11'.size)
            have hcl12 := hcl11.keep hx12
            have h312 := h311.keep hx12
            have HW12 := Lib.hid hw12
            have HI12 := Lib.hid hI12
            clear hw12 hI12 hcl11 h311
            go_wp2_with fail
            rw [← HW12.out]
            refine (find_c A3 cap3 (doP l m) a (by unfold maxLen; omega) _ h312).mono ?_
            rintro e w13 ⟨rfl, hb13⟩
            rw [doP_other HAM.out, HR.out, HU.out, show rv r = .agg #[.int .i64 (ch r), .int .i64 (pa r), .string (ba (nm r)), .float .f64 (rk r)] from rfl]
            have hb13' := hb12.trans (hb13.mono hb12.size)
            obtain ⟨w14, hw14⟩ : ∃ w14, w14 = w13.alloc (.cells #[.int .i64 (ch r), .int .i64 (pa r), .string (ba (nm r)), .float .f64 (rk r)] 33) := ⟨_, rfl⟩
            have hx14 : Below w13.heap.size w13 w14 := by rw [hw14]; exact (Below.refl _ _).alloc (Nat.le_refl _) _
            have hI14 : Is w14 w13.heap.size 33 [.int .i64 (ch r), .int .i64 (pa r), .string (ba (nm r)), .float .f64 (rk r)] := by rw [hw14]; exact is_new w13 33 [.int .i64 (ch r), .int .i64 (pa r), .string (ba (nm r)), .float .f64 (rk r)]
            have hI12' := is_below (is_below HI12.out hb13 hs12) hx14 (by have := hb13.size; omega)
            have hb14 := hb13'.trans (hx14.mono hb13'.size)
            have hcl14 := (hcl12.keep hb13).keep hx14
            have h314 := (h312.keep hb13).keep hx14
            have x0 := is_cell hI14 0
            have x1 := is_cell hI14 1
            have x2 := is_cell hI14 2
            have x3 := is_cell hI14 3
            have y0 := is_cell hI12' 0
            have y1 := is_cell hI12' 1
            have y2 := is_cell hI12' 2
            have y3 := is_cell hI12' 3
            simp only [List.getElem?_cons_zero, List.getElem?_cons_succ] at x0 x1 x2 x3 y0 y1 y2 y3
            have hrk : rk r < 18446744073709551616 := by rw [← HR.out]; exact fnd_getD HM.out
            have hux : (u != u) = false := by cases u <;> rfl
            have HW14 := Lib.hid hw14
            have HRK := Lib.hid hrk
            clear hw14 hI14 hI12' hcl12 h312 hrk
            rw [HW14.out] at x0 x1 x2 x3 y0 y1 y2 y3
            go_wp2_with fail
            rw [← HW14.out]
            refine (alike_c r r HRK.out HRK.out _).mono ?_
            rintro e w15 ⟨rfl, hb15⟩
            rw [alikeP_refl]
            have hb15' := hb14.trans (hb15.mono hb14.size)
            have hcl15 := hcl14.keep hb15
            have h315 := h314.keep hb15
            clear x0 x1 x2 x3 y0 y1 y2 y3 k0' k1' g3'
            clear g0 g1 g2 g3 g4 g5 k0 k1
            have hI9 := is_below HI.out (hb15') (by have := HS.out; omega)
            have hJ9 := is_below HJ.out (hb15') (by have := HS.out; omega)
            have g0 := is_cell hI9 0
            have g1 := is_cell hI9 1
            have g2 := is_cell hI9 2
            have g3 := is_cell hI9 3
            have g4 := is_cell hI9 4
            have g5 := is_cell hI9 5
            have k0 := is_cell hJ9 0
            have k1 := is_cell hJ9 1
            simp only [List.getElem?_cons_zero, List.getElem?_cons_succ] at g0 g1 g2 g3 g4 g5 k0 k1
            clear hI9 hJ9
            by_cases hbm : b = ch (mw m)
            · have hbm' : (b != ch (mw m)) = false := by simpa using hbm
              have HBM := Lib.hid hbm
              clear hbm
              go_wp2_with fail
              refine (live14_c _).mono ?_
              rintro e w9 ⟨rfl, hb9⟩
              go_wp2_with fail
              go_ret
              exact ⟨rfl, HBX.out.trans ((hb15'.trans (hb9.mono hb15'.size)).mono HBX.out.size)⟩

            · have hbm' : (b != ch (mw m)) = true := by simpa using hbm
              have HBM := Lib.hid hbm
              clear hbm
              cases hab : abv l (ch (mw m)) l.length b with
              | true =>
                have HAB := Lib.hid hab
                clear hab
                go_wp2_with fail
                refine (above_asc (asc_of_AscR HT.out.asc) hl' A cap _ _ _ hcl15).mono ?_
                rintro e w5 ⟨rfl, hb5⟩
                have hb5' := hb15'.trans (hb5.mono hb15'.size)
                rw [HAB.out]
                go_wp2_with fail
                refine (live14_c _).mono ?_
                rintro e w9 ⟨rfl, hb9⟩
                go_wp2_with fail
                go_ret
                exact ⟨rfl, HBX.out.trans ((hb5'.trans (hb9.mono hb5'.size)).mono HBX.out.size)⟩

              | false =>
                have HAB := Lib.hid hab
                clear hab
                go_wp2_with fail
                refine (above_asc (asc_of_AscR HT.out.asc) hl' A cap _ _ _ hcl15).mono ?_
                rintro e w5 ⟨rfl, hb5⟩
                have hb5' := hb15'.trans (hb5.mono hb15'.size)
                rw [HAB.out]
                go_wp2_with fail
                refine (above_asc (asc_of_AscR HT.out.asc) hl' A cap _ _ _ ((hcl15).keep hb5)).mono ?_
                rintro e w6 ⟨rfl, hb6⟩
                have hb6' := hb5'.trans (hb6.mono hb5'.size)
                go_wp2_with fail
                refine (above_asc (asc_of_AscR (doP_asc HT.out.asc)) hlt' A3 cap3 _ _ _ (((h315).keep hb5).keep hb6)).mono ?_
                rintro e w7 ⟨rfl, hb7⟩
                have hb7' := hb6'.trans (hb7.mono hb6'.size)
                rw [doP_above HBM.out HAB.out]
                have hne : ∀ q : Bool, (q != q) = false := fun q => by cases q <;> rfl
                go_wp2_with fail
                refine (live14_c _).mono ?_
                rintro e w9 ⟨rfl, hb9⟩
                go_wp2_with fail
                go_ret
                exact ⟨rfl, HBX.out.trans ((hb7'.trans (hb9.mono hb7'.size)).mono HBX.out.size)⟩
end foldOthers
end Go.Proofs.Ytihaiabkjmmmoaa
