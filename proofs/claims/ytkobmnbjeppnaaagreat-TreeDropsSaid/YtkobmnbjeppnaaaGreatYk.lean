/-
 A row of a tree that is dropped: a walk.
-/
import Derived.Test.YtkobmnbjeppnaaaGreatYf
import Derived.Test.YtkobmnbjeppnaaaGreatXl
import Derived.Deep.DeepCutAuto
namespace Go.Proofs.YtkobmnbjeppnaaaGreat
open Go.RowKit Go.IntWalk
open Fl Gr
set_option maxRecDepth 100000
attribute [local go_sem] Oper.semAt_some
namespace treeDrops
set_option maxHeartbeats 16000000 in
theorem walk (A : Option Addr) (cap : Nat) (l : List Rw) (hA : A = none → cap = 0) (hcap : l.length ≤ cap) (hmx : l.length ≤ maxLen) (hrw : Rows_ l) (h6 : ∀ r ∈ l, In64 (ch r) ∧ In64 (pa r)) (c : Int) (w : World) (hc : At w w.heap.size A (tvs l)) :
  Calls Tryz.prog 9 #[.slice A l.length cap, .int .i64 c] w fun e w' => e = .returned (.bool true) ∧ Below w.heap.size w w' := by
 have S0 := Lib.hid ((Bed.start w).addR (A := A) (l := l) hc)
 have HRW := Lib.hid hrw
 have H6 := Lib.hid h6
 have HCAP := Lib.hid (show Cap A l.length cap from ⟨hA, hcap⟩)
 clear hc hrw h6 hA hcap
 go_enter Tryz.func9, Tryz.ntmps9
 cases hfew : few l with
 | false =>
  go_wp2_with fail
  refine (few_v hfew hmx (S0.out.rows (.head _))).mono ?_
  rintro e w1 ⟨rfl, hb⟩
  have S1 := Lib.hid (S0.out.step hb)
  clear hb
  go_wp2_with fail
  refine (live12_c _).mono ?_
  rintro e w2 ⟨rfl, hb⟩
  have S2 := Lib.hid (S1.out.step hb)
  clear hb
  go_wp2_with fail
  go_ret
  exact ⟨rfl, S2.out.bel⟩
 | true =>
  go_wp2_with fail
  refine (few_v hfew hmx (S0.out.rows (.head _))).mono ?_
  rintro e w1 ⟨rfl, hb⟩
  have S1 := Lib.hid (S0.out.step hb)
  clear hb
  have hl60 := (few_in hfew).1
  have hl5 : l.length ≤ 100000 := by omega
  clear hfew
  cases hmay : mayB l with
  | false =>
   go_wp2_with fail
   refine (rmay_v hmay hmx HRW.out (S1.out.rows (.head _))).mono ?_
   rintro e w2 ⟨rfl, hb⟩
   have S2 := Lib.hid (S1.out.step hb)
   clear hb
   go_wp2_with fail
   refine (live12_c _).mono ?_
   rintro e w3 ⟨rfl, hb⟩
   have S3 := Lib.hid (S2.out.step hb)
   clear hb
   go_wp2_with fail
   go_ret
   exact ⟨rfl, S3.out.bel⟩
  | true =>
   go_wp2_with fail
   refine (rmay_v hmay hmx HRW.out (S1.out.rows (.head _))).mono ?_
   rintro e w2 ⟨rfl, hb⟩
   have S2 := Lib.hid (S1.out.step hb)
   clear hb
   have HT := Lib.hid ((mayB_tree l).1 hmay)
   clear hmay
   by_cases hc0 : c = 0
   ·have hq1 : (c == 0) = true := by simpa using hc0
    go_wp2_with fail
    refine (live12_c _).mono ?_
    rintro e w3 ⟨rfl, hb⟩
    have S3 := Lib.hid (S2.out.step hb)
    clear hb
    go_wp2_with fail
    go_ret
    exact ⟨rfl, S3.out.bel⟩
   ·have hq1 : (c == 0) = false := by simpa using hc0
    obtain ⟨d, hd⟩ : ∃ d, dropP l c = d := ⟨_, rfl⟩
    have hdl : d.length ≤ l.length := by rw [← hd]; exact dropP_len l c
    have hd1 : d.length ≤ 1000 := by omega
    have hdm : d.length ≤ maxLen := by omega
    have hdli : (d.length : Int) ≤ (l.length : Int) := by omega
    have hdr : Rows_ d := by rw [← hd]; exact fun z hz => HRW.out z (dropP_mem hz)
    have hd6 : ∀ r ∈ d, In64 (ch r) ∧ In64 (pa r) := by rw [← hd]; exact fun z hz => H6.out z (dropP_mem hz)
    have hdt : mayB d = true := by rw [← hd]; exact (mayB_tree _).2 (drop_tree HT.out c)
    have hdn : fnd d c = none := by rw [← hd, dropP_fnd HT.out.asc, if_pos rfl]
    obtain ⟨x, hx⟩ : ∃ x, (fnd l c).getD zr = x := ⟨_, rfl⟩
    obtain ⟨q, hq⟩ : ∃ q, reachR l = q := ⟨_, rfl⟩
    have hql : q.length ≤ l.length + 1 := by rw [← hq]; exact reachR_le l
    have HD := Lib.hid hd
    have HDR := Lib.hid hdr
    have HD6 := Lib.hid hd6
    have HDT := Lib.hid hdt
    have HDN := Lib.hid hdn
    have HX := Lib.hid hx
    have HQ := Lib.hid hq
    have HC0 := Lib.hid hc0
    clear hd hdr hd6 hdt hdn hx hq hc0
    go_wp2_with fail
    refine (drop_v HD.out rfl hl5 HCAP.out (S2.out.rows (.head _))).mono ?_
    rintro e w3 ⟨AD, cD, rfl, hat, hcap, hb⟩
    have S3 := Lib.hid ((S2.out.step hb).addR (A := AD) (l := d) hat)
    have CPAD := Lib.hid hcap
    clear hb hat hcap
    go_wp2_with fail
    refine (may_v HDT.out hd1 HDR.out (S3.out.rows (.head _))).mono ?_
    rintro e w4 ⟨rfl, hb⟩
    have S4 := Lib.hid (S3.out.step hb)
    clear hb
    cases hy : (fnd l c).isSome with
    | false =>
     go_wp2_with fail
     refine (find_v (v := .agg #[.int .i64 (ch x), .int .i64 (pa x), .string (ba (nm x)), .float .f64 (rk x)]) (x := false) (by rw [HX.out]; rfl) hy hmx (S4.out.rows (.tail _ (.head _)))).mono ?_
     rintro e w5 ⟨rfl, hb⟩
     have S5 := Lib.hid (S4.out.step hb)
     clear hb
     obtain ⟨w6, hw⟩ : ∃ w6, w6 = w5.alloc (.cells #[.int .i64 (ch x), .int .i64 (pa x), .string (ba (nm x)), .float .f64 (rk x)] 28) := ⟨_, rfl⟩
     have hb : Below w5.heap.size w5 w6 := by rw [hw]; exact (Below.refl _ _).alloc (Nat.le_refl _) _
     have S6 := Lib.hid ((S5.out.step hb).addB (g := w5.heap.size) (t := 28) (vs := [.int .i64 (ch x), .int .i64 (pa x), .string (ba (nm x)), .float .f64 (rk x)]) (by rw [hw]; exact is_new w5 28 _))
     have HW6 := Lib.hid hw
     clear hw hb
     go_wp2_with fail
     rw [← HW6.out]
     refine (reached_v HQ.out rfl (by omega) H6.out (S6.out.rows (.tail _ (.tail _ (.head _))))).mono ?_
     rintro e w7 ⟨AR, cR, rfl, hat, hcap, hb⟩
     have S7 := Lib.hid ((S6.out.step hb).addI (A := AR) (l := q) hat)
     have CPAR := Lib.hid hcap
     clear hb hat hcap
     have HW := Lib.hid (show q.filter (fun _ => true) = reachR d by rw [← HD.out, drop_none HT.out (by simpa using hy), HQ.out]; simp)
     clear hy
     obtain ⟨f, hf⟩ : ∃ f : Int → Bool, f = (fun _ => true) := ⟨_, rfl⟩
     rw [← hf] at HW
     have HF := Lib.hid hf
     clear hf
     go_wp2_with fail
     go_loopw [8, 10] (fun v i wr => ∃ k : Nat, i = .int .i64 (k : Int) ∧ k ≤ q.length ∧ wr.ownsRow w7.heap.size 3 1 v (stay f q k).length (ivs (stay f q k)) ∧ Below w7.heap.size w7 wr) (fun _ i _ => q.length - (Go.RowKit.intOf i).toNat)
     case atStart => exact ⟨0, rfl, Nat.zero_le _, ⟨rfl, .inl ⟨rfl, rfl⟩⟩, Below.refl _ _⟩
     case round =>
      obtain ⟨k, rfl, hk, hown, hbw⟩ := hrel
      have SR := Lib.hid (S7.out.step hbw)
      have HOWN := Lib.hid hown
      have HBW := Lib.hid hbw
      have hsl := stay_len f q k
      clear hown hbw
      by_cases hlt : k < q.length
      ·obtain ⟨y, hy⟩ := some_at hlt
       have hki : (0 : Int) ≤ (k : Int) := by omega
       have hkl : (k : Int) < (q.length : Int) := by omega
       obtain ⟨b0, o0, hAe, hb0, c0⟩ := (SR.out.ints (.head _)) k (.int .i64 y) (by unfold ivs; rw [List.getElem?_map, hy]; rfl)
       subst hAe
       have HY := Lib.hid hy
       clear hy
       have HOWN2 := HOWN
       have HBW2 := HBW
       clear HOWN HBW
       have hfy : f y = true := by rw [HF.out]
       have HFY := Lib.hid hfy
       clear hfy
       go_wp2_with (at_builtin; refine append_optI _ rfl _ _ rfl w7.heap.size _ _ _ (stay f q k) rfl (HOWN2.out.alloc (.cells #[.int .i64 y] 3)) (some ⟨wr.heap.size, 0, none⟩) 1 [y] 1 rfl rfl (fun h => by cases h) (Nat.le_refl _) (at_oneI wr y) (by omega) (by have := HBW2.out.size; simp; omega) ?_; intro v' w8 hown' hgrow)
       go_roundw
       case rel =>
        refine ⟨k + 1, by go_num, by omega, ?_, ?_⟩
        ·rw [stay_yes HY.out HFY.out, List.length_append]; exact hown'
        ·exact (HBW2.out.alloc HBW2.out.size _).grown hgrow (by have := HBW2.out.size; simp; omega) fun j hj => (HOWN2.out.lt j hj).1
       case measure => simp only [Go.RowKit.intOf]; omega
      ·obtain rfl : k = q.length := by omega
       have hst := stay_all f q
       rw [HW.out] at hst
       obtain ⟨A9, c9, rfl, hat9, -, -⟩ := own_at HOWN.out
       rw [hst] at hat9
       obtain ⟨n9, hn9⟩ : ∃ n9, (stay f q q.length).length = n9 := ⟨_, rfl⟩
       have hn92 : n9 = (reachR d).length := by rw [← hn9, hst]
       rw [hn9]
       have hn9m : (reachR d).length ≤ maxLen := by have := reachR_le d; unfold maxLen; omega
       have HAT := Lib.hid hat9
       have HN9 := Lib.hid hn92
       have HBX := Lib.hid (show At wr wr.heap.size A9 (ivs (reachR d)) from hat9)
       clear hst hat9 hn9 hn92 HOWN hsl
       have SQ := Lib.hid (SR.out.addI (A := A9) (l := reachR d) HBX.out)
       clear SR HBX HAT
       go_wp2_with fail
       refine (find_v (v := .agg #[.int .i64 0, .int .i64 0, .string ⟨#[]⟩, .float .f64 0]) (x := false) (by rw [HDN.out]; rfl) (by rw [HDN.out]; rfl) hdm (SQ.out.rows (.tail _ (.tail _ (.tail _ (.head _)))))).mono ?_
       rintro e w8 ⟨rfl, hb⟩
       have S8 := Lib.hid (SQ.out.step hb)
       clear hb
       obtain ⟨w9, hw⟩ : ∃ w9, w9 = w8.alloc (.cells #[.int .i64 0, .int .i64 0, .string ⟨#[]⟩, .float .f64 0] 28) := ⟨_, rfl⟩
       have hb : Below w8.heap.size w8 w9 := by rw [hw]; exact (Below.refl _ _).alloc (Nat.le_refl _) _
       have S9 := Lib.hid ((S8.out.step hb).addB (g := w8.heap.size) (t := 28) (vs := [.int .i64 0, .int .i64 0, .string ⟨#[]⟩, .float .f64 0]) (by rw [hw]; exact is_new w8 28 _))
       have HW9 := Lib.hid hw
       clear hw hb
       go_wp2_with fail
       rw [← HW9.out]
       refine (reached_v (l := d) rfl HN9.out.symm hd1 HD6.out (S9.out.rows (.tail _ (.tail _ (.tail _ (.tail _ (.head _))))))).mono ?_
       rintro e w10 ⟨AE, cE, rfl, hat, hcap, hb⟩
       have S10 := Lib.hid ((S9.out.step hb).addI (A := AE) (l := reachR d) hat)
       have CPAE := Lib.hid hcap
       clear hb hat hcap
       have hsv : ∀ w : World, At w w.heap.size AE (ivs (reachR d)) → At w w.heap.size A9 (ivs (reachR d)) → Calls Tryz.prog 31 #[.slice AE n9 cE, .slice A9 n9 c9] w fun e w' => e = .returned (.bool true) ∧ Below w.heap.size w w' := fun w h1 h2 => by rw [HN9.out]; exact same5_v (by simp) hn9m hn9m h1 h2
       have HSV := Lib.hid hsv
       clear hsv
       go_wp2_with fail
       refine (HSV.out _ (S10.out.ints (.head _)) (S10.out.ints (.tail _ (.tail _ (.head _))))).mono ?_
       rintro e w11 ⟨rfl, hb⟩
       have S11 := Lib.hid (S10.out.step hb)
       clear hb
       go_wp2_with fail
       refine (live12_c _).mono ?_
       rintro e w12 ⟨rfl, hb⟩
       have S12 := Lib.hid (S11.out.step hb)
       clear hb
       go_wp2_with fail
       go_ret
       exact ⟨rfl, S12.out.bel⟩
    | true =>
     go_wp2_with fail
     refine (find_v (v := .agg #[.int .i64 (ch x), .int .i64 (pa x), .string (ba (nm x)), .float .f64 (rk x)]) (x := true) (by rw [HX.out]; rfl) hy hmx (S4.out.rows (.tail _ (.head _)))).mono ?_
     rintro e w5 ⟨rfl, hb⟩
     have S5 := Lib.hid (S4.out.step hb)
     clear hb
     obtain ⟨w6, hw⟩ : ∃ w6, w6 = w5.alloc (.cells #[.int .i64 (ch x), .int .i64 (pa x), .string (ba (nm x)), .float .f64 (rk x)] 28) := ⟨_, rfl⟩
     have hb : Below w5.heap.size w5 w6 := by rw [hw]; exact (Below.refl _ _).alloc (Nat.le_refl _) _
     have S6 := Lib.hid ((S5.out.step hb).addB (g := w5.heap.size) (t := 28) (vs := [.int .i64 (ch x), .int .i64 (pa x), .string (ba (nm x)), .float .f64 (rk x)]) (by rw [hw]; exact is_new w5 28 _))
     have HW6 := Lib.hid hw
     clear hw hb
     go_wp2_with fail
     rw [← HW6.out]
     refine (reached_v HQ.out rfl (by omega) H6.out (S6.out.rows (.tail _ (.tail _ (.head _))))).mono ?_
     rintro e w7 ⟨AR, cR, rfl, hat, hcap, hb⟩
     have S7 := Lib.hid ((S6.out.step hb).addI (A := AR) (l := q) hat)
     have CPAR := Lib.hid hcap
     clear hb hat hcap
     have HW := Lib.hid (show q.filter (fun y => decide (y ≠ c) && !abvB l c y) = reachR d by rw [← HD.out, drop_reach HT.out HC0.out hy, HQ.out])
     clear hy
     obtain ⟨f, hf⟩ : ∃ f : Int → Bool, f = (fun y => decide (y ≠ c) && !abvB l c y) := ⟨_, rfl⟩
     rw [← hf] at HW
     have HF := Lib.hid hf
     clear hf
     go_wp2_with fail
     go_loopw [8, 10] (fun v i wr => ∃ k : Nat, i = .int .i64 (k : Int) ∧ k ≤ q.length ∧ wr.ownsRow w7.heap.size 3 1 v (stay f q k).length (ivs (stay f q k)) ∧ Below w7.heap.size w7 wr) (fun _ i _ => q.length - (Go.RowKit.intOf i).toNat)
     case atStart => exact ⟨0, rfl, Nat.zero_le _, ⟨rfl, .inl ⟨rfl, rfl⟩⟩, Below.refl _ _⟩
     case round =>
      obtain ⟨k, rfl, hk, hown, hbw⟩ := hrel
      have SR := Lib.hid (S7.out.step hbw)
      have HOWN := Lib.hid hown
      have HBW := Lib.hid hbw
      have hsl := stay_len f q k
      clear hown hbw
      by_cases hlt : k < q.length
      ·obtain ⟨y, hy⟩ := some_at hlt
       have hki : (0 : Int) ≤ (k : Int) := by omega
       have hkl : (k : Int) < (q.length : Int) := by omega
       obtain ⟨b0, o0, hAe, hb0, c0⟩ := (SR.out.ints (.head _)) k (.int .i64 y) (by unfold ivs; rw [List.getElem?_map, hy]; rfl)
       subst hAe
       have HY := Lib.hid hy
       clear hy
       by_cases hyc : y = c
       ·have hq2 : (y != c) = false := by simpa using hyc
        have hq3 : (y == c) = true := by simpa using hyc
        have HYC := Lib.hid hyc
        clear hyc
        have HOWN2 := HOWN
        have HBW2 := HBW
        clear HOWN HBW
        have hfy : f y = false := by rw [HF.out]; simp [HYC.out]
        have HFY := Lib.hid hfy
        clear hfy
        go_wp2_with fail
        go_roundw
        case rel =>
         refine ⟨k + 1, by go_num, by omega, ?_, HBW2.out⟩
         rw [stay_no HY.out HFY.out]; exact HOWN2.out
        case measure => simp only [Go.RowKit.intOf]; omega
       ·have hq2 : (y != c) = true := by simpa using hyc
        have hq3 : (y == c) = false := by simpa using hyc
        have HYC := Lib.hid hyc
        clear hyc
        cases hab : abv l c l.length y with
        | false =>
         go_wp2_with fail
         refine (above_v hab hl5 (SR.out.rows (.tail _ (.tail _ (.tail _ (.head _)))))).mono ?_
         rintro e w8 ⟨rfl, hb⟩
         have S8 := Lib.hid (SR.out.step hb)
         have HOWN2 := Lib.hid (below_ownI HOWN.out hb)
         have HBW2 := Lib.hid (HBW.out.trans (hb.mono HBW.out.size))
         have c1 := (hb.cell (p := ⟨b0, o0 + k, none⟩) hb0).trans c0
         clear HOWN HBW c0
         clear hb
         have hfy : f y = true := by rw [HF.out]; simp only; rw [abvB_eq, hab]; simp [HYC.out]
         have HFY := Lib.hid hfy
         clear hfy
         go_wp2_with (at_builtin; refine append_optI _ rfl _ _ rfl w7.heap.size _ _ _ (stay f q k) rfl (HOWN2.out.alloc (.cells #[.int .i64 y] 3)) (some ⟨w8.heap.size, 0, none⟩) 1 [y] 1 rfl rfl (fun h => by cases h) (Nat.le_refl _) (at_oneI w8 y) (by omega) (by have := HBW2.out.size; simp; omega) ?_; intro v' w8 hown' hgrow)
         go_roundw
         case rel =>
          refine ⟨k + 1, by go_num, by omega, ?_, ?_⟩
          ·rw [stay_yes HY.out HFY.out, List.length_append]; exact hown'
          ·exact (HBW2.out.alloc HBW2.out.size _).grown hgrow (by have := HBW2.out.size; simp; omega) fun j hj => (HOWN2.out.lt j hj).1
         case measure => simp only [Go.RowKit.intOf]; omega
        | true =>
         go_wp2_with fail
         refine (above_v hab hl5 (SR.out.rows (.tail _ (.tail _ (.tail _ (.head _)))))).mono ?_
         rintro e w8 ⟨rfl, hb⟩
         have S8 := Lib.hid (SR.out.step hb)
         have HOWN2 := Lib.hid (below_ownI HOWN.out hb)
         have HBW2 := Lib.hid (HBW.out.trans (hb.mono HBW.out.size))
         have c1 := (hb.cell (p := ⟨b0, o0 + k, none⟩) hb0).trans c0
         clear HOWN HBW c0
         clear hb
         have hfy : f y = false := by rw [HF.out]; simp only; rw [abvB_eq, hab]; simp
         have HFY := Lib.hid hfy
         clear hfy
         go_wp2_with fail
         go_roundw
         case rel =>
          refine ⟨k + 1, by go_num, by omega, ?_, HBW2.out⟩
          rw [stay_no HY.out HFY.out]; exact HOWN2.out
         case measure => simp only [Go.RowKit.intOf]; omega
      ·obtain rfl : k = q.length := by omega
       have hst := stay_all f q
       rw [HW.out] at hst
       obtain ⟨A9, c9, rfl, hat9, -, -⟩ := own_at HOWN.out
       rw [hst] at hat9
       obtain ⟨n9, hn9⟩ : ∃ n9, (stay f q q.length).length = n9 := ⟨_, rfl⟩
       have hn92 : n9 = (reachR d).length := by rw [← hn9, hst]
       rw [hn9]
       have hn9m : (reachR d).length ≤ maxLen := by have := reachR_le d; unfold maxLen; omega
       have HAT := Lib.hid hat9
       have HN9 := Lib.hid hn92
       have HBX := Lib.hid (show At wr wr.heap.size A9 (ivs (reachR d)) from hat9)
       clear hst hat9 hn9 hn92 HOWN hsl
       have SQ := Lib.hid (SR.out.addI (A := A9) (l := reachR d) HBX.out)
       clear SR HBX HAT
       go_wp2_with fail
       refine (find_v (v := .agg #[.int .i64 0, .int .i64 0, .string ⟨#[]⟩, .float .f64 0]) (x := false) (by rw [HDN.out]; rfl) (by rw [HDN.out]; rfl) hdm (SQ.out.rows (.tail _ (.tail _ (.tail _ (.head _)))))).mono ?_
       rintro e w8 ⟨rfl, hb⟩
       have S8 := Lib.hid (SQ.out.step hb)
       clear hb
       obtain ⟨w9, hw⟩ : ∃ w9, w9 = w8.alloc (.cells #[.int .i64 0, .int .i64 0, .string ⟨#[]⟩, .float .f64 0] 28) := ⟨_, rfl⟩
       have hb : Below w8.heap.size w8 w9 := by rw [hw]; exact (Below.refl _ _).alloc (Nat.le_refl _) _
       have S9 := Lib.hid ((S8.out.step hb).addB (g := w8.heap.size) (t := 28) (vs := [.int .i64 0, .int .i64 0, .string ⟨#[]⟩, .float .f64 0]) (by rw [hw]; exact is_new w8 28 _))
       have HW9 := Lib.hid hw
       clear hw hb
       go_wp2_with fail
       rw [← HW9.out]
       refine (reached_v (l := d) rfl HN9.out.symm hd1 HD6.out (S9.out.rows (.tail _ (.tail _ (.tail _ (.tail _ (.head _))))))).mono ?_
       rintro e w10 ⟨AE, cE, rfl, hat, hcap, hb⟩
       have S10 := Lib.hid ((S9.out.step hb).addI (A := AE) (l := reachR d) hat)
       have CPAE := Lib.hid hcap
       clear hb hat hcap
       have hsv : ∀ w : World, At w w.heap.size AE (ivs (reachR d)) → At w w.heap.size A9 (ivs (reachR d)) → Calls Tryz.prog 31 #[.slice AE n9 cE, .slice A9 n9 c9] w fun e w' => e = .returned (.bool true) ∧ Below w.heap.size w w' := fun w h1 h2 => by rw [HN9.out]; exact same5_v (by simp) hn9m hn9m h1 h2
       have HSV := Lib.hid hsv
       clear hsv
       go_wp2_with fail
       refine (HSV.out _ (S10.out.ints (.head _)) (S10.out.ints (.tail _ (.tail _ (.head _))))).mono ?_
       rintro e w11 ⟨rfl, hb⟩
       have S11 := Lib.hid (S10.out.step hb)
       clear hb
       go_wp2_with fail
       refine (live12_c _).mono ?_
       rintro e w12 ⟨rfl, hb⟩
       have S12 := Lib.hid (S11.out.step hb)
       clear hb
       go_wp2_with fail
       go_ret
       exact ⟨rfl, S12.out.bel⟩
end treeDrops
end Go.Proofs.YtkobmnbjeppnaaaGreat
