/-
  The walk of FloorMay.
  Of a replica that may be comes, in the program, one that may be: for all replicas, moves and times, without condition (beyond the statement's bounds it asks nothing but the document's examples).
-/
import Derived.Test.YthhckdjagnlgpaaGreatWu
import Derived.Test.YthhckdjagnlgpaaGreatVy
import Derived.ProofKit
import Derived.OpenShut
import Derived.ShutString
import Derived.ChangeOld
section
namespace Go.Proofs.YthhckdjagnlgpaaGreat
open Go.RowKit Go.IntWalk
open Gr
set_option maxRecDepth 100000
attribute [local go_sem] Oper.semAt_some
namespace floorMay
set_option maxHeartbeats 16000000 in
theorem walk (p : Pl) (r : Rp) (pl : RpPl p r) (hlen : r.B.length ≤ maxLen ∧ r.L.length ≤ maxLen ∧ r.V.length ≤ maxLen) (rb : Rows_ r.B) (rl : Moves_ r.L) (m : Mv) (hm : MvOk m) (c q : Int) (w : World) (ha : RpAt p r w) :
  Calls Tryz.prog 12 #[.agg #[.slice p.A1 r.B.length p.c1, .int .i64 r.fc, .int .i64 r.fr, .slice p.A2 r.L.length p.c2, .slice p.A3 r.V.length p.c3], .agg #[.int .i64 (mc m), .int .i64 (mr m), .int .i64 (pa (mw m)), .int .i64 (ch (mw m)), .string (ba (nm (mw m))), .float .f64 (rk (mw m))], .agg #[.int .i64 c, .int .i64 q]] w fun e w' => e = .returned (.bool true) ∧ Below w.heap.size w w' := by
 have S0 := Lib.hid ((Bed.start w).addP (p := p) (r := r) ha)
 obtain ⟨b0, hw⟩ : ∃ b0, b0 = w.alloc (.cells #[.slice p.A1 r.B.length p.c1, .int .i64 r.fc, .int .i64 r.fr, .slice p.A2 r.L.length p.c2, .slice p.A3 r.V.length p.c3] 55) := ⟨_, rfl⟩
 have hb : Below w.heap.size w b0 := by rw [hw]; exact (Below.refl _ _).alloc (Nat.le_refl _) _
 have hz0 : w.heap.size = w.heap.size := by rfl
 have S1 := Lib.hid ((S0.out.step hb).addB (g := w.heap.size) (t := 55) (vs := [.slice p.A1 r.B.length p.c1, .int .i64 r.fc, .int .i64 r.fr, .slice p.A2 r.L.length p.c2, .slice p.A3 r.V.length p.c3]) (by rw [hw, ← hz0]; exact is_new w 55 _))
 have HWb0 := Lib.hid hw
 clear hw hb
 obtain ⟨b1, hw⟩ : ∃ b1, b1 = b0.alloc (.cells #[.int .i64 (mc m), .int .i64 (mr m), .int .i64 (pa (mw m)), .int .i64 (ch (mw m)), .string (ba (nm (mw m))), .float .f64 (rk (mw m))] 57) := ⟨_, rfl⟩
 have hb : Below b0.heap.size b0 b1 := by rw [hw]; exact (Below.refl _ _).alloc (Nat.le_refl _) _
 have hz1 : b0.heap.size = w.heap.size + 1 := by rw [HWb0.out, World.size_alloc, hz0]
 have S2 := Lib.hid ((S1.out.step hb).addB (g := w.heap.size + 1) (t := 57) (vs := [.int .i64 (mc m), .int .i64 (mr m), .int .i64 (pa (mw m)), .int .i64 (ch (mw m)), .string (ba (nm (mw m))), .float .f64 (rk (mw m))]) (by rw [hw, ← hz1]; exact is_new b0 57 _))
 have HWb1 := Lib.hid hw
 clear hw hb
 obtain ⟨b2, hw⟩ : ∃ b2, b2 = b1.alloc (.cells #[.int .i64 c, .int .i64 q] 51) := ⟨_, rfl⟩
 have hb : Below b1.heap.size b1 b2 := by rw [hw]; exact (Below.refl _ _).alloc (Nat.le_refl _) _
 have hz2 : b1.heap.size = w.heap.size + 1 + 1 := by rw [HWb1.out, World.size_alloc, hz1]
 have S3 := Lib.hid ((S2.out.step hb).addB (g := w.heap.size + 1 + 1) (t := 51) (vs := [.int .i64 c, .int .i64 q]) (by rw [hw, ← hz2]; exact is_new b1 51 _))
 have HWb2 := Lib.hid hw
 clear hw hb
 clear hz0 hz1 hz2
 have PLr := Lib.hid pl
 have HLEN := Lib.hid hlen
 have HRB := Lib.hid rb
 have HRL := Lib.hid rl
 have HMM := Lib.hid hm
 clear pl hlen rb rl ha hm
 obtain ⟨f, hf⟩ : ∃ b, fewF r = b := ⟨_, rfl⟩
 have Hf := Lib.hid hf
 clear hf
 have hx := (S3.out.box (.tail _ (.tail _ (.head _))))
 rw [HWb2.out, HWb1.out, HWb0.out] at hx
 obtain ⟨⟨q0, q1, q2, q3, q4⟩, -⟩ := cells5 hx
 clear hx
 have hx := (S3.out.box (.tail _ (.head _)))
 rw [HWb2.out, HWb1.out, HWb0.out] at hx
 obtain ⟨y1_0, y1_1, y1_2, y1_3, y1_4, y1_5⟩ := box6 hx
 clear hx
 go_enter Tryz.func12, Tryz.ntmps12
 go_wp2_with fail
 rw [← HWb0.out, ← HWb1.out, ← HWb2.out]
 refine (rffew_v Hf.out HLEN.out (S3.out.rep (.tail _ (.tail _ (.tail _ (.head _)))))).mono ?_
 rintro e w4 ⟨rfl, hb⟩
 have S4 := Lib.hid (S3.out.step hb)
 clear q0 q1 q2 q3 q4 y1_0 y1_1 y1_2 y1_3 y1_4 y1_5
 clear hb
 cases f with
 | false =>
  go_wp2_with fail
  refine (live18_c _).mono ?_
  rintro e w5 ⟨rfl, hb⟩
  have S5 := Lib.hid (S4.out.step hb)
  clear hb
  go_wp2_with fail
  go_ret
  exact ⟨rfl, S5.out.bel⟩
 | true =>
 have HSZ := Lib.hid (sz_few Hf.out HRB.out HRL.out)
 obtain ⟨g, hg⟩ : ∃ b, mayF r = b := ⟨_, rfl⟩
 have Hg := Lib.hid hg
 clear hg
 by_cases hlong : 100 < (nm (mw m)).length
 case pos =>
  have hlo1 : decide (100 < (nm (mw m)).length) = true := decide_eq_true hlong
  have hlo2 : (100 : Int) < ((nm (mw m)).length : Int) := by omega
  have hlo3 : decide ((100 : Int) < ((ba (nm (mw m))).size : Int)) = true := decide_eq_true (by rw [ba_size]; omega)
  have hx := (S4.out.box (.tail _ (.head _)))
  obtain ⟨y2_0, y2_1, y2_2, y2_3, y2_4, y2_5⟩ := box6 hx
  clear hx
  go_wp2_with fail
  refine (live18_c _).mono ?_
  rintro e w5 ⟨rfl, hb⟩
  have S5 := Lib.hid (S4.out.step hb)
  clear y2_0 y2_1 y2_2 y2_3 y2_4 y2_5
  clear hb
  go_wp2_with fail
  go_ret
  exact ⟨rfl, S5.out.bel⟩
 have hlo1 : decide (100 < (nm (mw m)).length) = false := decide_eq_false hlong
 have hlo2 : ¬ (100 : Int) < ((nm (mw m)).length : Int) := by omega
 have hlo3 : decide ((100 : Int) < ((ba (nm (mw m))).size : Int)) = false := decide_eq_false (by rw [ba_size]; omega)
 have hx := (S4.out.box (.tail _ (.tail _ (.head _))))
 obtain ⟨⟨y3_0, y3_1, y3_2, y3_3, y3_4⟩, -⟩ := cells5 hx
 clear hx
 have hx := (S4.out.box (.tail _ (.head _)))
 obtain ⟨y4_0, y4_1, y4_2, y4_3, y4_4, y4_5⟩ := box6 hx
 clear hx
 go_wp2_with fail
 refine (rfmay_v Hg.out (HSZ.out.ok (by omega)) (S4.out.rep (.tail _ (.tail _ (.tail _ (.head _)))))).mono ?_
 rintro e w5 ⟨rfl, hb⟩
 have S5 := Lib.hid (S4.out.step hb)
 clear y3_0 y3_1 y3_2 y3_3 y3_4 y4_0 y4_1 y4_2 y4_3 y4_4 y4_5
 clear hb
 cases g with
 | false =>
  go_wp2_with fail
  refine (live18_c _).mono ?_
  rintro e w6 ⟨rfl, hb⟩
  have S6 := Lib.hid (S5.out.step hb)
  clear hb
  go_wp2_with fail
  go_ret
  exact ⟨rfl, S6.out.bel⟩
 | true =>
 have HMR := Lib.hid (mayR_iff.1 Hg.out)
 obtain ⟨o, ho⟩ : ∃ o, addF r m = o := ⟨_, rfl⟩
 obtain ⟨a, b, x⟩ := o
 obtain ⟨o, ho2⟩ : ∃ o, pruneF a c q = o := ⟨_, rfl⟩
 obtain ⟨s, y⟩ := o
 have HA := Lib.hid ho
 have HB := Lib.hid ho2
 have HSA := Lib.hid (show Sz a 121 by have := sz_add HSZ.out HMM.out; rw [ho] at this; exact this)
 have HSB := Lib.hid (show Sz s 121 by have := sz_prune HSA.out c q; rw [ho2] at this; exact this)
 have HF := Lib.hid (may_facts HMR.out (by have := HSZ.out.s; omega) ho ho2)
 have HMA := Lib.hid (mayR_iff.2 HF.out.1)
 have HMS := Lib.hid (mayR_iff.2 HF.out.2.1)
 clear ho ho2
 have hx := (S5.out.box (.tail _ (.tail _ (.head _))))
 obtain ⟨⟨y5_0, y5_1, y5_2, y5_3, y5_4⟩, -⟩ := cells5 hx
 clear hx
 have hx := (S5.out.box (.tail _ (.head _)))
 obtain ⟨y6_0, y6_1, y6_2, y6_3, y6_4, y6_5⟩ := box6 hx
 clear hx
 go_wp2_with fail
 refine (fAdd_v (r2 := a) HA.out (HSZ.out.ok (by omega)) PLr.out HMM.out (S5.out.rep (.tail _ (.tail _ (.tail _ (.head _)))))).mono ?_
 rintro e w6 ⟨p2, rfl, hg, hb⟩
 have S6 := Lib.hid ((S5.out.step hb).addP (p := p2) (r := a) hg.at_)
 have PLa := Lib.hid hg.pl
 clear y5_0 y5_1 y5_2 y5_3 y5_4 y6_0 y6_1 y6_2 y6_3 y6_4 y6_5
 clear hb hg
 obtain ⟨w7, hw⟩ : ∃ w7, w7 = w6.alloc (.cells #[.slice p2.A1 a.B.length p2.c1, .int .i64 a.fc, .int .i64 a.fr, .slice p2.A2 a.L.length p2.c2, .slice p2.A3 a.V.length p2.c3] 55) := ⟨_, rfl⟩
 have hb : Below w6.heap.size w6 w7 := by rw [hw]; exact (Below.refl _ _).alloc (Nat.le_refl _) _
 have S7 := Lib.hid ((S6.out.step hb).addB (g := w6.heap.size) (t := 55) (vs := [.slice p2.A1 a.B.length p2.c1, .int .i64 a.fc, .int .i64 a.fr, .slice p2.A2 a.L.length p2.c2, .slice p2.A3 a.V.length p2.c3]) (by rw [hw]; exact is_new w6 55 _))
 have HW7 := Lib.hid hw
 clear hw hb
 have hx := (S7.out.box (.head _))
 rw [HW7.out] at hx
 obtain ⟨⟨y7_0, y7_1, y7_2, y7_3, y7_4⟩, -⟩ := cells5 hx
 clear hx
 have hx := (S7.out.box (.tail _ (.tail _ (.head _))))
 rw [HW7.out] at hx
 obtain ⟨y8_0, y8_1⟩ := box2 hx
 clear hx
 go_wp2_with fail
 rw [← HW7.out]
 refine (fPrune_v (r2 := s) HB.out (HSA.out.ok (by omega)) PLa.out (S7.out.rep (.tail _ (.head _)))).mono ?_
 rintro e w8 ⟨p3, rfl, hg, hb⟩
 have S8 := Lib.hid ((S7.out.step hb).addP (p := p3) (r := s) hg.at_)
 have PLs := Lib.hid hg.pl
 clear y7_0 y7_1 y7_2 y7_3 y7_4 y8_0 y8_1
 clear hb hg
 obtain ⟨w9, hw⟩ : ∃ w9, w9 = w8.alloc (.cells #[.slice p3.A1 s.B.length p3.c1, .int .i64 s.fc, .int .i64 s.fr, .slice p3.A2 s.L.length p3.c2, .slice p3.A3 s.V.length p3.c3] 55) := ⟨_, rfl⟩
 have hb : Below w8.heap.size w8 w9 := by rw [hw]; exact (Below.refl _ _).alloc (Nat.le_refl _) _
 have S9 := Lib.hid ((S8.out.step hb).addB (g := w8.heap.size) (t := 55) (vs := [.slice p3.A1 s.B.length p3.c1, .int .i64 s.fc, .int .i64 s.fr, .slice p3.A2 s.L.length p3.c2, .slice p3.A3 s.V.length p3.c3]) (by rw [hw]; exact is_new w8 55 _))
 have HW9 := Lib.hid hw
 clear hw hb
 have hx := (S9.out.box (.tail _ (.tail _ (.head _))))
 rw [HW9.out] at hx
 obtain ⟨⟨y9_0, y9_1, y9_2, y9_3, y9_4⟩, -⟩ := cells5 hx
 clear hx
 go_wp2_with fail
 rw [← HW9.out]
 refine (fmay_v HMA.out (HSA.out.ok (by omega)) (S9.out.rep (.tail _ (.tail _ (.tail _ (.head _)))))).mono ?_
 rintro e w10 ⟨rfl, hb⟩
 have S10 := Lib.hid (S9.out.step hb)
 clear y9_0 y9_1 y9_2 y9_3 y9_4
 clear hb
 have hx := (S10.out.box (.head _))
 obtain ⟨⟨y10_0, y10_1, y10_2, y10_3, y10_4⟩, -⟩ := cells5 hx
 clear hx
 go_wp2_with fail
 refine (fmay_v HMS.out (HSB.out.ok (by omega)) (S10.out.rep (.tail _ (.head _)))).mono ?_
 rintro e w11 ⟨rfl, hb⟩
 have S11 := Lib.hid (S10.out.step hb)
 clear y10_0 y10_1 y10_2 y10_3 y10_4
 clear hb
 obtain ⟨-, -, hx, hy, hk, hbf⟩ := HF.out
 have HK := Lib.hid hk
 have HBF := Lib.hid hbf
 clear hk hbf HF
 rcases hx with ⟨rfl, h1, h2, h3, h4⟩ | ⟨rfl, rfl, ha, h1⟩ | ⟨rfl, rfl, ha, h1, h2⟩
 ·
  have H1 := Lib.hid h1
  have H2 := Lib.hid h2
  have HLr := Lib.hid (show r.V.length ≤ 100000 by have := HSZ.out.v; omega)
  have HLs := Lib.hid (show s.V.length ≤ 100000 by have := HSB.out.v; omega)
  have HKL := Lib.hid (show a.V.length ≤ maxLen by have := HSA.out.v; unfold maxLen; omega)
  obtain ⟨gk, hgk0⟩ : ∃ v, getK a.V (mr m) = v := ⟨_, rfl⟩
  rw [hgk0] at h3
  have HGK := Lib.hid hgk0
  clear hgk0
  have hgk : ¬ gk < mc m := by omega
  have hgk2 : decide (gk < mc m) = false := decide_eq_false hgk
  have hll : ¬ a.L.length < r.L.length := by omega
  have hll2 : decide (a.L.length < r.L.length) = false := decide_eq_false hll
  have hll3 : decide ((a.L.length : Int) < (r.L.length : Int)) = false := decide_eq_false (by omega)
  clear h1 h2
  rcases hy with rfl | ⟨rfl, hs⟩
  ·
   have hx := (S11.out.box (.tail _ (.tail _ (.tail _ (.tail _ (.tail _ (.head _)))))))
   obtain ⟨y11_0, y11_1, y11_2, y11_3, y11_4, y11_5⟩ := box6 hx
   clear hx
   go_wp2_with fail
   refine (rmone_k H1.out HMM.out.2 _).mono ?_
   rintro e w12 ⟨rfl, hb⟩
   have S12 := Lib.hid (S11.out.step hb)
   clear y11_0 y11_1 y11_2 y11_3 y11_4 y11_5
   clear hb
   have hx := (S12.out.box (.tail _ (.tail _ (.tail _ (.tail _ (.tail _ (.tail _ (.head _))))))))
   obtain ⟨⟨y12_0, y12_1, y12_2, y12_3, y12_4⟩, -⟩ := cells5 hx
   clear hx
   have hx := (S12.out.box (.tail _ (.tail _ (.tail _ (.tail _ (.tail _ (.head _)))))))
   obtain ⟨y13_0, y13_1, y13_2, y13_3, y13_4, y13_5⟩ := box6 hx
   clear hx
   go_wp2_with fail
   refine (rbef_k H2.out _).mono ?_
   rintro e w13 ⟨rfl, hb⟩
   have S13 := Lib.hid (S12.out.step hb)
   clear y12_0 y12_1 y12_2 y12_3 y12_4 y13_0 y13_1 y13_2 y13_3 y13_4 y13_5
   clear hb
   have hx := (S13.out.box (.tail _ (.tail _ (.head _))))
   obtain ⟨⟨y14_0, y14_1, y14_2, y14_3, y14_4⟩, -⟩ := cells5 hx
   clear hx
   have hx := (S13.out.box (.tail _ (.tail _ (.tail _ (.tail _ (.tail _ (.head _)))))))
   obtain ⟨y15_0, y15_1, y15_2, y15_3, y15_4, y15_5⟩ := box6 hx
   clear hx
   have hx := (S13.out.box (.tail _ (.tail _ (.tail _ (.tail _ (.tail _ (.tail _ (.head _))))))))
   obtain ⟨⟨y16_0, y16_1, y16_2, y16_3, y16_4⟩, -⟩ := cells5 hx
   clear hx
   go_wp2_with fail
   have HAV := Lib.hid (S13.out.rep (.tail _ (.tail _ (.tail _ (.head _)))))
   refine quiet_held (fun w' => Below w13.heap.size w13 w') (by kernel_rfl) (by kernel_rfl) (Below.refl _ _).drew ?_
   repeat (first
    | go_big_quiet_skip
    | (go_big_quiet_want; go_big_quiet_op; go_big_quiet_on)
    | (go_big_quiet_want; apply Exists.intro; refine ⟨fun wq hq => ?_, ?_⟩; (focus (have ry14_0 := keep_cell hq y14_0; have ry14_1 := keep_cell hq y14_1; have ry14_2 := keep_cell hq y14_2; have ry14_3 := keep_cell hq y14_3; have ry14_4 := keep_cell hq y14_4; have ry15_0 := keep_cell hq y15_0; have ry15_1 := keep_cell hq y15_1; have ry15_2 := keep_cell hq y15_2; have ry15_3 := keep_cell hq y15_3; have ry15_4 := keep_cell hq y15_4; have ry15_5 := keep_cell hq y15_5; have ry16_0 := keep_cell hq y16_0; have ry16_1 := keep_cell hq y16_1; have ry16_2 := keep_cell hq y16_2; have ry16_3 := keep_cell hq y16_3; have ry16_4 := keep_cell hq y16_4; unfold Oper.quietAt; go_simp; all_goals (first | rfl | exact ⟨rfl, rfl⟩ | (with_reducible refine (kget_k HGK.out HKL.out wq (HAV.out.keep hq).v).mono ?_; rintro e w5 ⟨rfl, hbn⟩; exact ⟨rfl, hq.trans (hbn.mono hq.size)⟩)))); simp only [Act.put, List.setIfInBounds_toArray, List.set_cons_zero, List.set_cons_succ]; go_big_quiet_on))
   refine wpQuiet_nil ?_
   intro w14 hb
   have S14 := Lib.hid (S13.out.step hb)
   clear y14_0 y14_1 y14_2 y14_3 y14_4 y15_0 y15_1 y15_2 y15_3 y15_4 y15_5 y16_0 y16_1 y16_2 y16_3 y16_4
   clear hb
   have hx := (S14.out.box (.tail _ (.tail _ (.tail _ (.tail _ (.tail _ (.tail _ (.head _))))))))
   obtain ⟨⟨y17_0, y17_1, y17_2, y17_3, y17_4⟩, -⟩ := cells5 hx
   clear hx
   have hx := (S14.out.box (.head _))
   obtain ⟨⟨y18_0, y18_1, y18_2, y18_3, y18_4⟩, -⟩ := cells5 hx
   clear hx
   go_wp2_with fail
   refine (kbelow_k HK.out HLr.out HLs.out (S14.out.rep (.tail _ (.tail _ (.tail _ (.tail _ (.tail _ (.tail _ (.tail _ (.head _))))))))).v (S14.out.rep (.tail _ (.head _))).v).mono ?_
   rintro e w15 ⟨rfl, hb⟩
   have S15 := Lib.hid (S14.out.step hb)
   clear y17_0 y17_1 y17_2 y17_3 y17_4 y18_0 y18_1 y18_2 y18_3 y18_4
   clear hb
   have hx := (S15.out.box (.tail _ (.tail _ (.tail _ (.tail _ (.tail _ (.tail _ (.head _))))))))
   obtain ⟨⟨y19_0, y19_1, y19_2, y19_3, y19_4⟩, -⟩ := cells5 hx
   clear hx
   have hx := (S15.out.box (.head _))
   obtain ⟨⟨y20_0, y20_1, y20_2, y20_3, y20_4⟩, -⟩ := cells5 hx
   clear hx
   go_wp2_with fail
   refine (rbef_k HBF.out _).mono ?_
   rintro e w16 ⟨rfl, hb⟩
   have S16 := Lib.hid (S15.out.step hb)
   clear y19_0 y19_1 y19_2 y19_3 y19_4 y20_0 y20_1 y20_2 y20_3 y20_4
   clear hb
   go_wp2_with fail
   refine (live18_c _).mono ?_
   rintro e w17 ⟨rfl, hb⟩
   have S17 := Lib.hid (S16.out.step hb)
   clear hb
   go_wp2_with fail
   go_ret
   exact ⟨rfl, S17.out.bel⟩
  ·
   have HSR := Lib.hid hs
   clear hs
   have hx := (S11.out.box (.head _))
   obtain ⟨⟨y21_0, y21_1, y21_2, y21_3, y21_4⟩, -⟩ := cells5 hx
   clear hx
   have hx := (S11.out.box (.tail _ (.tail _ (.head _))))
   obtain ⟨⟨y22_0, y22_1, y22_2, y22_3, y22_4⟩, -⟩ := cells5 hx
   clear hx
   go_wp2_with fail
   refine (rfsame_v (r1 := s) (r2 := a) (b := true) (by rw [HSR.out]; exact sameF_refl _) (HSB.out.ok (by omega)) (HSA.out.ok (by omega)) (S11.out.rep (.tail _ (.head _))) (S11.out.rep (.tail _ (.tail _ (.tail _ (.head _)))))).mono ?_
   rintro e w12 ⟨rfl, hb⟩
   have S12 := Lib.hid (S11.out.step hb)
   clear y21_0 y21_1 y21_2 y21_3 y21_4 y22_0 y22_1 y22_2 y22_3 y22_4
   clear hb
   have hx := (S12.out.box (.tail _ (.tail _ (.tail _ (.tail _ (.tail _ (.head _)))))))
   obtain ⟨y23_0, y23_1, y23_2, y23_3, y23_4, y23_5⟩ := box6 hx
   clear hx
   go_wp2_with fail
   refine (rmone_k H1.out HMM.out.2 _).mono ?_
   rintro e w13 ⟨rfl, hb⟩
   have S13 := Lib.hid (S12.out.step hb)
   clear y23_0 y23_1 y23_2 y23_3 y23_4 y23_5
   clear hb
   have hx := (S13.out.box (.tail _ (.tail _ (.tail _ (.tail _ (.tail _ (.tail _ (.head _))))))))
   obtain ⟨⟨y24_0, y24_1, y24_2, y24_3, y24_4⟩, -⟩ := cells5 hx
   clear hx
   have hx := (S13.out.box (.tail _ (.tail _ (.tail _ (.tail _ (.tail _ (.head _)))))))
   obtain ⟨y25_0, y25_1, y25_2, y25_3, y25_4, y25_5⟩ := box6 hx
   clear hx
   go_wp2_with fail
   refine (rbef_k H2.out _).mono ?_
   rintro e w14 ⟨rfl, hb⟩
   have S14 := Lib.hid (S13.out.step hb)
   clear y24_0 y24_1 y24_2 y24_3 y24_4 y25_0 y25_1 y25_2 y25_3 y25_4 y25_5
   clear hb
   have hx := (S14.out.box (.tail _ (.tail _ (.head _))))
   obtain ⟨⟨y26_0, y26_1, y26_2, y26_3, y26_4⟩, -⟩ := cells5 hx
   clear hx
   have hx := (S14.out.box (.tail _ (.tail _ (.tail _ (.tail _ (.tail _ (.head _)))))))
   obtain ⟨y27_0, y27_1, y27_2, y27_3, y27_4, y27_5⟩ := box6 hx
   clear hx
   have hx := (S14.out.box (.tail _ (.tail _ (.tail _ (.tail _ (.tail _ (.tail _ (.head _))))))))
   obtain ⟨⟨y28_0, y28_1, y28_2, y28_3, y28_4⟩, -⟩ := cells5 hx
   clear hx
   go_wp2_with fail
   have HAV := Lib.hid (S14.out.rep (.tail _ (.tail _ (.tail _ (.head _)))))
   refine quiet_held (fun w' => Below w14.heap.size w14 w') (by kernel_rfl) (by kernel_rfl) (Below.refl _ _).drew ?_
   repeat (first
    | go_big_quiet_skip
    | (go_big_quiet_want; go_big_quiet_op; go_big_quiet_on)
    | (go_big_quiet_want; apply Exists.intro; refine ⟨fun wq hq => ?_, ?_⟩; (focus (have ry26_0 := keep_cell hq y26_0; have ry26_1 := keep_cell hq y26_1; have ry26_2 := keep_cell hq y26_2; have ry26_3 := keep_cell hq y26_3; have ry26_4 := keep_cell hq y26_4; have ry27_0 := keep_cell hq y27_0; have ry27_1 := keep_cell hq y27_1; have ry27_2 := keep_cell hq y27_2; have ry27_3 := keep_cell hq y27_3; have ry27_4 := keep_cell hq y27_4; have ry27_5 := keep_cell hq y27_5; have ry28_0 := keep_cell hq y28_0; have ry28_1 := keep_cell hq y28_1; have ry28_2 := keep_cell hq y28_2; have ry28_3 := keep_cell hq y28_3; have ry28_4 := keep_cell hq y28_4; unfold Oper.quietAt; go_simp; all_goals (first | rfl | exact ⟨rfl, rfl⟩ | (with_reducible refine (kget_k HGK.out HKL.out wq (HAV.out.keep hq).v).mono ?_; rintro e w5 ⟨rfl, hbn⟩; exact ⟨rfl, hq.trans (hbn.mono hq.size)⟩)))); simp only [Act.put, List.setIfInBounds_toArray, List.set_cons_zero, List.set_cons_succ]; go_big_quiet_on))
   refine wpQuiet_nil ?_
   intro w15 hb
   have S15 := Lib.hid (S14.out.step hb)
   clear y26_0 y26_1 y26_2 y26_3 y26_4 y27_0 y27_1 y27_2 y27_3 y27_4 y27_5 y28_0 y28_1 y28_2 y28_3 y28_4
   clear hb
   have hx := (S15.out.box (.tail _ (.tail _ (.tail _ (.tail _ (.tail _ (.tail _ (.head _))))))))
   obtain ⟨⟨y29_0, y29_1, y29_2, y29_3, y29_4⟩, -⟩ := cells5 hx
   clear hx
   have hx := (S15.out.box (.head _))
   obtain ⟨⟨y30_0, y30_1, y30_2, y30_3, y30_4⟩, -⟩ := cells5 hx
   clear hx
   go_wp2_with fail
   refine (kbelow_k HK.out HLr.out HLs.out (S15.out.rep (.tail _ (.tail _ (.tail _ (.tail _ (.tail _ (.tail _ (.tail _ (.head _))))))))).v (S15.out.rep (.tail _ (.head _))).v).mono ?_
   rintro e w16 ⟨rfl, hb⟩
   have S16 := Lib.hid (S15.out.step hb)
   clear y29_0 y29_1 y29_2 y29_3 y29_4 y30_0 y30_1 y30_2 y30_3 y30_4
   clear hb
   have hx := (S16.out.box (.tail _ (.tail _ (.tail _ (.tail _ (.tail _ (.tail _ (.head _))))))))
   obtain ⟨⟨y31_0, y31_1, y31_2, y31_3, y31_4⟩, -⟩ := cells5 hx
   clear hx
   have hx := (S16.out.box (.head _))
   obtain ⟨⟨y32_0, y32_1, y32_2, y32_3, y32_4⟩, -⟩ := cells5 hx
   clear hx
   go_wp2_with fail
   refine (rbef_k HBF.out _).mono ?_
   rintro e w17 ⟨rfl, hb⟩
   have S17 := Lib.hid (S16.out.step hb)
   clear y31_0 y31_1 y31_2 y31_3 y31_4 y32_0 y32_1 y32_2 y32_3 y32_4
   clear hb
   go_wp2_with fail
   refine (live18_c _).mono ?_
   rintro e w18 ⟨rfl, hb⟩
   have S18 := Lib.hid (S17.out.step hb)
   clear hb
   go_wp2_with fail
   go_ret
   exact ⟨rfl, S18.out.bel⟩
 ·
  have H1 := Lib.hid h1
  have HAR := Lib.hid ha
  clear h1 ha
  have HLr := Lib.hid (show r.V.length ≤ 100000 by have := HSZ.out.v; omega)
  have HLs := Lib.hid (show s.V.length ≤ 100000 by have := HSB.out.v; omega)
  have HKL := Lib.hid (show a.V.length ≤ maxLen by have := HSA.out.v; unfold maxLen; omega)
  have hx := (S11.out.box (.tail _ (.tail _ (.head _))))
  obtain ⟨⟨y33_0, y33_1, y33_2, y33_3, y33_4⟩, -⟩ := cells5 hx
  clear hx
  have hx := (S11.out.box (.tail _ (.tail _ (.tail _ (.tail _ (.tail _ (.tail _ (.head _))))))))
  obtain ⟨⟨y34_0, y34_1, y34_2, y34_3, y34_4⟩, -⟩ := cells5 hx
  clear hx
  go_wp2_with fail
  refine (rfsame_v (r1 := a) (r2 := r) (b := true) (by rw [HAR.out]; exact sameF_refl _) (HSA.out.ok (by omega)) (HSZ.out.ok (by omega)) (S11.out.rep (.tail _ (.tail _ (.tail _ (.head _))))) (S11.out.rep (.tail _ (.tail _ (.tail _ (.tail _ (.tail _ (.tail _ (.tail _ (.head _)))))))))).mono ?_
  rintro e w12 ⟨rfl, hb⟩
  have S12 := Lib.hid (S11.out.step hb)
  clear y33_0 y33_1 y33_2 y33_3 y33_4 y34_0 y34_1 y34_2 y34_3 y34_4
  clear hb
  rcases hy with rfl | ⟨rfl, hs⟩
  ·
   have hx := (S12.out.box (.tail _ (.tail _ (.tail _ (.tail _ (.tail _ (.head _)))))))
   obtain ⟨y35_0, y35_1, y35_2, y35_3, y35_4, y35_5⟩ := box6 hx
   clear hx
   go_wp2_with fail
   refine (rmone_k H1.out HMM.out.2 _).mono ?_
   rintro e w13 ⟨rfl, hb⟩
   have S13 := Lib.hid (S12.out.step hb)
   clear y35_0 y35_1 y35_2 y35_3 y35_4 y35_5
   clear hb
   go_wp2_with fail
   refine quiet_held (fun w' => Below w13.heap.size w13 w') (by kernel_rfl) (by kernel_rfl) (Below.refl _ _).drew ?_
   repeat (first
    | go_big_quiet_skip
    | (go_big_quiet_want; go_big_quiet_op; go_big_quiet_on)
    | (go_big_quiet_want; apply Exists.intro; refine ⟨fun wq hq => ?_, ?_⟩; (focus (skip; unfold Oper.quietAt; go_simp; all_goals (first | rfl | exact ⟨rfl, rfl⟩ | rfl))); simp only [Act.put, List.setIfInBounds_toArray, List.set_cons_zero, List.set_cons_succ]; go_big_quiet_on))
   refine wpQuiet_nil ?_
   intro w14 hb
   have S14 := Lib.hid (S13.out.step hb)
   clear hb
   have hx := (S14.out.box (.tail _ (.tail _ (.tail _ (.tail _ (.tail _ (.tail _ (.head _))))))))
   obtain ⟨⟨y36_0, y36_1, y36_2, y36_3, y36_4⟩, -⟩ := cells5 hx
   clear hx
   have hx := (S14.out.box (.head _))
   obtain ⟨⟨y37_0, y37_1, y37_2, y37_3, y37_4⟩, -⟩ := cells5 hx
   clear hx
   go_wp2_with fail
   refine (kbelow_k HK.out HLr.out HLs.out (S14.out.rep (.tail _ (.tail _ (.tail _ (.tail _ (.tail _ (.tail _ (.tail _ (.head _))))))))).v (S14.out.rep (.tail _ (.head _))).v).mono ?_
   rintro e w15 ⟨rfl, hb⟩
   have S15 := Lib.hid (S14.out.step hb)
   clear y36_0 y36_1 y36_2 y36_3 y36_4 y37_0 y37_1 y37_2 y37_3 y37_4
   clear hb
   have hx := (S15.out.box (.tail _ (.tail _ (.tail _ (.tail _ (.tail _ (.tail _ (.head _))))))))
   obtain ⟨⟨y38_0, y38_1, y38_2, y38_3, y38_4⟩, -⟩ := cells5 hx
   clear hx
   have hx := (S15.out.box (.head _))
   obtain ⟨⟨y39_0, y39_1, y39_2, y39_3, y39_4⟩, -⟩ := cells5 hx
   clear hx
   go_wp2_with fail
   refine (rbef_k HBF.out _).mono ?_
   rintro e w16 ⟨rfl, hb⟩
   have S16 := Lib.hid (S15.out.step hb)
   clear y38_0 y38_1 y38_2 y38_3 y38_4 y39_0 y39_1 y39_2 y39_3 y39_4
   clear hb
   go_wp2_with fail
   refine (live18_c _).mono ?_
   rintro e w17 ⟨rfl, hb⟩
   have S17 := Lib.hid (S16.out.step hb)
   clear hb
   go_wp2_with fail
   go_ret
   exact ⟨rfl, S17.out.bel⟩
  ·
   have HSR := Lib.hid hs
   clear hs
   have hx := (S12.out.box (.head _))
   obtain ⟨⟨y40_0, y40_1, y40_2, y40_3, y40_4⟩, -⟩ := cells5 hx
   clear hx
   have hx := (S12.out.box (.tail _ (.tail _ (.head _))))
   obtain ⟨⟨y41_0, y41_1, y41_2, y41_3, y41_4⟩, -⟩ := cells5 hx
   clear hx
   go_wp2_with fail
   refine (rfsame_v (r1 := s) (r2 := a) (b := true) (by rw [HSR.out]; exact sameF_refl _) (HSB.out.ok (by omega)) (HSA.out.ok (by omega)) (S12.out.rep (.tail _ (.head _))) (S12.out.rep (.tail _ (.tail _ (.tail _ (.head _)))))).mono ?_
   rintro e w13 ⟨rfl, hb⟩
   have S13 := Lib.hid (S12.out.step hb)
   clear y40_0 y40_1 y40_2 y40_3 y40_4 y41_0 y41_1 y41_2 y41_3 y41_4
   clear hb
   have hx := (S13.out.box (.tail _ (.tail _ (.tail _ (.tail _ (.tail _ (.head _)))))))
   obtain ⟨y42_0, y42_1, y42_2, y42_3, y42_4, y42_5⟩ := box6 hx
   clear hx
   go_wp2_with fail
   refine (rmone_k H1.out HMM.out.2 _).mono ?_
   rintro e w14 ⟨rfl, hb⟩
   have S14 := Lib.hid (S13.out.step hb)
   clear y42_0 y42_1 y42_2 y42_3 y42_4 y42_5
   clear hb
   go_wp2_with fail
   refine quiet_held (fun w' => Below w14.heap.size w14 w') (by kernel_rfl) (by kernel_rfl) (Below.refl _ _).drew ?_
   repeat (first
    | go_big_quiet_skip
    | (go_big_quiet_want; go_big_quiet_op; go_big_quiet_on)
    | (go_big_quiet_want; apply Exists.intro; refine ⟨fun wq hq => ?_, ?_⟩; (focus (skip; unfold Oper.quietAt; go_simp; all_goals (first | rfl | exact ⟨rfl, rfl⟩ | rfl))); simp only [Act.put, List.setIfInBounds_toArray, List.set_cons_zero, List.set_cons_succ]; go_big_quiet_on))
   refine wpQuiet_nil ?_
   intro w15 hb
   have S15 := Lib.hid (S14.out.step hb)
   clear hb
   have hx := (S15.out.box (.tail _ (.tail _ (.tail _ (.tail _ (.tail _ (.tail _ (.head _))))))))
   obtain ⟨⟨y43_0, y43_1, y43_2, y43_3, y43_4⟩, -⟩ := cells5 hx
   clear hx
   have hx := (S15.out.box (.head _))
   obtain ⟨⟨y44_0, y44_1, y44_2, y44_3, y44_4⟩, -⟩ := cells5 hx
   clear hx
   go_wp2_with fail
   refine (kbelow_k HK.out HLr.out HLs.out (S15.out.rep (.tail _ (.tail _ (.tail _ (.tail _ (.tail _ (.tail _ (.tail _ (.head _))))))))).v (S15.out.rep (.tail _ (.head _))).v).mono ?_
   rintro e w16 ⟨rfl, hb⟩
   have S16 := Lib.hid (S15.out.step hb)
   clear y43_0 y43_1 y43_2 y43_3 y43_4 y44_0 y44_1 y44_2 y44_3 y44_4
   clear hb
   have hx := (S16.out.box (.tail _ (.tail _ (.tail _ (.tail _ (.tail _ (.tail _ (.head _))))))))
   obtain ⟨⟨y45_0, y45_1, y45_2, y45_3, y45_4⟩, -⟩ := cells5 hx
   clear hx
   have hx := (S16.out.box (.head _))
   obtain ⟨⟨y46_0, y46_1, y46_2, y46_3, y46_4⟩, -⟩ := cells5 hx
   clear hx
   go_wp2_with fail
   refine (rbef_k HBF.out _).mono ?_
   rintro e w17 ⟨rfl, hb⟩
   have S17 := Lib.hid (S16.out.step hb)
   clear y45_0 y45_1 y45_2 y45_3 y45_4 y46_0 y46_1 y46_2 y46_3 y46_4
   clear hb
   go_wp2_with fail
   refine (live18_c _).mono ?_
   rintro e w18 ⟨rfl, hb⟩
   have S18 := Lib.hid (S17.out.step hb)
   clear hb
   go_wp2_with fail
   go_ret
   exact ⟨rfl, S18.out.bel⟩
 ·
  have H1 := Lib.hid h1
  have H2 := Lib.hid h2
  have HAR := Lib.hid ha
  clear h1 h2 ha
  have HLr := Lib.hid (show r.V.length ≤ 100000 by have := HSZ.out.v; omega)
  have HLs := Lib.hid (show s.V.length ≤ 100000 by have := HSB.out.v; omega)
  have HKL := Lib.hid (show a.V.length ≤ maxLen by have := HSA.out.v; unfold maxLen; omega)
  have hx := (S11.out.box (.tail _ (.tail _ (.head _))))
  obtain ⟨⟨y47_0, y47_1, y47_2, y47_3, y47_4⟩, -⟩ := cells5 hx
  clear hx
  have hx := (S11.out.box (.tail _ (.tail _ (.tail _ (.tail _ (.tail _ (.tail _ (.head _))))))))
  obtain ⟨⟨y48_0, y48_1, y48_2, y48_3, y48_4⟩, -⟩ := cells5 hx
  clear hx
  go_wp2_with fail
  refine (rfsame_v (r1 := a) (r2 := r) (b := true) (by rw [HAR.out]; exact sameF_refl _) (HSA.out.ok (by omega)) (HSZ.out.ok (by omega)) (S11.out.rep (.tail _ (.tail _ (.tail _ (.head _))))) (S11.out.rep (.tail _ (.tail _ (.tail _ (.tail _ (.tail _ (.tail _ (.tail _ (.head _)))))))))).mono ?_
  rintro e w12 ⟨rfl, hb⟩
  have S12 := Lib.hid (S11.out.step hb)
  clear y47_0 y47_1 y47_2 y47_3 y47_4 y48_0 y48_1 y48_2 y48_3 y48_4
  clear hb
  rcases hy with rfl | ⟨rfl, hs⟩
  ·
   have hx := (S12.out.box (.tail _ (.tail _ (.tail _ (.tail _ (.tail _ (.head _)))))))
   obtain ⟨y49_0, y49_1, y49_2, y49_3, y49_4, y49_5⟩ := box6 hx
   clear hx
   go_wp2_with fail
   refine (rmone_k H1.out HMM.out.2 _).mono ?_
   rintro e w13 ⟨rfl, hb⟩
   have S13 := Lib.hid (S12.out.step hb)
   clear y49_0 y49_1 y49_2 y49_3 y49_4 y49_5
   clear hb
   have hx := (S13.out.box (.tail _ (.tail _ (.tail _ (.tail _ (.tail _ (.tail _ (.head _))))))))
   obtain ⟨⟨y50_0, y50_1, y50_2, y50_3, y50_4⟩, -⟩ := cells5 hx
   clear hx
   have hx := (S13.out.box (.tail _ (.tail _ (.tail _ (.tail _ (.tail _ (.head _)))))))
   obtain ⟨y51_0, y51_1, y51_2, y51_3, y51_4, y51_5⟩ := box6 hx
   clear hx
   go_wp2_with fail
   refine (rbef_k H2.out _).mono ?_
   rintro e w14 ⟨rfl, hb⟩
   have S14 := Lib.hid (S13.out.step hb)
   clear y50_0 y50_1 y50_2 y50_3 y50_4 y51_0 y51_1 y51_2 y51_3 y51_4 y51_5
   clear hb
   go_wp2_with fail
   refine quiet_held (fun w' => Below w14.heap.size w14 w') (by kernel_rfl) (by kernel_rfl) (Below.refl _ _).drew ?_
   repeat (first
    | go_big_quiet_skip
    | (go_big_quiet_want; go_big_quiet_op; go_big_quiet_on)
    | (go_big_quiet_want; apply Exists.intro; refine ⟨fun wq hq => ?_, ?_⟩; (focus (skip; unfold Oper.quietAt; go_simp; all_goals (first | rfl | exact ⟨rfl, rfl⟩ | rfl))); simp only [Act.put, List.setIfInBounds_toArray, List.set_cons_zero, List.set_cons_succ]; go_big_quiet_on))
   refine wpQuiet_nil ?_
   intro w15 hb
   have S15 := Lib.hid (S14.out.step hb)
   clear hb
   have hx := (S15.out.box (.tail _ (.tail _ (.tail _ (.tail _ (.tail _ (.tail _ (.head _))))))))
   obtain ⟨⟨y52_0, y52_1, y52_2, y52_3, y52_4⟩, -⟩ := cells5 hx
   clear hx
   have hx := (S15.out.box (.head _))
   obtain ⟨⟨y53_0, y53_1, y53_2, y53_3, y53_4⟩, -⟩ := cells5 hx
   clear hx
   go_wp2_with fail
   refine (kbelow_k HK.out HLr.out HLs.out (S15.out.rep (.tail _ (.tail _ (.tail _ (.tail _ (.tail _ (.tail _ (.tail _ (.head _))))))))).v (S15.out.rep (.tail _ (.head _))).v).mono ?_
   rintro e w16 ⟨rfl, hb⟩
   have S16 := Lib.hid (S15.out.step hb)
   clear y52_0 y52_1 y52_2 y52_3 y52_4 y53_0 y53_1 y53_2 y53_3 y53_4
   clear hb
   have hx := (S16.out.box (.tail _ (.tail _ (.tail _ (.tail _ (.tail _ (.tail _ (.head _))))))))
   obtain ⟨⟨y54_0, y54_1, y54_2, y54_3, y54_4⟩, -⟩ := cells5 hx
   clear hx
   have hx := (S16.out.box (.head _))
   obtain ⟨⟨y55_0, y55_1, y55_2, y55_3, y55_4⟩, -⟩ := cells5 hx
   clear hx
   go_wp2_with fail
   refine (rbef_k HBF.out _).mono ?_
   rintro e w17 ⟨rfl, hb⟩
   have S17 := Lib.hid (S16.out.step hb)
   clear y54_0 y54_1 y54_2 y54_3 y54_4 y55_0 y55_1 y55_2 y55_3 y55_4
   clear hb
   go_wp2_with fail
   refine (live18_c _).mono ?_
   rintro e w18 ⟨rfl, hb⟩
   have S18 := Lib.hid (S17.out.step hb)
   clear hb
   go_wp2_with fail
   go_ret
   exact ⟨rfl, S18.out.bel⟩
  ·
   have HSR := Lib.hid hs
   clear hs
   have hx := (S12.out.box (.head _))
   obtain ⟨⟨y56_0, y56_1, y56_2, y56_3, y56_4⟩, -⟩ := cells5 hx
   clear hx
   have hx := (S12.out.box (.tail _ (.tail _ (.head _))))
   obtain ⟨⟨y57_0, y57_1, y57_2, y57_3, y57_4⟩, -⟩ := cells5 hx
   clear hx
   go_wp2_with fail
   refine (rfsame_v (r1 := s) (r2 := a) (b := true) (by rw [HSR.out]; exact sameF_refl _) (HSB.out.ok (by omega)) (HSA.out.ok (by omega)) (S12.out.rep (.tail _ (.head _))) (S12.out.rep (.tail _ (.tail _ (.tail _ (.head _)))))).mono ?_
   rintro e w13 ⟨rfl, hb⟩
   have S13 := Lib.hid (S12.out.step hb)
   clear y56_0 y56_1 y56_2 y56_3 y56_4 y57_0 y57_1 y57_2 y57_3 y57_4
   clear hb
   have hx := (S13.out.box (.tail _ (.tail _ (.tail _ (.tail _ (.tail _ (.head _)))))))
   obtain ⟨y58_0, y58_1, y58_2, y58_3, y58_4, y58_5⟩ := box6 hx
   clear hx
   go_wp2_with fail
   refine (rmone_k H1.out HMM.out.2 _).mono ?_
   rintro e w14 ⟨rfl, hb⟩
   have S14 := Lib.hid (S13.out.step hb)
   clear y58_0 y58_1 y58_2 y58_3 y58_4 y58_5
   clear hb
   have hx := (S14.out.box (.tail _ (.tail _ (.tail _ (.tail _ (.tail _ (.tail _ (.head _))))))))
   obtain ⟨⟨y59_0, y59_1, y59_2, y59_3, y59_4⟩, -⟩ := cells5 hx
   clear hx
   have hx := (S14.out.box (.tail _ (.tail _ (.tail _ (.tail _ (.tail _ (.head _)))))))
   obtain ⟨y60_0, y60_1, y60_2, y60_3, y60_4, y60_5⟩ := box6 hx
   clear hx
   go_wp2_with fail
   refine (rbef_k H2.out _).mono ?_
   rintro e w15 ⟨rfl, hb⟩
   have S15 := Lib.hid (S14.out.step hb)
   clear y59_0 y59_1 y59_2 y59_3 y59_4 y60_0 y60_1 y60_2 y60_3 y60_4 y60_5
   clear hb
   go_wp2_with fail
   refine quiet_held (fun w' => Below w15.heap.size w15 w') (by kernel_rfl) (by kernel_rfl) (Below.refl _ _).drew ?_
   repeat (first
    | go_big_quiet_skip
    | (go_big_quiet_want; go_big_quiet_op; go_big_quiet_on)
    | (go_big_quiet_want; apply Exists.intro; refine ⟨fun wq hq => ?_, ?_⟩; (focus (skip; unfold Oper.quietAt; go_simp; all_goals (first | rfl | exact ⟨rfl, rfl⟩ | rfl))); simp only [Act.put, List.setIfInBounds_toArray, List.set_cons_zero, List.set_cons_succ]; go_big_quiet_on))
   refine wpQuiet_nil ?_
   intro w16 hb
   have S16 := Lib.hid (S15.out.step hb)
   clear hb
   have hx := (S16.out.box (.tail _ (.tail _ (.tail _ (.tail _ (.tail _ (.tail _ (.head _))))))))
   obtain ⟨⟨y61_0, y61_1, y61_2, y61_3, y61_4⟩, -⟩ := cells5 hx
   clear hx
   have hx := (S16.out.box (.head _))
   obtain ⟨⟨y62_0, y62_1, y62_2, y62_3, y62_4⟩, -⟩ := cells5 hx
   clear hx
   go_wp2_with fail
   refine (kbelow_k HK.out HLr.out HLs.out (S16.out.rep (.tail _ (.tail _ (.tail _ (.tail _ (.tail _ (.tail _ (.tail _ (.head _))))))))).v (S16.out.rep (.tail _ (.head _))).v).mono ?_
   rintro e w17 ⟨rfl, hb⟩
   have S17 := Lib.hid (S16.out.step hb)
   clear y61_0 y61_1 y61_2 y61_3 y61_4 y62_0 y62_1 y62_2 y62_3 y62_4
   clear hb
   have hx := (S17.out.box (.tail _ (.tail _ (.tail _ (.tail _ (.tail _ (.tail _ (.head _))))))))
   obtain ⟨⟨y63_0, y63_1, y63_2, y63_3, y63_4⟩, -⟩ := cells5 hx
   clear hx
   have hx := (S17.out.box (.head _))
   obtain ⟨⟨y64_0, y64_1, y64_2, y64_3, y64_4⟩, -⟩ := cells5 hx
   clear hx
   go_wp2_with fail
   refine (rbef_k HBF.out _).mono ?_
   rintro e w18 ⟨rfl, hb⟩
   have S18 := Lib.hid (S17.out.step hb)
   clear y63_0 y63_1 y63_2 y63_3 y63_4 y64_0 y64_1 y64_2 y64_3 y64_4
   clear hb
   go_wp2_with fail
   refine (live18_c _).mono ?_
   rintro e w19 ⟨rfl, hb⟩
   have S19 := Lib.hid (S18.out.step hb)
   clear hb
   go_wp2_with fail
   go_ret
   exact ⟨rfl, S19.out.bel⟩
end floorMay
end Go.Proofs.YthhckdjagnlgpaaGreat
end

section
namespace Go.Proofs.YthhckdjagnlgpaaGreat.floorMay
open Go.ChangeShapes Go.WideShapes Go.ChangeAt Go.RowKit
theorem own : ownKnob Tryz.prog.godebug = none := by kernel_rfl
theorem laidOut : laidOutB Tryz.prog = true := by kernel_rfl
set_option maxRecDepth 100000 in
theorem lifted (os : Os) (started : os.Started) (H : Type) (enc : TypeId × Value → H) :
  ReturnsInHanded {} Tryz.checked os 12 .any (Rows.floorMaySpec.pre6 enc Tryz.prog Tryz.f12 Rows.floorMayRow.domain false) (Rows.floorMaySpec.post enc Tryz.prog Tryz.f12 false true false false) := by
 refine returnsInHanded_of_change (C := Tryz.checked) own started (by kernel_rfl) Tryz.func12
  (ChangeSpec.witness6 (enc := enc) (C := Tryz.checked) false ⟨#[], #[.agg #[.slice none 0 0, .int .i64 0, .int .i64 0, .slice none 0 0, .slice none 0 0], .agg #[.int .i64 0, .int .i64 0, .int .i64 0, .int .i64 0, .string ByteArray.empty, .float .f64 0], .agg #[.int .i64 0, .int .i64 0]], []⟩ 8 (by kernel_rfl) (by kernel_rfl) (by kernel_rfl) (by kernel_rfl)) ?_
 intro W base args ds gs before hval0 hW hcnd _
 have hval : ∀ (j : Nat) t v, Tryz.f12.params[j]? = some t → args[j]? = some v → Value.okWide Tryz.prog W .any base t v := hval0
 have hW' := hW
 obtain ⟨p, q, hA0, hV, rfl, hfz, hnd⟩ := hW
 have hA : DataW.TrodAll enc Tryz.prog W 0 (fun _ => true) true Tryz.f12.params.toList args.toList ds p := hA0
 rw [Tryz.params12] at hA hval
 obtain ⟨v0, vs0, d0, ds0, p0, q0, hargs, rfl, rfl, h0, r0⟩ := trodAll_cons hA
 obtain ⟨v1, vs1, d1, ds1, p1, q1, rfl, rfl, rfl, h1, r1⟩ := trodAll_cons r0
 obtain ⟨v2, vs2, d2, ds2, p2, q2, rfl, rfl, rfl, h2, r2⟩ := trodAll_cons r1
 obtain ⟨rfl, rfl, rfl⟩ := trodAll_nil r2
 obtain rfl : args = #[v0, v1, v2] := by cases args; simp_all
 obtain ⟨rfl, rfl⟩ := trodVars_none hV
 have lt0 : ∀ x ∈ p0, x.block < W.heap.size := by obtain ⟨m, hm⟩ := h0; exact DataW.trod_lt m _ _ _ hm
 have lt1 : ∀ x ∈ p1, x.block < W.heap.size := by obtain ⟨m, hm⟩ := h1; exact DataW.trod_lt m _ _ _ hm
 have lt2 : ∀ x ∈ p2, x.block < W.heap.size := by obtain ⟨m, hm⟩ := h2; exact DataW.trod_lt m _ _ _ hm
 obtain ⟨P0, R0, rfl, l0, c0, z0, w0, x0⟩ := replica_in (hval 0 55 v0 rfl rfl) h0
 obtain ⟨m1, rfl, y1, z1⟩ := move_in (hval 1 57 v1 rfl rfl) h1
 obtain ⟨a2, b2, rfl⟩ := time_in (hval 2 51 v2 rfl rfl) h2
 clear hA0 hval0
 refine (walk P0 R0 l0 z0 w0 x0 m1 ⟨y1, z1⟩ a2 b2 W c0).mono fun e W' ⟨he, bel⟩ => ?_
 subst he
 exact ⟨_, rfl, _, _, _, [], _, [], hW', trodAll_mk1 (shut_bool Tryz.underlying4 _), (trodAll_cons_mk (Below.trod laidOut (by kernel_rfl) (of_decide_eq_true (by kernel_rfl)) h0 bel lt0) (trodAll_cons_mk (Below.trod laidOut (by kernel_rfl) (of_decide_eq_true (by kernel_rfl)) h1 bel lt1) (trodAll_cons_mk (Below.trod laidOut (by kernel_rfl) (of_decide_eq_true (by kernel_rfl)) h2 bel lt2) trodAll_mk0))), rfl, bel.frame _, fun h => by cases h⟩
theorem over : Rows.floorMayRow.holds Tryz.pinned (OpenSpec.ofChange Rows.floorMaySpec) :=
 OpenClaim.holds_of_wide 12 Tryz.f12 rfl rfl rfl rfl rfl rfl rfl ⟨rfl, rfl, rfl, rfl, rfl⟩ rfl rfl rfl rfl rfl (by kernel_rfl) Tryz.func12 (by kernel_rfl)
  (of_decide_eq_true (by kernel_rfl)) (by unfold Func.isWrapper; first | (rw [if_pos (by decide +kernel)]; kernel_rfl) | (rw [if_neg (by decide +kernel)]; exact ⟨rfl, rfl⟩))
  (fun os started H enc _ => lifted os started H enc)
theorem proved : Rows.FloorMaySaid := over
#print axioms proved
end Go.Proofs.YthhckdjagnlgpaaGreat.floorMay
end
