/-
  The walk of FloorTells.
  The program tells of any replica what the document tells: for all replicas and moves, without condition (beyond the statement's bounds it asks nothing but the document's examples).
-/
import Derived.Test.YthhckdjagnlgpaaGreatWx
import Derived.Test.YthhckdjagnlgpaaGreatVy
import Derived.ProofKit
import Derived.OpenShut
import Derived.ShutString
import Derived.ChangeOld
section
namespace Go.Proofs.YthhckdjagnlgpaaGreat
open Go.RowKit Go.IntWalk
open Gr
set_option maxRecDepth 100000
attribute [local go_sem] Oper.semAt_some
theorem hold30F {p0 p1 p2 p3 p4 p5 p6 p7 p8 p9 p10 p11 p12 p13 p14 p15 p16 p17 p18 p19 p20 p21 p22 p23 p24 p25 p26 p27 p28 p29 : Addr} {v0 v1 v2 v3 v4 v5 v6 v7 v8 v9 v10 v11 v12 v13 v14 v15 v16 v17 v18 v19 v20 v21 v22 v23 v24 v25 v26 v27 v28 v29 : Value} {wb W W' : World} (h : W.cell? p0 = some v0 ∧ W.cell? p1 = some v1 ∧ W.cell? p2 = some v2 ∧ W.cell? p3 = some v3 ∧ W.cell? p4 = some v4 ∧ W.cell? p5 = some v5 ∧ W.cell? p6 = some v6 ∧ W.cell? p7 = some v7 ∧ W.cell? p8 = some v8 ∧ W.cell? p9 = some v9 ∧ W.cell? p10 = some v10 ∧ W.cell? p11 = some v11 ∧ W.cell? p12 = some v12 ∧ W.cell? p13 = some v13 ∧ W.cell? p14 = some v14 ∧ W.cell? p15 = some v15 ∧ W.cell? p16 = some v16 ∧ W.cell? p17 = some v17 ∧ W.cell? p18 = some v18 ∧ W.cell? p19 = some v19 ∧ W.cell? p20 = some v20 ∧ W.cell? p21 = some v21 ∧ W.cell? p22 = some v22 ∧ W.cell? p23 = some v23 ∧ W.cell? p24 = some v24 ∧ W.cell? p25 = some v25 ∧ W.cell? p26 = some v26 ∧ W.cell? p27 = some v27 ∧ W.cell? p28 = some v28 ∧ W.cell? p29 = some v29 ∧ Below wb.heap.size wb W) (hb : Below W.heap.size W W') : W'.cell? p0 = some v0 ∧ W'.cell? p1 = some v1 ∧ W'.cell? p2 = some v2 ∧ W'.cell? p3 = some v3 ∧ W'.cell? p4 = some v4 ∧ W'.cell? p5 = some v5 ∧ W'.cell? p6 = some v6 ∧ W'.cell? p7 = some v7 ∧ W'.cell? p8 = some v8 ∧ W'.cell? p9 = some v9 ∧ W'.cell? p10 = some v10 ∧ W'.cell? p11 = some v11 ∧ W'.cell? p12 = some v12 ∧ W'.cell? p13 = some v13 ∧ W'.cell? p14 = some v14 ∧ W'.cell? p15 = some v15 ∧ W'.cell? p16 = some v16 ∧ W'.cell? p17 = some v17 ∧ W'.cell? p18 = some v18 ∧ W'.cell? p19 = some v19 ∧ W'.cell? p20 = some v20 ∧ W'.cell? p21 = some v21 ∧ W'.cell? p22 = some v22 ∧ W'.cell? p23 = some v23 ∧ W'.cell? p24 = some v24 ∧ W'.cell? p25 = some v25 ∧ W'.cell? p26 = some v26 ∧ W'.cell? p27 = some v27 ∧ W'.cell? p28 = some v28 ∧ W'.cell? p29 = some v29 ∧ Below wb.heap.size wb W' := by
 obtain ⟨h0, h1, h2, h3, h4, h5, h6, h7, h8, h9, h10, h11, h12, h13, h14, h15, h16, h17, h18, h19, h20, h21, h22, h23, h24, h25, h26, h27, h28, h29, hB⟩ := h
 exact ⟨keep_cell hb h0, keep_cell hb h1, keep_cell hb h2, keep_cell hb h3, keep_cell hb h4, keep_cell hb h5, keep_cell hb h6, keep_cell hb h7, keep_cell hb h8, keep_cell hb h9, keep_cell hb h10, keep_cell hb h11, keep_cell hb h12, keep_cell hb h13, keep_cell hb h14, keep_cell hb h15, keep_cell hb h16, keep_cell hb h17, keep_cell hb h18, keep_cell hb h19, keep_cell hb h20, keep_cell hb h21, keep_cell hb h22, keep_cell hb h23, keep_cell hb h24, keep_cell hb h25, keep_cell hb h26, keep_cell hb h27, keep_cell hb h28, keep_cell hb h29, hB.trans (hb.mono hB.size)⟩
theorem hold30Fb {p0 p1 p2 p3 p4 p5 p6 p7 p8 p9 p10 p11 p12 p13 p14 p15 p16 p17 p18 p19 p20 p21 p22 p23 p24 p25 p26 p27 p28 p29 : Addr} {v0 v1 v2 v3 v4 v5 v6 v7 v8 v9 v10 v11 v12 v13 v14 v15 v16 v17 v18 v19 v20 v21 v22 v23 v24 v25 v26 v27 v28 v29 : Value} {wb W : World} (h : W.cell? p0 = some v0 ∧ W.cell? p1 = some v1 ∧ W.cell? p2 = some v2 ∧ W.cell? p3 = some v3 ∧ W.cell? p4 = some v4 ∧ W.cell? p5 = some v5 ∧ W.cell? p6 = some v6 ∧ W.cell? p7 = some v7 ∧ W.cell? p8 = some v8 ∧ W.cell? p9 = some v9 ∧ W.cell? p10 = some v10 ∧ W.cell? p11 = some v11 ∧ W.cell? p12 = some v12 ∧ W.cell? p13 = some v13 ∧ W.cell? p14 = some v14 ∧ W.cell? p15 = some v15 ∧ W.cell? p16 = some v16 ∧ W.cell? p17 = some v17 ∧ W.cell? p18 = some v18 ∧ W.cell? p19 = some v19 ∧ W.cell? p20 = some v20 ∧ W.cell? p21 = some v21 ∧ W.cell? p22 = some v22 ∧ W.cell? p23 = some v23 ∧ W.cell? p24 = some v24 ∧ W.cell? p25 = some v25 ∧ W.cell? p26 = some v26 ∧ W.cell? p27 = some v27 ∧ W.cell? p28 = some v28 ∧ W.cell? p29 = some v29 ∧ Below wb.heap.size wb W) : Below wb.heap.size wb W := by
 obtain ⟨h0, h1, h2, h3, h4, h5, h6, h7, h8, h9, h10, h11, h12, h13, h14, h15, h16, h17, h18, h19, h20, h21, h22, h23, h24, h25, h26, h27, h28, h29, hB⟩ := h
 exact hB
theorem hold30Fs {p0 p1 p2 p3 p4 p5 p6 p7 p8 p9 p10 p11 p12 p13 p14 p15 p16 p17 p18 p19 p20 p21 p22 p23 p24 p25 p26 p27 p28 p29 : Addr} {v0 v1 v2 v3 v4 v5 v6 v7 v8 v9 v10 v11 v12 v13 v14 v15 v16 v17 v18 v19 v20 v21 v22 v23 v24 v25 v26 v27 v28 v29 : Value} {wb : World} (h0 : wb.cell? p0 = some v0) (h1 : wb.cell? p1 = some v1) (h2 : wb.cell? p2 = some v2) (h3 : wb.cell? p3 = some v3) (h4 : wb.cell? p4 = some v4) (h5 : wb.cell? p5 = some v5) (h6 : wb.cell? p6 = some v6) (h7 : wb.cell? p7 = some v7) (h8 : wb.cell? p8 = some v8) (h9 : wb.cell? p9 = some v9) (h10 : wb.cell? p10 = some v10) (h11 : wb.cell? p11 = some v11) (h12 : wb.cell? p12 = some v12) (h13 : wb.cell? p13 = some v13) (h14 : wb.cell? p14 = some v14) (h15 : wb.cell? p15 = some v15) (h16 : wb.cell? p16 = some v16) (h17 : wb.cell? p17 = some v17) (h18 : wb.cell? p18 = some v18) (h19 : wb.cell? p19 = some v19) (h20 : wb.cell? p20 = some v20) (h21 : wb.cell? p21 = some v21) (h22 : wb.cell? p22 = some v22) (h23 : wb.cell? p23 = some v23) (h24 : wb.cell? p24 = some v24) (h25 : wb.cell? p25 = some v25) (h26 : wb.cell? p26 = some v26) (h27 : wb.cell? p27 = some v27) (h28 : wb.cell? p28 = some v28) (h29 : wb.cell? p29 = some v29) : wb.drew.cell? p0 = some v0 ∧ wb.drew.cell? p1 = some v1 ∧ wb.drew.cell? p2 = some v2 ∧ wb.drew.cell? p3 = some v3 ∧ wb.drew.cell? p4 = some v4 ∧ wb.drew.cell? p5 = some v5 ∧ wb.drew.cell? p6 = some v6 ∧ wb.drew.cell? p7 = some v7 ∧ wb.drew.cell? p8 = some v8 ∧ wb.drew.cell? p9 = some v9 ∧ wb.drew.cell? p10 = some v10 ∧ wb.drew.cell? p11 = some v11 ∧ wb.drew.cell? p12 = some v12 ∧ wb.drew.cell? p13 = some v13 ∧ wb.drew.cell? p14 = some v14 ∧ wb.drew.cell? p15 = some v15 ∧ wb.drew.cell? p16 = some v16 ∧ wb.drew.cell? p17 = some v17 ∧ wb.drew.cell? p18 = some v18 ∧ wb.drew.cell? p19 = some v19 ∧ wb.drew.cell? p20 = some v20 ∧ wb.drew.cell? p21 = some v21 ∧ wb.drew.cell? p22 = some v22 ∧ wb.drew.cell? p23 = some v23 ∧ wb.drew.cell? p24 = some v24 ∧ wb.drew.cell? p25 = some v25 ∧ wb.drew.cell? p26 = some v26 ∧ wb.drew.cell? p27 = some v27 ∧ wb.drew.cell? p28 = some v28 ∧ wb.drew.cell? p29 = some v29 ∧ Below wb.heap.size wb wb.drew := ⟨h0, h1, h2, h3, h4, h5, h6, h7, h8, h9, h10, h11, h12, h13, h14, h15, h16, h17, h18, h19, h20, h21, h22, h23, h24, h25, h26, h27, h28, h29, (Below.refl _ _).drew⟩
namespace floorTells
set_option maxHeartbeats 16000000 in
theorem walk (p : Pl) (r : Rp) (pl : RpPl p r) (hlen : r.B.length ≤ maxLen ∧ r.L.length ≤ maxLen ∧ r.V.length ≤ maxLen) (rb : Rows_ r.B) (rl : Moves_ r.L) (po : Pl) (q : Rp) (hlenq : q.B.length ≤ maxLen ∧ q.L.length ≤ maxLen ∧ q.V.length ≤ maxLen) (rbq : Rows_ q.B) (rlq : Moves_ q.L) (m : Mv) (hm : MvOk m) (w : World) (ha : RpAt p r w) (hb2 : RpAt po q w) :
  Calls Tryz.prog 10 #[.agg #[.slice p.A1 r.B.length p.c1, .int .i64 r.fc, .int .i64 r.fr, .slice p.A2 r.L.length p.c2, .slice p.A3 r.V.length p.c3], .agg #[.slice po.A1 q.B.length po.c1, .int .i64 q.fc, .int .i64 q.fr, .slice po.A2 q.L.length po.c2, .slice po.A3 q.V.length po.c3], .agg #[.int .i64 (mc m), .int .i64 (mr m), .int .i64 (pa (mw m)), .int .i64 (ch (mw m)), .string (ba (nm (mw m))), .float .f64 (rk (mw m))]] w fun e w' => e = .returned (.bool true) ∧ Below w.heap.size w w' := by
 have S0 := Lib.hid (((Bed.start w).addP (p := p) (r := r) ha).addP (p := po) (r := q) hb2)
 obtain ⟨b0, hw⟩ : ∃ b0, b0 = w.alloc (.cells #[.slice p.A1 r.B.length p.c1, .int .i64 r.fc, .int .i64 r.fr, .slice p.A2 r.L.length p.c2, .slice p.A3 r.V.length p.c3] 55) := ⟨_, rfl⟩
 have hb : Below w.heap.size w b0 := by rw [hw]; exact (Below.refl _ _).alloc (Nat.le_refl _) _
 have hz0 : w.heap.size = w.heap.size := by rfl
 have S1 := Lib.hid ((S0.out.step hb).addB (g := w.heap.size) (t := 55) (vs := [.slice p.A1 r.B.length p.c1, .int .i64 r.fc, .int .i64 r.fr, .slice p.A2 r.L.length p.c2, .slice p.A3 r.V.length p.c3]) (by rw [hw, ← hz0]; exact is_new w 55 _))
 have HWb0 := Lib.hid hw
 clear hw hb
 obtain ⟨b1, hw⟩ : ∃ b1, b1 = b0.alloc (.cells #[.slice po.A1 q.B.length po.c1, .int .i64 q.fc, .int .i64 q.fr, .slice po.A2 q.L.length po.c2, .slice po.A3 q.V.length po.c3] 55) := ⟨_, rfl⟩
 have hb : Below b0.heap.size b0 b1 := by rw [hw]; exact (Below.refl _ _).alloc (Nat.le_refl _) _
 have hz1 : b0.heap.size = w.heap.size + 1 := by rw [HWb0.out, World.size_alloc, hz0]
 have S2 := Lib.hid ((S1.out.step hb).addB (g := w.heap.size + 1) (t := 55) (vs := [.slice po.A1 q.B.length po.c1, .int .i64 q.fc, .int .i64 q.fr, .slice po.A2 q.L.length po.c2, .slice po.A3 q.V.length po.c3]) (by rw [hw, ← hz1]; exact is_new b0 55 _))
 have HWb1 := Lib.hid hw
 clear hw hb
 obtain ⟨b2, hw⟩ : ∃ b2, b2 = b1.alloc (.cells #[.int .i64 (mc m), .int .i64 (mr m), .int .i64 (pa (mw m)), .int .i64 (ch (mw m)), .string (ba (nm (mw m))), .float .f64 (rk (mw m))] 57) := ⟨_, rfl⟩
 have hb : Below b1.heap.size b1 b2 := by rw [hw]; exact (Below.refl _ _).alloc (Nat.le_refl _) _
 have hz2 : b1.heap.size = w.heap.size + 1 + 1 := by rw [HWb1.out, World.size_alloc, hz1]
 have S3 := Lib.hid ((S2.out.step hb).addB (g := w.heap.size + 1 + 1) (t := 57) (vs := [.int .i64 (mc m), .int .i64 (mr m), .int .i64 (pa (mw m)), .int .i64 (ch (mw m)), .string (ba (nm (mw m))), .float .f64 (rk (mw m))]) (by rw [hw, ← hz2]; exact is_new b1 57 _))
 have HWb2 := Lib.hid hw
 clear hw hb
 clear hz0 hz1 hz2
 have PLr := Lib.hid pl
 have HLEN := Lib.hid hlen
 have HRB := Lib.hid rb
 have HRL := Lib.hid rl
 have HLENq := Lib.hid hlenq
 have HRBq := Lib.hid rbq
 have HRLq := Lib.hid rlq
 have HMM := Lib.hid hm
 clear pl hlen rb rl ha hm hlenq rbq rlq hb2
 obtain ⟨f, hf⟩ : ∃ b, fewF r = b := ⟨_, rfl⟩
 have Hf := Lib.hid hf
 clear hf
 have hx := (S3.out.box (.tail _ (.tail _ (.head _))))
 rw [HWb2.out, HWb1.out, HWb0.out] at hx
 obtain ⟨⟨q0, q1, q2, q3, q4⟩, -⟩ := cells5 hx
 clear hx
 obtain ⟨g, hg⟩ : ∃ b, fewF q = b := ⟨_, rfl⟩
 have Hg := Lib.hid hg
 clear hg
 go_enter Tryz.func10, Tryz.ntmps10
 go_wp2_with fail
 rw [← HWb0.out, ← HWb1.out, ← HWb2.out]
 refine (rffew_v Hf.out HLEN.out (S3.out.rep (.tail _ (.tail _ (.tail _ (.tail _ (.head _))))))).mono ?_
 rintro e w4 ⟨rfl, hb⟩
 have S4 := Lib.hid (S3.out.step hb)
 clear q0 q1 q2 q3 q4
 clear hb
 cases f with
 | false =>
  go_wp2_with fail
  refine (live18_c _).mono ?_
  rintro e w5 ⟨rfl, hb⟩
  have S5 := Lib.hid (S4.out.step hb)
  clear hb
  go_wp2_with fail
  go_ret
  exact ⟨rfl, S5.out.bel⟩
 | true =>
 have hx := (S4.out.box (.tail _ (.head _)))
 obtain ⟨⟨y1_0, y1_1, y1_2, y1_3, y1_4⟩, -⟩ := cells5 hx
 clear hx
 go_wp2_with fail
 refine (rffew_v Hg.out HLENq.out (S4.out.rep (.tail _ (.tail _ (.tail _ (.head _)))))).mono ?_
 rintro e w5 ⟨rfl, hb⟩
 have S5 := Lib.hid (S4.out.step hb)
 clear y1_0 y1_1 y1_2 y1_3 y1_4
 clear hb
 cases g with
 | false =>
  go_wp2_with fail
  refine (live18_c _).mono ?_
  rintro e w6 ⟨rfl, hb⟩
  have S6 := Lib.hid (S5.out.step hb)
  clear hb
  go_wp2_with fail
  go_ret
  exact ⟨rfl, S6.out.bel⟩
 | true =>
 by_cases hlong : 100 < (nm (mw m)).length
 case pos =>
  have hlo1 : decide (100 < (nm (mw m)).length) = true := decide_eq_true hlong
  have hlo3 : decide ((100 : Int) < ((ba (nm (mw m))).size : Int)) = true := decide_eq_true (by rw [ba_size]; omega)
  have hx := (S5.out.box (.head _))
  obtain ⟨y2_0, y2_1, y2_2, y2_3, y2_4, y2_5⟩ := box6 hx
  clear hx
  go_wp2_with fail
  refine (live18_c _).mono ?_
  rintro e w6 ⟨rfl, hb⟩
  have S6 := Lib.hid (S5.out.step hb)
  clear y2_0 y2_1 y2_2 y2_3 y2_4 y2_5
  clear hb
  go_wp2_with fail
  go_ret
  exact ⟨rfl, S6.out.bel⟩
 have hlo1 : decide (100 < (nm (mw m)).length) = false := decide_eq_false hlong
 have hlo3 : decide ((100 : Int) < ((ba (nm (mw m))).size : Int)) = false := decide_eq_false (by rw [ba_size]; omega)
 have HSZ := Lib.hid (sz_few Hf.out HRB.out HRL.out)
 have HSQ := Lib.hid (sz_few Hg.out HRBq.out HRLq.out)
 obtain ⟨o, ho⟩ : ∃ o, addF r m = o := ⟨_, rfl⟩
 obtain ⟨a, b, x⟩ := o
 obtain ⟨o, ho2⟩ : ∃ o, pruneF r (mc m) (mr m) = o := ⟨_, rfl⟩
 obtain ⟨s, y⟩ := o
 have HO := Lib.hid ho
 have HP := Lib.hid ho2
 have HSA := Lib.hid (show Sz a 121 by have := sz_add HSZ.out HMM.out; rw [ho] at this; exact this)
 have HSS := Lib.hid (show Sz s 120 by have := sz_prune HSZ.out (mc m) (mr m); rw [ho2] at this; exact this)
 clear ho ho2
 have hx := (S5.out.box (.tail _ (.tail _ (.head _))))
 obtain ⟨⟨y3_0, y3_1, y3_2, y3_3, y3_4⟩, -⟩ := cells5 hx
 clear hx
 have hx := (S5.out.box (.head _))
 obtain ⟨y4_0, y4_1, y4_2, y4_3, y4_4, y4_5⟩ := box6 hx
 clear hx
 go_wp2_with fail
 refine (fAdd_v (r2 := a) HO.out (HSZ.out.ok (by omega)) PLr.out HMM.out (S5.out.rep (.tail _ (.tail _ (.tail _ (.tail _ (.head _))))))).mono ?_
 rintro e w6 ⟨p1, rfl, hg, hb⟩
 have S6 := Lib.hid ((S5.out.step hb).addP (p := p1) (r := a) hg.at_)
 clear y3_0 y3_1 y3_2 y3_3 y3_4 y4_0 y4_1 y4_2 y4_3 y4_4 y4_5
 clear hb hg
 obtain ⟨w7, hw⟩ : ∃ w7, w7 = w6.alloc (.cells #[.slice p1.A1 a.B.length p1.c1, .int .i64 a.fc, .int .i64 a.fr, .slice p1.A2 a.L.length p1.c2, .slice p1.A3 a.V.length p1.c3] 55) := ⟨_, rfl⟩
 have hb : Below w6.heap.size w6 w7 := by rw [hw]; exact (Below.refl _ _).alloc (Nat.le_refl _) _
 have S7 := Lib.hid ((S6.out.step hb).addB (g := w6.heap.size) (t := 55) (vs := [.slice p1.A1 a.B.length p1.c1, .int .i64 a.fc, .int .i64 a.fr, .slice p1.A2 a.L.length p1.c2, .slice p1.A3 a.V.length p1.c3]) (by rw [hw]; exact is_new w6 55 _))
 have HW7 := Lib.hid hw
 clear hw hb
 have hx := (S7.out.box (.tail _ (.tail _ (.tail _ (.tail _ (.head _))))))
 rw [HW7.out] at hx
 obtain ⟨⟨y5_0, y5_1, y5_2, y5_3, y5_4⟩, -⟩ := cells5 hx
 clear hx
 have hx := (S7.out.box (.tail _ (.tail _ (.head _))))
 rw [HW7.out] at hx
 obtain ⟨y6_0, y6_1, y6_2, y6_3, y6_4, y6_5⟩ := box6 hx
 clear hx
 go_wp2_with fail
 rw [← HW7.out]
 refine (rfadd_v (r2 := a) HO.out (HSZ.out.ok (by omega)) PLr.out HMM.out (S7.out.rep (.tail _ (.tail _ (.tail _ (.tail _ (.tail _ (.tail _ (.head _))))))))).mono ?_
 rintro e w8 ⟨p2, rfl, hg, hb⟩
 have S8 := Lib.hid ((S7.out.step hb).addP (p := p2) (r := a) hg.at_)
 clear y5_0 y5_1 y5_2 y5_3 y5_4 y6_0 y6_1 y6_2 y6_3 y6_4 y6_5
 clear hb hg
 obtain ⟨w9, hw⟩ : ∃ w9, w9 = w8.alloc (.cells #[.slice p2.A1 a.B.length p2.c1, .int .i64 a.fc, .int .i64 a.fr, .slice p2.A2 a.L.length p2.c2, .slice p2.A3 a.V.length p2.c3] 55) := ⟨_, rfl⟩
 have hb : Below w8.heap.size w8 w9 := by rw [hw]; exact (Below.refl _ _).alloc (Nat.le_refl _) _
 have S9 := Lib.hid ((S8.out.step hb).addB (g := w8.heap.size) (t := 55) (vs := [.slice p2.A1 a.B.length p2.c1, .int .i64 a.fc, .int .i64 a.fr, .slice p2.A2 a.L.length p2.c2, .slice p2.A3 a.V.length p2.c3]) (by rw [hw]; exact is_new w8 55 _))
 have HW9 := Lib.hid hw
 clear hw hb
 have hx := (S9.out.box (.tail _ (.tail _ (.tail _ (.tail _ (.tail _ (.tail _ (.head _))))))))
 rw [HW9.out] at hx
 obtain ⟨⟨y7_0, y7_1, y7_2, y7_3, y7_4⟩, -⟩ := cells5 hx
 clear hx
 have hx := (S9.out.box (.tail _ (.tail _ (.tail _ (.tail _ (.head _))))))
 rw [HW9.out] at hx
 obtain ⟨y8_0, y8_1, y8_2, y8_3, y8_4, y8_5⟩ := box6 hx
 clear hx
 go_wp2_with fail
 rw [← HW9.out]
 refine (fPrune_v (r2 := s) HP.out (HSZ.out.ok (by omega)) PLr.out (S9.out.rep (.tail _ (.tail _ (.tail _ (.tail _ (.tail _ (.tail _ (.tail _ (.tail _ (.head _))))))))))).mono ?_
 rintro e w10 ⟨p3, rfl, hg, hb⟩
 have S10 := Lib.hid ((S9.out.step hb).addP (p := p3) (r := s) hg.at_)
 clear y7_0 y7_1 y7_2 y7_3 y7_4 y8_0 y8_1 y8_2 y8_3 y8_4 y8_5
 clear hb hg
 obtain ⟨w11, hw⟩ : ∃ w11, w11 = w10.alloc (.cells #[.slice p3.A1 s.B.length p3.c1, .int .i64 s.fc, .int .i64 s.fr, .slice p3.A2 s.L.length p3.c2, .slice p3.A3 s.V.length p3.c3] 55) := ⟨_, rfl⟩
 have hb : Below w10.heap.size w10 w11 := by rw [hw]; exact (Below.refl _ _).alloc (Nat.le_refl _) _
 have S11 := Lib.hid ((S10.out.step hb).addB (g := w10.heap.size) (t := 55) (vs := [.slice p3.A1 s.B.length p3.c1, .int .i64 s.fc, .int .i64 s.fr, .slice p3.A2 s.L.length p3.c2, .slice p3.A3 s.V.length p3.c3]) (by rw [hw]; exact is_new w10 55 _))
 have HW11 := Lib.hid hw
 clear hw hb
 have hx := (S11.out.box (.tail _ (.tail _ (.tail _ (.tail _ (.tail _ (.tail _ (.tail _ (.tail _ (.head _))))))))))
 rw [HW11.out] at hx
 obtain ⟨⟨y9_0, y9_1, y9_2, y9_3, y9_4⟩, -⟩ := cells5 hx
 clear hx
 have hx := (S11.out.box (.tail _ (.tail _ (.tail _ (.tail _ (.tail _ (.tail _ (.head _))))))))
 rw [HW11.out] at hx
 obtain ⟨y10_0, y10_1, y10_2, y10_3, y10_4, y10_5⟩ := box6 hx
 clear hx
 go_wp2_with fail
 rw [← HW11.out]
 refine (rfprune_v (r2 := s) HP.out (HSZ.out.ok (by omega)) PLr.out (S11.out.rep (.tail _ (.tail _ (.tail _ (.tail _ (.tail _ (.tail _ (.tail _ (.tail _ (.tail _ (.tail _ (.head _))))))))))))).mono ?_
 rintro e w12 ⟨p4, rfl, hg, hb⟩
 have S12 := Lib.hid ((S11.out.step hb).addP (p := p4) (r := s) hg.at_)
 clear y9_0 y9_1 y9_2 y9_3 y9_4 y10_0 y10_1 y10_2 y10_3 y10_4 y10_5
 clear hb hg
 obtain ⟨w13, hw⟩ : ∃ w13, w13 = w12.alloc (.cells #[.slice p4.A1 s.B.length p4.c1, .int .i64 s.fc, .int .i64 s.fr, .slice p4.A2 s.L.length p4.c2, .slice p4.A3 s.V.length p4.c3] 55) := ⟨_, rfl⟩
 have hb : Below w12.heap.size w12 w13 := by rw [hw]; exact (Below.refl _ _).alloc (Nat.le_refl _) _
 have S13 := Lib.hid ((S12.out.step hb).addB (g := w12.heap.size) (t := 55) (vs := [.slice p4.A1 s.B.length p4.c1, .int .i64 s.fc, .int .i64 s.fr, .slice p4.A2 s.L.length p4.c2, .slice p4.A3 s.V.length p4.c3]) (by rw [hw]; exact is_new w12 55 _))
 have HW13 := Lib.hid hw
 clear hw hb
 go_upto_region 7 with fail
 rw [← HW13.out]
 have HI1z := Lib.hid (S13.out.box (.tail _ (.tail _ (.tail _ (.tail _ (.tail _ (.tail _ (.tail _ (.tail _ (.tail _ (.tail _ (.head _))))))))))))
 have HA1z := Lib.hid (S13.out.rep (.tail _ (.tail _ (.tail _ (.tail _ (.tail _ (.tail _ (.tail _ (.tail _ (.tail _ (.tail _ (.tail _ (.tail _ (.head _))))))))))))))
 obtain ⟨⟨g0, g1, g2, g3, g4⟩, -⟩ := cells5 HI1z.out
 have HI2z := Lib.hid (S13.out.box (.tail _ (.tail _ (.tail _ (.tail _ (.tail _ (.tail _ (.tail _ (.tail _ (.tail _ (.head _)))))))))))
 have HA2z := Lib.hid (S13.out.rep (.tail _ (.tail _ (.tail _ (.tail _ (.tail _ (.tail _ (.tail _ (.tail _ (.tail _ (.tail _ (.tail _ (.head _)))))))))))))
 obtain ⟨⟨g5, g6, g7, g8, g9⟩, -⟩ := cells5 HI2z.out
 have HI3z := Lib.hid (S13.out.box (.tail _ (.tail _ (.tail _ (.tail _ (.tail _ (.tail _ (.head _))))))))
 have HA3z := Lib.hid (S13.out.rep (.tail _ (.tail _ (.tail _ (.tail _ (.tail _ (.tail _ (.tail _ (.head _)))))))))
 obtain ⟨⟨g10, g11, g12, g13, g14⟩, -⟩ := cells5 HI3z.out
 have HI4z := Lib.hid (S13.out.box (.tail _ (.tail _ (.tail _ (.tail _ (.head _))))))
 have HA4z := Lib.hid (S13.out.rep (.tail _ (.tail _ (.tail _ (.tail _ (.tail _ (.head _)))))))
 obtain ⟨⟨g15, g16, g17, g18, g19⟩, -⟩ := cells5 HI4z.out
 have HI5z := Lib.hid (S13.out.box (.tail _ (.tail _ (.head _))))
 have HA5z := Lib.hid (S13.out.rep (.tail _ (.tail _ (.tail _ (.head _)))))
 obtain ⟨⟨g20, g21, g22, g23, g24⟩, -⟩ := cells5 HI5z.out
 have HI6z := Lib.hid (S13.out.box (.head _))
 have HA6z := Lib.hid (S13.out.rep (.tail _ (.head _)))
 obtain ⟨⟨g25, g26, g27, g28, g29⟩, -⟩ := cells5 HI6z.out
 obtain ⟨v, hv⟩ : ∃ v, mayF r = v := ⟨_, rfl⟩
 have HV := Lib.hid hv
 obtain ⟨X, hX⟩ : ∃ X, treeF r = X := ⟨_, rfl⟩
 have HX := Lib.hid hX
 have HXR := Lib.hid (show Rows_ X by rw [← hX]; exact (sz_tree HSZ.out).2)
 have HXL := Lib.hid (show X.length ≤ maxLen by rw [← hX]; have := (sz_tree HSZ.out).1; unfold maxLen; omega)
 obtain ⟨z, hz⟩ : ∃ z, sameF r q = z := ⟨_, rfl⟩
 have HZ := Lib.hid hz
 have hvv : (v == v) = true := by cases v <;> rfl
 have hzz : (z == z) = true := by cases z <;> rfl
 have hbb : (b == b) = true := by cases b <;> rfl
 have hxx : (x == x) = true := by simp
 have hyy : (y == y) = true := by simp
 clear hv hX hz
 go_region_held3 (fun w' => w'.cell? ⟨w.heap.size, 0, none⟩ = some (.slice p.A1 r.B.length p.c1) ∧ w'.cell? ⟨w.heap.size, 1, none⟩ = some (.int .i64 r.fc) ∧ w'.cell? ⟨w.heap.size, 2, none⟩ = some (.int .i64 r.fr) ∧ w'.cell? ⟨w.heap.size, 3, none⟩ = some (.slice p.A2 r.L.length p.c2) ∧ w'.cell? ⟨w.heap.size, 4, none⟩ = some (.slice p.A3 r.V.length p.c3) ∧ w'.cell? ⟨w.heap.size + 1, 0, none⟩ = some (.slice po.A1 q.B.length po.c1) ∧ w'.cell? ⟨w.heap.size + 1, 1, none⟩ = some (.int .i64 q.fc) ∧ w'.cell? ⟨w.heap.size + 1, 2, none⟩ = some (.int .i64 q.fr) ∧ w'.cell? ⟨w.heap.size + 1, 3, none⟩ = some (.slice po.A2 q.L.length po.c2) ∧ w'.cell? ⟨w.heap.size + 1, 4, none⟩ = some (.slice po.A3 q.V.length po.c3) ∧ w'.cell? ⟨w6.heap.size, 0, none⟩ = some (.slice p1.A1 a.B.length p1.c1) ∧ w'.cell? ⟨w6.heap.size, 1, none⟩ = some (.int .i64 a.fc) ∧ w'.cell? ⟨w6.heap.size, 2, none⟩ = some (.int .i64 a.fr) ∧ w'.cell? ⟨w6.heap.size, 3, none⟩ = some (.slice p1.A2 a.L.length p1.c2) ∧ w'.cell? ⟨w6.heap.size, 4, none⟩ = some (.slice p1.A3 a.V.length p1.c3) ∧ w'.cell? ⟨w8.heap.size, 0, none⟩ = some (.slice p2.A1 a.B.length p2.c1) ∧ w'.cell? ⟨w8.heap.size, 1, none⟩ = some (.int .i64 a.fc) ∧ w'.cell? ⟨w8.heap.size, 2, none⟩ = some (.int .i64 a.fr) ∧ w'.cell? ⟨w8.heap.size, 3, none⟩ = some (.slice p2.A2 a.L.length p2.c2) ∧ w'.cell? ⟨w8.heap.size, 4, none⟩ = some (.slice p2.A3 a.V.length p2.c3) ∧ w'.cell? ⟨w10.heap.size, 0, none⟩ = some (.slice p3.A1 s.B.length p3.c1) ∧ w'.cell? ⟨w10.heap.size, 1, none⟩ = some (.int .i64 s.fc) ∧ w'.cell? ⟨w10.heap.size, 2, none⟩ = some (.int .i64 s.fr) ∧ w'.cell? ⟨w10.heap.size, 3, none⟩ = some (.slice p3.A2 s.L.length p3.c2) ∧ w'.cell? ⟨w10.heap.size, 4, none⟩ = some (.slice p3.A3 s.V.length p3.c3) ∧ w'.cell? ⟨w12.heap.size, 0, none⟩ = some (.slice p4.A1 s.B.length p4.c1) ∧ w'.cell? ⟨w12.heap.size, 1, none⟩ = some (.int .i64 s.fc) ∧ w'.cell? ⟨w12.heap.size, 2, none⟩ = some (.int .i64 s.fr) ∧ w'.cell? ⟨w12.heap.size, 3, none⟩ = some (.slice p4.A2 s.L.length p4.c2) ∧ w'.cell? ⟨w12.heap.size, 4, none⟩ = some (.slice p4.A3 s.V.length p4.c3) ∧ Below w13.heap.size w13 w')
  (first
   | (exact hold30F (by assumption) hbn)
   | (exact hold30Fd (by assumption))
   | (exact hold30Fs g0 g1 g2 g3 g4 g5 g6 g7 g8 g9 g10 g11 g12 g13 g14 g15 g16 g17 g18 g19 g20 g21 g22 g23 g24 g25 g26 g27 g28 g29)
   | go_keep)
  (first
   | (go_at_call 48; refine (fmay_v HV.out (HSZ.out.ok (by omega)) (HA1z.out.keep (hold30Fb (by assumption)))).mono ?_; rintro e wz ⟨rfl, hbn⟩)
   | (go_at_call 49; refine (rfmay_v HV.out (HSZ.out.ok (by omega)) (HA1z.out.keep (hold30Fb (by assumption)))).mono ?_; rintro e wz ⟨rfl, hbn⟩)
   | (go_at_call 50; refine (ftree_v HX.out (HSZ.out.ok (by omega)) PLr.out (HA1z.out.keep (hold30Fb (by assumption)))).mono ?_; rintro e wz ⟨E1, f1, rfl, hT1, hbn⟩)
   | (go_at_call 51; refine (rftree_v HX.out (HSZ.out.ok (by omega)) PLr.out (HA1z.out.keep (hold30Fb (by assumption)))).mono ?_; rintro e wz ⟨E2, f2, rfl, hT2, hbn⟩; have hT1b := At.keep hT1 hbn)
   | (go_at_call 26; refine (rsame_t HXL.out HXR.out hT1b hT2).mono ?_; rintro e wz ⟨rfl, hbn⟩)
   | (go_at_call 52; refine (fSame_v HZ.out (HSZ.out.ok (by omega)) (HSQ.out.ok (by omega)) (HA1z.out.keep (hold30Fb (by assumption))) (HA2z.out.keep (hold30Fb (by assumption)))).mono ?_; rintro e wz ⟨rfl, hbn⟩)
   | (go_at_call 53; refine (rfsame_v (by first | exact HZ.out | exact sameF_refl _) (by first | exact (HSZ.out.ok (by omega)) | exact (HSA.out.ok (by omega)) | exact (HSS.out.ok (by omega))) (by first | exact (HSQ.out.ok (by omega)) | exact (HSA.out.ok (by omega)) | exact (HSS.out.ok (by omega))) (by first | exact (HA1z.out.keep (hold30Fb (by assumption))) | exact (HA3z.out.keep (hold30Fb (by assumption))) | exact (HA5z.out.keep (hold30Fb (by assumption)))) (by first | exact (HA2z.out.keep (hold30Fb (by assumption))) | exact (HA4z.out.keep (hold30Fb (by assumption))) | exact (HA6z.out.keep (hold30Fb (by assumption))))).mono ?_; rintro e wz ⟨rfl, hbn⟩)
   | (go_at_call 43; refine (live18_c _).mono ?_; rintro e wz ⟨rfl, hbn⟩))
 have hbz : Below w13.heap.size w13 wz := hold30Fb (by assumption)
 have HBZ := Lib.hid (S13.out.step hbz).bel
 clear hbz g0 g1 g2 g3 g4 g5 g6 g7 g8 g9 g10 g11 g12 g13 g14 g15 g16 g17 g18 g19 g20 g21 g22 g23 g24 g25 g26 g27 g28 g29 hvv hzz hbb hxx hyy
 go_wp2_with fail
 go_ret
 exact ⟨rfl, HBZ.out⟩
end floorTells
end Go.Proofs.YthhckdjagnlgpaaGreat
end

section
namespace Go.Proofs.YthhckdjagnlgpaaGreat.floorTells
open Go.ChangeShapes Go.WideShapes Go.ChangeAt Go.RowKit
theorem own : ownKnob Tryz.prog.godebug = none := by kernel_rfl
theorem laidOut : laidOutB Tryz.prog = true := by kernel_rfl
set_option maxRecDepth 100000 in
theorem lifted (os : Os) (started : os.Started) (H : Type) (enc : TypeId × Value → H) :
  ReturnsInHanded {} Tryz.checked os 10 .any (Rows.floorTellsSpec.pre6 enc Tryz.prog Tryz.f10 Rows.floorTellsRow.domain false) (Rows.floorTellsSpec.post enc Tryz.prog Tryz.f10 false true false false) := by
 refine returnsInHanded_of_change (C := Tryz.checked) own started (by kernel_rfl) Tryz.func10
  (ChangeSpec.witness6 (enc := enc) (C := Tryz.checked) false ⟨#[], #[.agg #[.slice none 0 0, .int .i64 0, .int .i64 0, .slice none 0 0, .slice none 0 0], .agg #[.slice none 0 0, .int .i64 0, .int .i64 0, .slice none 0 0, .slice none 0 0], .agg #[.int .i64 0, .int .i64 0, .int .i64 0, .int .i64 0, .string ByteArray.empty, .float .f64 0]], []⟩ 8 (by kernel_rfl) (by kernel_rfl) (by kernel_rfl) (by kernel_rfl)) ?_
 intro W base args ds gs before hval0 hW hcnd _
 have hval : ∀ (j : Nat) t v, Tryz.f10.params[j]? = some t → args[j]? = some v → Value.okWide Tryz.prog W .any base t v := hval0
 have hW' := hW
 obtain ⟨p, q, hA0, hV, rfl, hfz, hnd⟩ := hW
 have hA : DataW.TrodAll enc Tryz.prog W 0 (fun _ => true) true Tryz.f10.params.toList args.toList ds p := hA0
 rw [Tryz.params10] at hA hval
 obtain ⟨v0, vs0, d0, ds0, p0, q0, hargs, rfl, rfl, h0, r0⟩ := trodAll_cons hA
 obtain ⟨v1, vs1, d1, ds1, p1, q1, rfl, rfl, rfl, h1, r1⟩ := trodAll_cons r0
 obtain ⟨v2, vs2, d2, ds2, p2, q2, rfl, rfl, rfl, h2, r2⟩ := trodAll_cons r1
 obtain ⟨rfl, rfl, rfl⟩ := trodAll_nil r2
 obtain rfl : args = #[v0, v1, v2] := by cases args; simp_all
 obtain ⟨rfl, rfl⟩ := trodVars_none hV
 have lt0 : ∀ x ∈ p0, x.block < W.heap.size := by obtain ⟨m, hm⟩ := h0; exact DataW.trod_lt m _ _ _ hm
 have lt1 : ∀ x ∈ p1, x.block < W.heap.size := by obtain ⟨m, hm⟩ := h1; exact DataW.trod_lt m _ _ _ hm
 have lt2 : ∀ x ∈ p2, x.block < W.heap.size := by obtain ⟨m, hm⟩ := h2; exact DataW.trod_lt m _ _ _ hm
 obtain ⟨P0, R0, rfl, l0, c0, z0, w0, x0⟩ := replica_in (hval 0 55 v0 rfl rfl) h0
 obtain ⟨P1, R1, rfl, l1, c1, z1, w1, x1⟩ := replica_in (hval 1 55 v1 rfl rfl) h1
 obtain ⟨m2, rfl, y2, z2⟩ := move_in (hval 2 57 v2 rfl rfl) h2
 clear hA0 hval0
 refine (walk P0 R0 l0 z0 w0 x0 P1 R1 z1 w1 x1 m2 ⟨y2, z2⟩ W c0 c1).mono fun e W' ⟨he, bel⟩ => ?_
 subst he
 exact ⟨_, rfl, _, _, _, [], _, [], hW', trodAll_mk1 (shut_bool Tryz.underlying4 _), (trodAll_cons_mk (Below.trod laidOut (by kernel_rfl) (of_decide_eq_true (by kernel_rfl)) h0 bel lt0) (trodAll_cons_mk (Below.trod laidOut (by kernel_rfl) (of_decide_eq_true (by kernel_rfl)) h1 bel lt1) (trodAll_cons_mk (Below.trod laidOut (by kernel_rfl) (of_decide_eq_true (by kernel_rfl)) h2 bel lt2) trodAll_mk0))), rfl, bel.frame _, fun h => by cases h⟩
theorem over : Rows.floorTellsRow.holds Tryz.pinned (OpenSpec.ofChange Rows.floorTellsSpec) :=
 OpenClaim.holds_of_wide 10 Tryz.f10 rfl rfl rfl rfl rfl rfl rfl ⟨rfl, rfl, rfl, rfl, rfl⟩ rfl rfl rfl rfl rfl (by kernel_rfl) Tryz.func10 (by kernel_rfl)
  (of_decide_eq_true (by kernel_rfl)) (by unfold Func.isWrapper; first | (rw [if_pos (by decide +kernel)]; kernel_rfl) | (rw [if_neg (by decide +kernel)]; exact ⟨rfl, rfl⟩))
  (fun os started H enc _ => lifted os started H enc)
theorem proved : Rows.FloorTellsSaid := over
#print axioms proved
end Go.Proofs.YthhckdjagnlgpaaGreat.floorTells
end
