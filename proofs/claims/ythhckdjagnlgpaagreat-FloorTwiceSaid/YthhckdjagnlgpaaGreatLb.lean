/-
  The walk of FloorTwice.
  A replica of the program that is settled at one time, and then at another one: for all replicas and all times, without condition (beyond the statement's bounds it asks nothing but the document's examples).
-/
import Derived.Test.YthhckdjagnlgpaaGreatWu
import Derived.Test.YthhckdjagnlgpaaGreatVy
import Derived.ProofKit
import Derived.OpenShut
import Derived.ShutString
import Derived.ChangeOld
section
namespace Go.Proofs.YthhckdjagnlgpaaGreat
open Go.RowKit Go.IntWalk
open Gr
set_option maxRecDepth 100000
attribute [local go_sem] Oper.semAt_some
namespace floorTwice
set_option maxHeartbeats 16000000 in
theorem walk (p : Pl) (r : Rp) (pl : RpPl p r) (hlen : r.B.length ≤ maxLen ∧ r.L.length ≤ maxLen ∧ r.V.length ≤ maxLen) (rb : Rows_ r.B) (rl : Moves_ r.L) (c q d s : Int) (w : World) (ha : RpAt p r w) :
  Calls Tryz.prog 15 #[.agg #[.slice p.A1 r.B.length p.c1, .int .i64 r.fc, .int .i64 r.fr, .slice p.A2 r.L.length p.c2, .slice p.A3 r.V.length p.c3], .agg #[.int .i64 c, .int .i64 q], .agg #[.int .i64 d, .int .i64 s]] w fun e w' => e = .returned (.bool true) ∧ Below w.heap.size w w' := by
 have S0 := Lib.hid ((Bed.start w).addP (p := p) (r := r) ha)
 obtain ⟨b0, hw⟩ : ∃ b0, b0 = w.alloc (.cells #[.slice p.A1 r.B.length p.c1, .int .i64 r.fc, .int .i64 r.fr, .slice p.A2 r.L.length p.c2, .slice p.A3 r.V.length p.c3] 55) := ⟨_, rfl⟩
 have hb : Below w.heap.size w b0 := by rw [hw]; exact (Below.refl _ _).alloc (Nat.le_refl _) _
 have hz0 : w.heap.size = w.heap.size := by rfl
 have S1 := Lib.hid ((S0.out.step hb).addB (g := w.heap.size) (t := 55) (vs := [.slice p.A1 r.B.length p.c1, .int .i64 r.fc, .int .i64 r.fr, .slice p.A2 r.L.length p.c2, .slice p.A3 r.V.length p.c3]) (by rw [hw, ← hz0]; exact is_new w 55 _))
 have HWb0 := Lib.hid hw
 clear hw hb
 obtain ⟨b1, hw⟩ : ∃ b1, b1 = b0.alloc (.cells #[.int .i64 c, .int .i64 q] 51) := ⟨_, rfl⟩
 have hb : Below b0.heap.size b0 b1 := by rw [hw]; exact (Below.refl _ _).alloc (Nat.le_refl _) _
 have hz1 : b0.heap.size = w.heap.size + 1 := by rw [HWb0.out, World.size_alloc, hz0]
 have S2 := Lib.hid ((S1.out.step hb).addB (g := w.heap.size + 1) (t := 51) (vs := [.int .i64 c, .int .i64 q]) (by rw [hw, ← hz1]; exact is_new b0 51 _))
 have HWb1 := Lib.hid hw
 clear hw hb
 obtain ⟨b2, hw⟩ : ∃ b2, b2 = b1.alloc (.cells #[.int .i64 d, .int .i64 s] 51) := ⟨_, rfl⟩
 have hb : Below b1.heap.size b1 b2 := by rw [hw]; exact (Below.refl _ _).alloc (Nat.le_refl _) _
 have hz2 : b1.heap.size = w.heap.size + 1 + 1 := by rw [HWb1.out, World.size_alloc, hz1]
 have S3 := Lib.hid ((S2.out.step hb).addB (g := w.heap.size + 1 + 1) (t := 51) (vs := [.int .i64 d, .int .i64 s]) (by rw [hw, ← hz2]; exact is_new b1 51 _))
 have HWb2 := Lib.hid hw
 clear hw hb
 clear hz0 hz1 hz2
 have PLr := Lib.hid pl
 have HLEN := Lib.hid hlen
 have HRB := Lib.hid rb
 have HRL := Lib.hid rl
 clear pl hlen rb rl ha
 obtain ⟨f, hf⟩ : ∃ b, fewF r = b := ⟨_, rfl⟩
 have Hf := Lib.hid hf
 clear hf
 have hx := (S3.out.box (.tail _ (.tail _ (.head _))))
 rw [HWb2.out, HWb1.out, HWb0.out] at hx
 obtain ⟨⟨q0, q1, q2, q3, q4⟩, -⟩ := cells5 hx
 clear hx
 go_enter Tryz.func15, Tryz.ntmps15
 go_wp2_with fail
 rw [← HWb0.out, ← HWb1.out, ← HWb2.out]
 refine (rffew_v Hf.out HLEN.out (S3.out.rep (.tail _ (.tail _ (.tail _ (.head _)))))).mono ?_
 rintro e w4 ⟨rfl, hb⟩
 have S4 := Lib.hid (S3.out.step hb)
 clear q0 q1 q2 q3 q4
 clear hb
 cases f with
 | false =>
  go_wp2_with fail
  refine (live18_c _).mono ?_
  rintro e w5 ⟨rfl, hb⟩
  have S5 := Lib.hid (S4.out.step hb)
  clear hb
  go_wp2_with fail
  go_ret
  exact ⟨rfl, S5.out.bel⟩
 | true =>
 have HSZ := Lib.hid (sz_few Hf.out HRB.out HRL.out)
 obtain ⟨g, hg⟩ : ∃ b, mayF r = b := ⟨_, rfl⟩
 have Hg := Lib.hid hg
 clear hg
 have hx := (S4.out.box (.tail _ (.tail _ (.head _))))
 obtain ⟨⟨q0, q1, q2, q3, q4⟩, -⟩ := cells5 hx
 clear hx
 go_wp2_with fail
 refine (rfmay_v Hg.out (HSZ.out.ok (by omega)) (S4.out.rep (.tail _ (.tail _ (.tail _ (.head _)))))).mono ?_
 rintro e w5 ⟨rfl, hb⟩
 have S5 := Lib.hid (S4.out.step hb)
 clear q0 q1 q2 q3 q4
 clear hb
 cases g with
 | false =>
  go_wp2_with fail
  refine (live18_c _).mono ?_
  rintro e w6 ⟨rfl, hb⟩
  have S6 := Lib.hid (S5.out.step hb)
  clear hb
  go_wp2_with fail
  go_ret
  exact ⟨rfl, S6.out.bel⟩
 | true =>
 have HMR := Lib.hid (mayR_iff.1 Hg.out)
 have hall := HSZ.out.all (by omega)
 obtain ⟨o, ho⟩ : ∃ o, pruneF r c q = o := ⟨_, rfl⟩
 obtain ⟨a, x⟩ := o
 obtain ⟨o, ho2⟩ : ∃ o, pruneF a d s = o := ⟨_, rfl⟩
 obtain ⟨b, y⟩ := o
 obtain ⟨o, ho3⟩ : ∃ o, pruneF r d s = o := ⟨_, rfl⟩
 obtain ⟨t, z⟩ := o
 have HA := Lib.hid ho
 have HB := Lib.hid ho2
 have HC := Lib.hid ho3
 have HSA := Lib.hid (show Sz a 120 by have := sz_prune HSZ.out c q; rw [ho] at this; exact this)
 have HSB := Lib.hid (show Sz b 120 by have := sz_prune HSA.out d s; rw [ho2] at this; exact this)
 have HSC := Lib.hid (show Sz t 120 by have := sz_prune HSZ.out d s; rw [ho3] at this; exact this)
 have HYZ := Lib.hid (twice_code HMR.out hall ho ho2 ho3)
 have HWY := Lib.hid (twice_ways HMR.out hall ho ho2 ho3)
 clear ho ho2 ho3 hall
 have hx := (S5.out.box (.tail _ (.tail _ (.head _))))
 obtain ⟨⟨q0, q1, q2, q3, q4⟩, -⟩ := cells5 hx
 clear hx
 have hx := (S5.out.box (.tail _ (.head _)))
 obtain ⟨t0, t1⟩ := box2 hx
 clear hx
 go_wp2_with fail
 refine (fPrune_v (r2 := a) HA.out (HSZ.out.ok (by omega)) PLr.out (S5.out.rep (.tail _ (.tail _ (.tail _ (.head _)))))).mono ?_
 rintro e w6 ⟨p2, rfl, hg, hb⟩
 have S6 := Lib.hid ((S5.out.step hb).addP (p := p2) (r := a) hg.at_)
 have PLp2 := Lib.hid hg.pl
 clear q0 q1 q2 q3 q4 t0 t1
 clear hb hg
 obtain ⟨w7, hw⟩ : ∃ w7, w7 = w6.alloc (.cells #[.slice p2.A1 a.B.length p2.c1, .int .i64 a.fc, .int .i64 a.fr, .slice p2.A2 a.L.length p2.c2, .slice p2.A3 a.V.length p2.c3] 55) := ⟨_, rfl⟩
 have hb : Below w6.heap.size w6 w7 := by rw [hw]; exact (Below.refl _ _).alloc (Nat.le_refl _) _
 have S7 := Lib.hid ((S6.out.step hb).addB (g := w6.heap.size) (t := 55) (vs := [.slice p2.A1 a.B.length p2.c1, .int .i64 a.fc, .int .i64 a.fr, .slice p2.A2 a.L.length p2.c2, .slice p2.A3 a.V.length p2.c3]) (by rw [hw]; exact is_new w6 55 _))
 have HW7 := Lib.hid hw
 clear hw hb
 have hx := (S7.out.box (.head _))
 rw [HW7.out] at hx
 obtain ⟨⟨q0, q1, q2, q3, q4⟩, -⟩ := cells5 hx
 clear hx
 have hx := (S7.out.box (.tail _ (.tail _ (.head _))))
 rw [HW7.out] at hx
 obtain ⟨t0, t1⟩ := box2 hx
 clear hx
 go_wp2_with fail
 rw [← HW7.out]
 refine (fPrune_v (r2 := b) HB.out (HSA.out.ok (by omega)) PLp2.out (S7.out.rep (.tail _ (.head _)))).mono ?_
 rintro e w8 ⟨p3, rfl, hg, hb⟩
 have S8 := Lib.hid ((S7.out.step hb).addP (p := p3) (r := b) hg.at_)
 have PLp3 := Lib.hid hg.pl
 clear q0 q1 q2 q3 q4 t0 t1
 clear hb hg
 obtain ⟨w9, hw⟩ : ∃ w9, w9 = w8.alloc (.cells #[.slice p3.A1 b.B.length p3.c1, .int .i64 b.fc, .int .i64 b.fr, .slice p3.A2 b.L.length p3.c2, .slice p3.A3 b.V.length p3.c3] 55) := ⟨_, rfl⟩
 have hb : Below w8.heap.size w8 w9 := by rw [hw]; exact (Below.refl _ _).alloc (Nat.le_refl _) _
 have S9 := Lib.hid ((S8.out.step hb).addB (g := w8.heap.size) (t := 55) (vs := [.slice p3.A1 b.B.length p3.c1, .int .i64 b.fc, .int .i64 b.fr, .slice p3.A2 b.L.length p3.c2, .slice p3.A3 b.V.length p3.c3]) (by rw [hw]; exact is_new w8 55 _))
 have HW9 := Lib.hid hw
 clear hw hb
 have hx := (S9.out.box (.tail _ (.tail _ (.tail _ (.tail _ (.tail _ (.tail _ (.head _))))))))
 rw [HW9.out] at hx
 obtain ⟨⟨q0, q1, q2, q3, q4⟩, -⟩ := cells5 hx
 clear hx
 have hx := (S9.out.box (.tail _ (.tail _ (.tail _ (.tail _ (.head _))))))
 rw [HW9.out] at hx
 obtain ⟨t0, t1⟩ := box2 hx
 clear hx
 go_wp2_with fail
 rw [← HW9.out]
 refine (fPrune_v (r2 := t) HC.out (HSZ.out.ok (by omega)) PLr.out (S9.out.rep (.tail _ (.tail _ (.tail _ (.tail _ (.tail _ (.tail _ (.tail _ (.head _)))))))))).mono ?_
 rintro e w10 ⟨p4, rfl, hg, hb⟩
 have S10 := Lib.hid ((S9.out.step hb).addP (p := p4) (r := t) hg.at_)
 have PLp4 := Lib.hid hg.pl
 clear q0 q1 q2 q3 q4 t0 t1
 clear hb hg
 obtain ⟨w11, hw⟩ : ∃ w11, w11 = w10.alloc (.cells #[.slice p4.A1 t.B.length p4.c1, .int .i64 t.fc, .int .i64 t.fr, .slice p4.A2 t.L.length p4.c2, .slice p4.A3 t.V.length p4.c3] 55) := ⟨_, rfl⟩
 have hb : Below w10.heap.size w10 w11 := by rw [hw]; exact (Below.refl _ _).alloc (Nat.le_refl _) _
 have S11 := Lib.hid ((S10.out.step hb).addB (g := w10.heap.size) (t := 55) (vs := [.slice p4.A1 t.B.length p4.c1, .int .i64 t.fc, .int .i64 t.fr, .slice p4.A2 t.L.length p4.c2, .slice p4.A3 t.V.length p4.c3]) (by rw [hw]; exact is_new w10 55 _))
 have HW11 := Lib.hid hw
 clear hw hb
 have hyz := HYZ.out
 subst hyz
 by_cases hx : x = 0
 case neg =>
  have hx1 : (x == 0) = false := by simpa using hx
  have hx2 : (x != 0) = true := by simpa using hx
  have hx3 : decide (x = 0) = false := decide_eq_false hx
  go_wp2_with fail
  rw [← HW11.out]
  refine (live18_c _).mono ?_
  rintro e w12 ⟨rfl, hb⟩
  have S12 := Lib.hid (S11.out.step hb)
  clear hb
  go_wp2_with fail
  go_ret
  exact ⟨rfl, S12.out.bel⟩
 subst hx
 by_cases hy : y = 0
 case neg =>
  have hy1 : (y == 0) = false := by simpa using hy
  have hy2 : (y != 0) = true := by simpa using hy
  have hy3 : decide (y = 0) = false := decide_eq_false hy
  go_wp2_with fail
  rw [← HW11.out]
  refine (live18_c _).mono ?_
  rintro e w12 ⟨rfl, hb⟩
  have S12 := Lib.hid (S11.out.step hb)
  clear hb
  go_wp2_with fail
  go_ret
  exact ⟨rfl, S12.out.bel⟩
 subst hy
 have hway := HWY.out rfl rfl
 have HAG := Lib.hid hway.1
 have HLT := Lib.hid hway.2.1
 have HGE := Lib.hid hway.2.2
 clear hway HWY HYZ
 have hx := (S11.out.box (.tail _ (.tail _ (.head _))))
 rw [HW11.out] at hx
 obtain ⟨⟨q0, q1, q2, q3, q4⟩, -⟩ := cells5 hx
 clear hx
 have hx := (S11.out.box (.tail _ (.tail _ (.tail _ (.tail _ (.tail _ (.tail _ (.head _))))))))
 rw [HW11.out] at hx
 obtain ⟨t0, t1⟩ := box2 hx
 clear hx
 go_wp2_with fail
 rw [← HW11.out]
 refine (fPrune_v (r2 := b) HAG.out (HSB.out.ok (by omega)) PLp3.out (S11.out.rep (.tail _ (.tail _ (.tail _ (.head _)))))).mono ?_
 rintro e w12 ⟨p5, rfl, hg, hb⟩
 have S12 := Lib.hid ((S11.out.step hb).addP (p := p5) (r := b) hg.at_)
 have PLp5 := Lib.hid hg.pl
 clear q0 q1 q2 q3 q4 t0 t1
 clear hb hg
 obtain ⟨w13, hw⟩ : ∃ w13, w13 = w12.alloc (.cells #[.slice p5.A1 b.B.length p5.c1, .int .i64 b.fc, .int .i64 b.fr, .slice p5.A2 b.L.length p5.c2, .slice p5.A3 b.V.length p5.c3] 55) := ⟨_, rfl⟩
 have hb : Below w12.heap.size w12 w13 := by rw [hw]; exact (Below.refl _ _).alloc (Nat.le_refl _) _
 have S13 := Lib.hid ((S12.out.step hb).addB (g := w12.heap.size) (t := 55) (vs := [.slice p5.A1 b.B.length p5.c1, .int .i64 b.fc, .int .i64 b.fr, .slice p5.A2 b.L.length p5.c2, .slice p5.A3 b.V.length p5.c3]) (by rw [hw]; exact is_new w12 55 _))
 have HW13 := Lib.hid hw
 clear hw hb
 have hx := (S13.out.box (.head _))
 rw [HW13.out] at hx
 obtain ⟨⟨q0, q1, q2, q3, q4⟩, -⟩ := cells5 hx
 clear hx
 have hx := (S13.out.box (.tail _ (.tail _ (.tail _ (.tail _ (.head _))))))
 rw [HW13.out] at hx
 obtain ⟨⟨z0, z1, z2, z3, z4⟩, -⟩ := cells5 hx
 clear hx
 go_wp2_with fail
 rw [← HW13.out]
 refine (rfsame_v (sameF_refl b) (HSB.out.ok (by omega)) (HSB.out.ok (by omega)) (S13.out.rep (.tail _ (.head _))) (S13.out.rep (.tail _ (.tail _ (.tail _ (.tail _ (.tail _ (.head _)))))))).mono ?_
 rintro e w14 ⟨rfl, hb⟩
 have S14 := Lib.hid (S13.out.step hb)
 clear q0 q1 q2 q3 q4 z0 z1 z2 z3 z4
 clear hb
 have hx := (S14.out.box (.tail _ (.tail _ (.tail _ (.tail _ (.tail _ (.tail _ (.tail _ (.tail _ (.tail _ (.head _)))))))))))
 obtain ⟨t0, t1⟩ := box2 hx
 clear hx
 have hx := (S14.out.box (.tail _ (.tail _ (.tail _ (.tail _ (.tail _ (.tail _ (.tail _ (.tail _ (.head _))))))))))
 obtain ⟨u0, u1⟩ := box2 hx
 clear hx
 obtain ⟨v, hv⟩ : ∃ v, befT c q d s = v := ⟨_, rfl⟩
 have HV := Lib.hid hv
 clear hv
 go_wp2_with fail
 refine (rbef_k HV.out _).mono ?_
 rintro e w15 ⟨rfl, hb⟩
 have S15 := Lib.hid (S14.out.step hb)
 clear t0 t1 u0 u1
 clear hb
 cases v with
 | true =>
  have HE := Lib.hid (HLT.out HV.out)
  have hx := (S15.out.box (.tail _ (.tail _ (.tail _ (.tail _ (.head _))))))
  obtain ⟨⟨q0, q1, q2, q3, q4⟩, -⟩ := cells5 hx
  clear hx
  have hx := (S15.out.box (.tail _ (.tail _ (.head _))))
  obtain ⟨⟨z0, z1, z2, z3, z4⟩, -⟩ := cells5 hx
  clear hx
  go_wp2_with fail
  refine (rfsame_v (r1 := b) (r2 := t) (b := true) (by rw [HE.out]; exact sameF_refl _) (HSB.out.ok (by omega)) (HSC.out.ok (by omega)) (S15.out.rep (.tail _ (.tail _ (.tail _ (.tail _ (.tail _ (.head _))))))) (S15.out.rep (.tail _ (.tail _ (.tail _ (.head _)))))).mono ?_
  rintro e w16 ⟨rfl, hb⟩
  have S16 := Lib.hid (S15.out.step hb)
  clear q0 q1 q2 q3 q4 z0 z1 z2 z3 z4
  clear hb
  go_wp2_with fail
  refine (live18_c _).mono ?_
  rintro e w17 ⟨rfl, hb⟩
  have S17 := Lib.hid (S16.out.step hb)
  clear hb
  go_wp2_with fail
  go_ret
  exact ⟨rfl, S17.out.bel⟩
 | false =>
  obtain ⟨hba, hbk⟩ := HGE.out HV.out
  have HBA := Lib.hid hba
  have HBK := Lib.hid hbk
  clear hba hbk
  have hx := (S15.out.box (.tail _ (.tail _ (.head _))))
  obtain ⟨⟨q0, q1, q2, q3, q4⟩, -⟩ := cells5 hx
  clear hx
  have hx := (S15.out.box (.tail _ (.tail _ (.tail _ (.tail _ (.tail _ (.tail _ (.tail _ (.tail _ (.tail _ (.head _)))))))))))
  obtain ⟨t0, t1⟩ := box2 hx
  clear hx
  go_wp2_with fail
  refine (fPrune_v (r2 := a) HBK.out (HSC.out.ok (by omega)) PLp4.out (S15.out.rep (.tail _ (.tail _ (.tail _ (.head _)))))).mono ?_
  rintro e w16 ⟨p6, rfl, hg, hb⟩
  have S16 := Lib.hid ((S15.out.step hb).addP (p := p6) (r := a) hg.at_)
  have PLp6 := Lib.hid hg.pl
  clear q0 q1 q2 q3 q4 t0 t1
  clear hb hg
  obtain ⟨w17, hw⟩ : ∃ w17, w17 = w16.alloc (.cells #[.slice p6.A1 a.B.length p6.c1, .int .i64 a.fc, .int .i64 a.fr, .slice p6.A2 a.L.length p6.c2, .slice p6.A3 a.V.length p6.c3] 55) := ⟨_, rfl⟩
  have hb : Below w16.heap.size w16 w17 := by rw [hw]; exact (Below.refl _ _).alloc (Nat.le_refl _) _
  have S17 := Lib.hid ((S16.out.step hb).addB (g := w16.heap.size) (t := 55) (vs := [.slice p6.A1 a.B.length p6.c1, .int .i64 a.fc, .int .i64 a.fr, .slice p6.A2 a.L.length p6.c2, .slice p6.A3 a.V.length p6.c3]) (by rw [hw]; exact is_new w16 55 _))
  have HW17 := Lib.hid hw
  clear hw hb
  have hx := (S17.out.box (.tail _ (.tail _ (.tail _ (.tail _ (.tail _ (.tail _ (.head _))))))))
  rw [HW17.out] at hx
  obtain ⟨⟨q0, q1, q2, q3, q4⟩, -⟩ := cells5 hx
  clear hx
  have hx := (S17.out.box (.tail _ (.tail _ (.tail _ (.tail _ (.tail _ (.tail _ (.tail _ (.tail _ (.head _))))))))))
  rw [HW17.out] at hx
  obtain ⟨⟨z0, z1, z2, z3, z4⟩, -⟩ := cells5 hx
  clear hx
  go_wp2_with fail
  rw [← HW17.out]
  refine (rfsame_v (r1 := b) (r2 := a) (b := true) (by rw [HBA.out]; exact sameF_refl _) (HSB.out.ok (by omega)) (HSA.out.ok (by omega)) (S17.out.rep (.tail _ (.tail _ (.tail _ (.tail _ (.tail _ (.tail _ (.tail _ (.head _))))))))) (S17.out.rep (.tail _ (.tail _ (.tail _ (.tail _ (.tail _ (.tail _ (.tail _ (.tail _ (.tail _ (.head _)))))))))))).mono ?_
  rintro e w18 ⟨rfl, hb⟩
  have S18 := Lib.hid (S17.out.step hb)
  clear q0 q1 q2 q3 q4 z0 z1 z2 z3 z4
  clear hb
  have hx := (S18.out.box (.head _))
  obtain ⟨⟨q0, q1, q2, q3, q4⟩, -⟩ := cells5 hx
  clear hx
  have hx := (S18.out.box (.tail _ (.tail _ (.tail _ (.tail _ (.tail _ (.tail _ (.tail _ (.tail _ (.head _))))))))))
  obtain ⟨⟨z0, z1, z2, z3, z4⟩, -⟩ := cells5 hx
  clear hx
  go_wp2_with fail
  refine (rfsame_v (sameF_refl a) (HSA.out.ok (by omega)) (HSA.out.ok (by omega)) (S18.out.rep (.tail _ (.head _))) (S18.out.rep (.tail _ (.tail _ (.tail _ (.tail _ (.tail _ (.tail _ (.tail _ (.tail _ (.tail _ (.head _)))))))))))).mono ?_
  rintro e w19 ⟨rfl, hb⟩
  have S19 := Lib.hid (S18.out.step hb)
  clear q0 q1 q2 q3 q4 z0 z1 z2 z3 z4
  clear hb
  go_wp2_with fail
  refine (live18_c _).mono ?_
  rintro e w20 ⟨rfl, hb⟩
  have S20 := Lib.hid (S19.out.step hb)
  clear hb
  go_wp2_with fail
  go_ret
  exact ⟨rfl, S20.out.bel⟩
end floorTwice
end Go.Proofs.YthhckdjagnlgpaaGreat
end

section
namespace Go.Proofs.YthhckdjagnlgpaaGreat.floorTwice
open Go.ChangeShapes Go.WideShapes Go.ChangeAt Go.RowKit
theorem own : ownKnob Tryz.prog.godebug = none := by kernel_rfl
theorem laidOut : laidOutB Tryz.prog = true := by kernel_rfl
set_option maxRecDepth 100000 in
theorem lifted (os : Os) (started : os.Started) (H : Type) (enc : TypeId × Value → H) :
  ReturnsInHanded {} Tryz.checked os 15 .any (Rows.floorTwiceSpec.pre6 enc Tryz.prog Tryz.f15 Rows.floorTwiceRow.domain false) (Rows.floorTwiceSpec.post enc Tryz.prog Tryz.f15 false true false false) := by
 refine returnsInHanded_of_change (C := Tryz.checked) own started (by kernel_rfl) Tryz.func15
  (ChangeSpec.witness6 (enc := enc) (C := Tryz.checked) false ⟨#[], #[.agg #[.slice none 0 0, .int .i64 0, .int .i64 0, .slice none 0 0, .slice none 0 0], .agg #[.int .i64 0, .int .i64 0], .agg #[.int .i64 0, .int .i64 0]], []⟩ 8 (by kernel_rfl) (by kernel_rfl) (by kernel_rfl) (by kernel_rfl)) ?_
 intro W base args ds gs before hval0 hW hcnd _
 have hval : ∀ (j : Nat) t v, Tryz.f15.params[j]? = some t → args[j]? = some v → Value.okWide Tryz.prog W .any base t v := hval0
 have hW' := hW
 obtain ⟨p, q, hA0, hV, rfl, hfz, hnd⟩ := hW
 have hA : DataW.TrodAll enc Tryz.prog W 0 (fun _ => true) true Tryz.f15.params.toList args.toList ds p := hA0
 rw [Tryz.params15] at hA hval
 obtain ⟨v0, vs0, d0, ds0, p0, q0, hargs, rfl, rfl, h0, r0⟩ := trodAll_cons hA
 obtain ⟨v1, vs1, d1, ds1, p1, q1, rfl, rfl, rfl, h1, r1⟩ := trodAll_cons r0
 obtain ⟨v2, vs2, d2, ds2, p2, q2, rfl, rfl, rfl, h2, r2⟩ := trodAll_cons r1
 obtain ⟨rfl, rfl, rfl⟩ := trodAll_nil r2
 obtain rfl : args = #[v0, v1, v2] := by cases args; simp_all
 obtain ⟨rfl, rfl⟩ := trodVars_none hV
 have lt0 : ∀ x ∈ p0, x.block < W.heap.size := by obtain ⟨m, hm⟩ := h0; exact DataW.trod_lt m _ _ _ hm
 have lt1 : ∀ x ∈ p1, x.block < W.heap.size := by obtain ⟨m, hm⟩ := h1; exact DataW.trod_lt m _ _ _ hm
 have lt2 : ∀ x ∈ p2, x.block < W.heap.size := by obtain ⟨m, hm⟩ := h2; exact DataW.trod_lt m _ _ _ hm
 obtain ⟨P0, R0, rfl, l0, c0, z0, w0, x0⟩ := replica_in (hval 0 55 v0 rfl rfl) h0
 obtain ⟨a1, b1, rfl⟩ := time_in (hval 1 51 v1 rfl rfl) h1
 obtain ⟨a2, b2, rfl⟩ := time_in (hval 2 51 v2 rfl rfl) h2
 clear hA0 hval0
 refine (walk P0 R0 l0 z0 w0 x0 a1 b1 a2 b2 W c0).mono fun e W' ⟨he, bel⟩ => ?_
 subst he
 exact ⟨_, rfl, _, _, _, [], _, [], hW', trodAll_mk1 (shut_bool Tryz.underlying4 _), (trodAll_cons_mk (Below.trod laidOut (by kernel_rfl) (of_decide_eq_true (by kernel_rfl)) h0 bel lt0) (trodAll_cons_mk (Below.trod laidOut (by kernel_rfl) (of_decide_eq_true (by kernel_rfl)) h1 bel lt1) (trodAll_cons_mk (Below.trod laidOut (by kernel_rfl) (of_decide_eq_true (by kernel_rfl)) h2 bel lt2) trodAll_mk0))), rfl, bel.frame _, fun h => by cases h⟩
theorem over : Rows.floorTwiceRow.holds Tryz.pinned (OpenSpec.ofChange Rows.floorTwiceSpec) :=
 OpenClaim.holds_of_wide 15 Tryz.f15 rfl rfl rfl rfl rfl rfl rfl ⟨rfl, rfl, rfl, rfl, rfl⟩ rfl rfl rfl rfl rfl (by kernel_rfl) Tryz.func15 (by kernel_rfl)
  (of_decide_eq_true (by kernel_rfl)) (by unfold Func.isWrapper; first | (rw [if_pos (by decide +kernel)]; kernel_rfl) | (rw [if_neg (by decide +kernel)]; exact ⟨rfl, rfl⟩))
  (fun os started H enc _ => lifted os started H enc)
theorem proved : Rows.FloorTwiceSaid := over
#print axioms proved
end Go.Proofs.YthhckdjagnlgpaaGreat.floorTwice
end
