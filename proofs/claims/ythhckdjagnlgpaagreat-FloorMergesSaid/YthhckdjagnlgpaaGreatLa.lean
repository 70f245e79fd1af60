/-
  The walk of FloorMerges.
  Moves that come to any replica come, in the program, to what the document tells: for all replicas and all moves, without condition (beyond the statement's bounds it asks nothing but the document's examples).
-/
import Derived.Test.YthhckdjagnlgpaaGreatWu
import Derived.Test.YthhckdjagnlgpaaGreatVy
import Derived.ProofKit
import Derived.OpenShut
import Derived.ShutString
import Derived.ChangeOld
section
namespace Go.Proofs.YthhckdjagnlgpaaGreat
open Go.RowKit Go.IntWalk
open Gr
set_option maxRecDepth 100000
attribute [local go_sem] Oper.semAt_some
namespace floorMerges
set_option maxHeartbeats 16000000 in
theorem walk (p : Pl) (r : Rp) (pl : RpPl p r) (hlen : r.B.length ≤ maxLen ∧ r.L.length ≤ maxLen ∧ r.V.length ≤ maxLen) (rb : Rows_ r.B) (rl : Moves_ r.L) (A2 : Option Addr) (c2 : Nat) (l : List Mv) (hl : l.length ≤ maxLen) (lm : Moves_ l) (w : World) (ha : RpAt p r w) (hc : At w w.heap.size A2 (mvs l)) :
  Calls Tryz.prog 11 #[.agg #[.slice p.A1 r.B.length p.c1, .int .i64 r.fc, .int .i64 r.fr, .slice p.A2 r.L.length p.c2, .slice p.A3 r.V.length p.c3], .slice A2 l.length c2] w fun e w' => e = .returned (.bool true) ∧ Below w.heap.size w w' := by
 have S0 := Lib.hid (((Bed.start w).addP (p := p) (r := r) ha).addM (A := A2) (l := l) hc)
 obtain ⟨b0, hw⟩ : ∃ b0, b0 = w.alloc (.cells #[.slice p.A1 r.B.length p.c1, .int .i64 r.fc, .int .i64 r.fr, .slice p.A2 r.L.length p.c2, .slice p.A3 r.V.length p.c3] 55) := ⟨_, rfl⟩
 have hb : Below w.heap.size w b0 := by rw [hw]; exact (Below.refl _ _).alloc (Nat.le_refl _) _
 have hz0 : w.heap.size = w.heap.size := by rfl
 have S1 := Lib.hid ((S0.out.step hb).addB (g := w.heap.size) (t := 55) (vs := [.slice p.A1 r.B.length p.c1, .int .i64 r.fc, .int .i64 r.fr, .slice p.A2 r.L.length p.c2, .slice p.A3 r.V.length p.c3]) (by rw [hw, ← hz0]; exact is_new w 55 _))
 have HWb0 := Lib.hid hw
 clear hw hb
 clear hz0
 have PLr := Lib.hid pl
 have HLEN := Lib.hid hlen
 have HRB := Lib.hid rb
 have HRL := Lib.hid rl
 have HLM := Lib.hid lm
 have HL := Lib.hid hl
 clear pl hlen rb rl lm ha hc
 obtain ⟨f, hf⟩ : ∃ b, fewF r = b := ⟨_, rfl⟩
 have Hf := Lib.hid hf
 clear hf
 have hx := (S1.out.box (.head _))
 rw [HWb0.out] at hx
 obtain ⟨⟨q0, q1, q2, q3, q4⟩, -⟩ := cells5 hx
 clear hx
 obtain ⟨g, hg⟩ : ∃ b, fewM l 20 = b := ⟨_, rfl⟩
 have Hg := Lib.hid hg
 clear hg
 go_enter Tryz.func11, Tryz.ntmps11
 go_wp2_with fail
 rw [← HWb0.out]
 refine (rffew_v Hf.out HLEN.out (S1.out.rep (.tail _ (.tail _ (.head _))))).mono ?_
 rintro e w2 ⟨rfl, hb⟩
 have S2 := Lib.hid (S1.out.step hb)
 clear q0 q1 q2 q3 q4
 clear hb
 cases f with
 | false =>
  go_wp2_with fail
  refine (live18_c _).mono ?_
  rintro e w3 ⟨rfl, hb⟩
  have S3 := Lib.hid (S2.out.step hb)
  clear hb
  go_wp2_with fail
  go_ret
  exact ⟨rfl, S3.out.bel⟩
 | true =>
 go_wp2_with fail
 refine (fewM_v (n := 20) Hg.out HL.out (by decide) (S2.out.moves (.tail _ (.head _)))).mono ?_
 rintro e w3 ⟨rfl, hw⟩
 have hb : Below w2.heap.size w2 w3 := hw ▸ Below.refl _ _
 clear hw
 have S3 := Lib.hid (S2.out.step hb)
 clear hb
 cases g with
 | false =>
  go_wp2_with fail
  refine (live18_c _).mono ?_
  rintro e w4 ⟨rfl, hb⟩
  have S4 := Lib.hid (S3.out.step hb)
  clear hb
  go_wp2_with fail
  go_ret
  exact ⟨rfl, S4.out.bel⟩
 | true =>
 have hl20 := (fewM_in Hg.out).1
 have HSZ := Lib.hid (sz_few Hf.out HRB.out HRL.out)
 have hsl := HSZ.out.ll
 have hsv := HSZ.out.v
 have HS2 := Lib.hid (sz_merge HSZ.out HLM.out)
 obtain ⟨o, ho⟩ : ∃ o, mergeF r l = o := ⟨_, rfl⟩
 obtain ⟨a, x⟩ := o
 have HO := Lib.hid ho
 have HSA := Lib.hid (show Sz a (120 + l.length) by have := HS2.out; rw [ho] at this; exact this)
 clear ho HS2
 have hfl : r.L.length ≤ 60 ∧ r.V.length ≤ 60 := few_lens Hf.out
 have hx := (S3.out.box (.head _))
 obtain ⟨⟨q0, q1, q2, q3, q4⟩, -⟩ := cells5 hx
 clear hx
 go_wp2_with fail
 refine (fMerge_v (r2 := a) (HO.out) (HSZ.out.ok (by omega)) PLr.out (by omega) (by omega) (by omega) HLM.out (S3.out.rep (.tail _ (.tail _ (.head _)))) (S3.out.moves (.tail _ (.head _)))).mono ?_
 rintro e w4 ⟨p2, rfl, hg, hb⟩
 have S4 := Lib.hid ((S3.out.step hb).addP (p := p2) (r := a) hg.at_)
 have PLa := Lib.hid hg.pl
 clear q0 q1 q2 q3 q4
 clear hb hg
 obtain ⟨w5, hw⟩ : ∃ w5, w5 = w4.alloc (.cells #[.slice p2.A1 a.B.length p2.c1, .int .i64 a.fc, .int .i64 a.fr, .slice p2.A2 a.L.length p2.c2, .slice p2.A3 a.V.length p2.c3] 55) := ⟨_, rfl⟩
 have hb : Below w4.heap.size w4 w5 := by rw [hw]; exact (Below.refl _ _).alloc (Nat.le_refl _) _
 have S5 := Lib.hid ((S4.out.step hb).addB (g := w4.heap.size) (t := 55) (vs := [.slice p2.A1 a.B.length p2.c1, .int .i64 a.fc, .int .i64 a.fr, .slice p2.A2 a.L.length p2.c2, .slice p2.A3 a.V.length p2.c3]) (by rw [hw]; exact is_new w4 55 _))
 have HW5 := Lib.hid hw
 clear hw hb
 have hx := (S5.out.box (.tail _ (.tail _ (.head _))))
 rw [HW5.out] at hx
 obtain ⟨⟨q0, q1, q2, q3, q4⟩, -⟩ := cells5 hx
 clear hx
 go_wp2_with fail
 rw [← HW5.out]
 refine (rfMerge_v (r2 := a) (HO.out) (HSZ.out.ok (by omega)) PLr.out (by omega) (by omega) (by omega) HLM.out (S5.out.rep (.tail _ (.tail _ (.tail _ (.tail _ (.head _)))))) (S5.out.moves (.tail _ (.tail _ (.tail _ (.head _)))))).mono ?_
 rintro e w6 ⟨p3, rfl, hg, hb⟩
 have S6 := Lib.hid ((S5.out.step hb).addP (p := p3) (r := a) hg.at_)
 clear q0 q1 q2 q3 q4
 clear hb hg
 obtain ⟨w7, hw⟩ : ∃ w7, w7 = w6.alloc (.cells #[.slice p3.A1 a.B.length p3.c1, .int .i64 a.fc, .int .i64 a.fr, .slice p3.A2 a.L.length p3.c2, .slice p3.A3 a.V.length p3.c3] 55) := ⟨_, rfl⟩
 have hb : Below w6.heap.size w6 w7 := by rw [hw]; exact (Below.refl _ _).alloc (Nat.le_refl _) _
 have S7 := Lib.hid ((S6.out.step hb).addB (g := w6.heap.size) (t := 55) (vs := [.slice p3.A1 a.B.length p3.c1, .int .i64 a.fc, .int .i64 a.fr, .slice p3.A2 a.L.length p3.c2, .slice p3.A3 a.V.length p3.c3]) (by rw [hw]; exact is_new w6 55 _))
 have HW7 := Lib.hid hw
 clear hw hb
 have hx := (S7.out.box (.tail _ (.tail _ (.head _))))
 rw [HW7.out] at hx
 obtain ⟨⟨q0, q1, q2, q3, q4⟩, -⟩ := cells5 hx
 clear hx
 have hx := (S7.out.box (.head _))
 rw [HW7.out] at hx
 obtain ⟨⟨z0, z1, z2, z3, z4⟩, -⟩ := cells5 hx
 clear hx
 go_wp2_with fail
 rw [← HW7.out]
 refine (rfsame_v (sameF_refl a) (HSA.out.ok (by omega)) (HSA.out.ok (by omega)) (S7.out.rep (.tail _ (.tail _ (.tail _ (.head _))))) (S7.out.rep (.tail _ (.head _)))).mono ?_
 rintro e w8 ⟨rfl, hb⟩
 have S8 := Lib.hid (S7.out.step hb)
 clear q0 q1 q2 q3 q4 z0 z1 z2 z3 z4
 clear hb
 go_wp2_with fail
 refine (live18_c _).mono ?_
 rintro e w9 ⟨rfl, hb⟩
 have S9 := Lib.hid (S8.out.step hb)
 clear hb
 go_wp2_with fail
 go_ret
 exact ⟨rfl, S9.out.bel⟩
end floorMerges
end Go.Proofs.YthhckdjagnlgpaaGreat
end

section
namespace Go.Proofs.YthhckdjagnlgpaaGreat.floorMerges
open Go.ChangeShapes Go.WideShapes Go.ChangeAt Go.RowKit
theorem own : ownKnob Tryz.prog.godebug = none := by kernel_rfl
theorem laidOut : laidOutB Tryz.prog = true := by kernel_rfl
set_option maxRecDepth 100000 in
theorem lifted (os : Os) (started : os.Started) (H : Type) (enc : TypeId × Value → H) :
  ReturnsInHanded {} Tryz.checked os 11 .any (Rows.floorMergesSpec.pre6 enc Tryz.prog Tryz.f11 Rows.floorMergesRow.domain false) (Rows.floorMergesSpec.post enc Tryz.prog Tryz.f11 false true false false) := by
 refine returnsInHanded_of_change (C := Tryz.checked) own started (by kernel_rfl) Tryz.func11
  (ChangeSpec.witness6 (enc := enc) (C := Tryz.checked) false ⟨#[], #[.agg #[.slice none 0 0, .int .i64 0, .int .i64 0, .slice none 0 0, .slice none 0 0], .slice none 0 0], []⟩ 8 (by kernel_rfl) (by kernel_rfl) (by kernel_rfl) (by kernel_rfl)) ?_
 intro W base args ds gs before hval0 hW hcnd _
 have hval : ∀ (j : Nat) t v, Tryz.f11.params[j]? = some t → args[j]? = some v → Value.okWide Tryz.prog W .any base t v := hval0
 have hW' := hW
 obtain ⟨p, q, hA0, hV, rfl, hfz, hnd⟩ := hW
 have hA : DataW.TrodAll enc Tryz.prog W 0 (fun _ => true) true Tryz.f11.params.toList args.toList ds p := hA0
 rw [Tryz.params11] at hA hval
 obtain ⟨v0, vs0, d0, ds0, p0, q0, hargs, rfl, rfl, h0, r0⟩ := trodAll_cons hA
 obtain ⟨v1, vs1, d1, ds1, p1, q1, rfl, rfl, rfl, h1, r1⟩ := trodAll_cons r0
 obtain ⟨rfl, rfl, rfl⟩ := trodAll_nil r1
 obtain rfl : args = #[v0, v1] := by cases args; simp_all
 obtain ⟨rfl, rfl⟩ := trodVars_none hV
 have lt0 : ∀ x ∈ p0, x.block < W.heap.size := by obtain ⟨m, hm⟩ := h0; exact DataW.trod_lt m _ _ _ hm
 have lt1 : ∀ x ∈ p1, x.block < W.heap.size := by obtain ⟨m, hm⟩ := h1; exact DataW.trod_lt m _ _ _ hm
 obtain ⟨P0, R0, rfl, l0, c0, z0, w0, x0⟩ := replica_in (hval 0 55 v0 rfl rfl) h0
 obtain ⟨A1, cap1, xs1, rfl, n1, k1, z1, c1, w1⟩ := moves_in (hval 1 52 v1 rfl rfl) h1
 clear hA0 hval0
 refine (walk P0 R0 l0 z0 w0 x0 A1 cap1 xs1 z1 w1 W c0 c1).mono fun e W' ⟨he, bel⟩ => ?_
 subst he
 exact ⟨_, rfl, _, _, _, [], _, [], hW', trodAll_mk1 (shut_bool Tryz.underlying4 _), (trodAll_cons_mk (Below.trod laidOut (by kernel_rfl) (of_decide_eq_true (by kernel_rfl)) h0 bel lt0) (trodAll_cons_mk (Below.trod laidOut (by kernel_rfl) (of_decide_eq_true (by kernel_rfl)) h1 bel lt1) trodAll_mk0)), rfl, bel.frame _, fun h => by cases h⟩
theorem over : Rows.floorMergesRow.holds Tryz.pinned (OpenSpec.ofChange Rows.floorMergesSpec) :=
 OpenClaim.holds_of_wide 11 Tryz.f11 rfl rfl rfl rfl rfl rfl rfl ⟨rfl, rfl, rfl, rfl, rfl⟩ rfl rfl rfl rfl rfl (by kernel_rfl) Tryz.func11 (by kernel_rfl)
  (of_decide_eq_true (by kernel_rfl)) (by unfold Func.isWrapper; first | (rw [if_pos (by decide +kernel)]; kernel_rfl) | (rw [if_neg (by decide +kernel)]; exact ⟨rfl, rfl⟩))
  (fun os started H enc _ => lifted os started H enc)
theorem proved : Rows.FloorMergesSaid := over
#print axioms proved
end Go.Proofs.YthhckdjagnlgpaaGreat.floorMerges
end
