/-
 Some answers that chapter 12 gives.
-/
import Derived.Test.YtkobmnbjeppnaaaGreatYe
namespace Go.Proofs.YtkobmnbjeppnaaaGreat
open Go.RowKit Go.IntWalk
open Fl Gr
set_option maxRecDepth 100000
attribute [local go_sem] Oper.semAt_some
theorem at_freshR (w : World) (l : List Rw) : At (w.alloc (.cells (tvs l).toArray 28)) (w.alloc (.cells (tvs l).toArray 28)).heap.size (some ⟨w.heap.size, 0, none⟩) (tvs l) := fun i v hv =>
 ⟨w.heap.size, 0, rfl, by simp, by rw [Nat.zero_add]; exact (is_cell (is_new w 28 (tvs l)) i).trans hv⟩
theorem at_freshI (w : World) (l : List Int) : At (w.alloc (.cells (ivs l).toArray 3)) (w.alloc (.cells (ivs l).toArray 3)).heap.size (some ⟨w.heap.size, 0, none⟩) (ivs l) := fun i v hv =>
 ⟨w.heap.size, 0, rfl, by simp, by rw [Nat.zero_add]; exact (is_cell (is_new w 3 (ivs l)) i).trans hv⟩
def l12 : List Rw := [(1, 0, [97], 4611686018427387904), (2, 1, [98], 0), (3, 0, [99], 4607182418800017408), (5, 4, [], 0)]
def c12 : List Rw := [(1, 2, [], 0), (2, 1, [], 0)]
def k12 : List Rw := [(3, 0, [99], 4607182418800017408), (1, 0, [97], 4611686018427387904)]
def s12 : List Rw := [(1, 0, [97], 4611686018427387904), (2, 1, [98], 0), (3, 0, [99], 4607182418800017408), (4, 3, [], 0), (5, 4, [], 0)]
def d12 : List Rw := [(1, 0, [97], 4611686018427387904), (3, 0, [99], 4607182418800017408), (5, 4, [], 0)]
theorem row12 (c p : Int) (n : List UInt8) (f : Nat) (hn : n.length ≤ 1) (hf : f < 18446744073709551616) (hc : In64 c ∧ In64 p) : (rk (c, p, n, f) < 18446744073709551616 ∧ (nm (c, p, n, f)).length ≤ maxLen) ∧ In64 (ch (c, p, n, f)) ∧ In64 (pa (c, p, n, f)) :=
 ⟨⟨hf, by show n.length ≤ maxLen; unfold maxLen; omega⟩, hc⟩
theorem ok_l12 : Rok l12 := by
 have h : ∀ r ∈ l12, (rk r < 18446744073709551616 ∧ (nm r).length ≤ maxLen) ∧ In64 (ch r) ∧ In64 (pa r) := by
  intro r hr
  simp only [l12, List.mem_cons, List.not_mem_nil, or_false] at hr
  rcases hr with rfl | rfl | rfl | rfl
  ·exact row12 _ _ _ _ (by decide) (by decide) (by unfold In64; omega)
  ·exact row12 _ _ _ _ (by decide) (by decide) (by unfold In64; omega)
  ·exact row12 _ _ _ _ (by decide) (by decide) (by unfold In64; omega)
  ·exact row12 _ _ _ _ (by decide) (by decide) (by unfold In64; omega)
 exact ⟨by decide, fun r hr => (h r hr).1, fun r hr => (h r hr).2⟩
theorem ok_c12 : Rok c12 := by
 have h : ∀ r ∈ c12, (rk r < 18446744073709551616 ∧ (nm r).length ≤ maxLen) ∧ In64 (ch r) ∧ In64 (pa r) := by
  intro r hr
  simp only [c12, List.mem_cons, List.not_mem_nil, or_false] at hr
  rcases hr with rfl | rfl
  ·exact row12 _ _ _ _ (by decide) (by decide) (by unfold In64; omega)
  ·exact row12 _ _ _ _ (by decide) (by decide) (by unfold In64; omega)
 exact ⟨by decide, fun r hr => (h r hr).1, fun r hr => (h r hr).2⟩
theorem ok_s12 : Rok s12 := by
 have h : ∀ r ∈ s12, (rk r < 18446744073709551616 ∧ (nm r).length ≤ maxLen) ∧ In64 (ch r) ∧ In64 (pa r) := by
  intro r hr
  simp only [s12, List.mem_cons, List.not_mem_nil, or_false] at hr
  rcases hr with rfl | rfl | rfl | rfl | rfl
  ·exact row12 _ _ _ _ (by decide) (by decide) (by unfold In64; omega)
  ·exact row12 _ _ _ _ (by decide) (by decide) (by unfold In64; omega)
  ·exact row12 _ _ _ _ (by decide) (by decide) (by unfold In64; omega)
  ·exact row12 _ _ _ _ (by decide) (by decide) (by unfold In64; omega)
  ·exact row12 _ _ _ _ (by decide) (by decide) (by unfold In64; omega)
 exact ⟨by decide, fun r hr => (h r hr).1, fun r hr => (h r hr).2⟩
theorem n12a : kidsR l12 0 = k12 := by kernel_rfl
theorem n12b : setP l12 (4, 3, [], 0) = s12 := by kernel_rfl
theorem n12c : dropP l12 2 = d12 := by kernel_rfl
theorem n12d : reachR l12 = [0, 1, 2, 3] := by kernel_rfl
theorem n12e : mayB l12 = true := by kernel_rfl
theorem n12f : mayB c12 = false := by kernel_rfl
theorem n12g : sameP l12 l12 = true := by kernel_rfl
theorem n12h : sameP l12 s12 = false := by kernel_rfl
theorem n12i : (wayR l12 2).getD [] = [2, 1, 0] := by kernel_rfl
theorem n12j : (wayR l12 5).getD [] = [] := by kernel_rfl
set_option maxHeartbeats 16000000 in
theorem live12_c (w : World) :
  Calls Tryz.prog 11 #[] w fun e w' => e = .returned (.bool true) ∧ Below w.heap.size w w' := by
 have S0 := Lib.hid (Bed.start w)
 go_enter Tryz.func11, Tryz.ntmps11
 obtain ⟨w1, hw⟩ : ∃ w1, w1 = w.alloc (.cells #[.int .i64 1, .int .i64 0, .string ⟨#[97]⟩, .float .f64 4611686018427387904, .int .i64 2, .int .i64 1, .string ⟨#[98]⟩, .float .f64 0, .int .i64 3, .int .i64 0, .string ⟨#[99]⟩, .float .f64 4607182418800017408, .int .i64 5, .int .i64 4, .string ⟨#[]⟩, .float .f64 0] 28) := ⟨_, rfl⟩
 have hb : Below w.heap.size w w1 := by rw [hw]; exact (Below.refl _ _).alloc (Nat.le_refl _) _
 have S1 := Lib.hid ((S0.out.step hb).addR (A := some ⟨w.heap.size, 0, none⟩) (l := l12) (by rw [hw]; exact at_freshR w l12))
 have HW1 := Lib.hid hw
 clear hw hb
 go_wp2_with fail
 rw [← HW1.out]
 refine (find_v (l := l12) (c := 2) (v := .agg #[.int .i64 2, .int .i64 1, .string ⟨#[98]⟩, .float .f64 0]) (x := true) rfl rfl ok_l12.max (S1.out.rows (.head _))).mono ?_
 rintro e w2 ⟨rfl, hb⟩
 have S2 := Lib.hid (S1.out.step hb)
 clear hb
 obtain ⟨w3, hw⟩ : ∃ w3, w3 = w2.alloc (.cells #[.int .i64 2, .int .i64 1, .string ⟨#[98]⟩, .float .f64 0] 28) := ⟨_, rfl⟩
 have hb : Below w2.heap.size w2 w3 := by rw [hw]; exact (Below.refl _ _).alloc (Nat.le_refl _) _
 have S3 := Lib.hid ((S2.out.step hb).addB (g := w2.heap.size) (t := 28) (vs := [.int .i64 2, .int .i64 1, .string ⟨#[98]⟩, .float .f64 0]) (by rw [hw]; exact is_new w2 28 _))
 have HW3 := Lib.hid hw
 clear hw hb
 go_wp2_with fail
 rw [← HW3.out]
 refine (find_v (l := l12) (c := 4) (v := .agg #[.int .i64 0, .int .i64 0, .string ⟨#[]⟩, .float .f64 0]) (x := false) rfl rfl ok_l12.max (S3.out.rows (.tail _ (.head _)))).mono ?_
 rintro e w4 ⟨rfl, hb⟩
 have S4 := Lib.hid (S3.out.step hb)
 clear hb
 obtain ⟨w5, hw⟩ : ∃ w5, w5 = w4.alloc (.cells #[.int .i64 0, .int .i64 0, .string ⟨#[]⟩, .float .f64 0] 28) := ⟨_, rfl⟩
 have hb : Below w4.heap.size w4 w5 := by rw [hw]; exact (Below.refl _ _).alloc (Nat.le_refl _) _
 have S5 := Lib.hid ((S4.out.step hb).addB (g := w4.heap.size) (t := 28) (vs := [.int .i64 0, .int .i64 0, .string ⟨#[]⟩, .float .f64 0]) (by rw [hw]; exact is_new w4 28 _))
 have HW5 := Lib.hid hw
 clear hw hb
 go_wp2_with fail
 rw [← HW5.out]
 refine (path_v (l := l12) (c := 2) (q := [2, 1, 0]) (x := true) n12i (by kernel_rfl) rfl (by decide) (S5.out.rows (.tail _ (.tail _ (.head _))))).mono ?_
 rintro e w6 ⟨AP, cP, rfl, hat, hcap, hb⟩
 have S6 := Lib.hid ((S5.out.step hb).addI (A := AP) (l := [2, 1, 0]) hat)
 have CPAP := Lib.hid hcap
 clear hb hat hcap
 go_wp2_with fail
 refine (path_v (l := l12) (c := 5) (q := []) (x := false) n12j (by kernel_rfl) rfl (by decide) (S6.out.rows (.tail _ (.tail _ (.tail _ (.head _)))))).mono ?_
 rintro e w7 ⟨AQ, cQ, rfl, hat, hcap, hb⟩
 have S7 := Lib.hid ((S6.out.step hb).addI (A := AQ) (l := []) hat)
 have CPAQ := Lib.hid hcap
 clear hb hat hcap
 go_wp2_with fail
 refine (kids_v (l := l12) (p := 0) (m := k12) n12a rfl (by decide) ok_l12.s64 (S7.out.rows (.tail _ (.tail _ (.tail _ (.tail _ (.head _))))))).mono ?_
 rintro e w8 ⟨AK, cK, rfl, hat, hcap, hb⟩
 have S8 := Lib.hid ((S7.out.step hb).addR (A := AK) (l := k12) hat)
 have CPAK := Lib.hid hcap
 clear hb hat hcap
 obtain ⟨w9, hw⟩ : ∃ w9, w9 = w8.alloc (.cells #[.int .i64 1, .int .i64 2, .string ⟨#[]⟩, .float .f64 0, .int .i64 2, .int .i64 1, .string ⟨#[]⟩, .float .f64 0] 28) := ⟨_, rfl⟩
 have hb : Below w8.heap.size w8 w9 := by rw [hw]; exact (Below.refl _ _).alloc (Nat.le_refl _) _
 have S9 := Lib.hid ((S8.out.step hb).addR (A := some ⟨w8.heap.size, 0, none⟩) (l := c12) (by rw [hw]; exact at_freshR w8 c12))
 have HW9 := Lib.hid hw
 clear hw hb
 go_wp2_with fail
 rw [← HW9.out]
 refine (set_v (l := l12) (r := (4, 3, [], 0)) (m := s12) n12b rfl (by decide) ⟨(fun h => by cases h), Nat.le_refl _⟩ (S9.out.rows (.tail _ (.tail _ (.tail _ (.tail _ (.tail _ (.tail _ (.head _))))))))).mono ?_
 rintro e w10 ⟨AS, cS, rfl, hat, hcap, hb⟩
 have S10 := Lib.hid ((S9.out.step hb).addR (A := AS) (l := s12) hat)
 have CPAS := Lib.hid hcap
 clear hb hat hcap
 have hx := (S10.out.box (.tail _ (.tail _ (.tail _ (.tail _ (.tail _ (.tail _ (.head _))))))))
 have y1_0 := is_cell hx 0
 have y1_1 := is_cell hx 1
 have y1_2 := is_cell hx 2
 have y1_3 := is_cell hx 3
 simp only [List.getElem?_cons_zero, List.getElem?_cons_succ] at y1_0 y1_1 y1_2 y1_3
 clear hx
 obtain ⟨w11, hw⟩ : ∃ w11, w11 = w10.alloc (.cells #[.int .i64 2, .int .i64 1, .int .i64 0] 3) := ⟨_, rfl⟩
 have hb : Below w10.heap.size w10 w11 := by rw [hw]; exact (Below.refl _ _).alloc (Nat.le_refl _) _
 have S11 := Lib.hid ((S10.out.step hb).addI (A := some ⟨w10.heap.size, 0, none⟩) (l := [2, 1, 0]) (by rw [hw]; exact at_freshI w10 [2, 1, 0]))
 have HW11 := Lib.hid hw
 clear hw hb
 go_wp2_with fail
 rw [← HW11.out]
 refine (same5_v (xs := [2, 1, 0]) (ys := [2, 1, 0]) (x := true) (by decide) (by decide) (by decide) (S11.out.ints (.tail _ (.tail _ (.tail _ (.tail _ (.tail _ (.head _))))))) (S11.out.ints (.head _))).mono ?_
 rintro e w12 ⟨rfl, hb⟩
 have S12 := Lib.hid (S11.out.step hb)
 clear y1_0 y1_1 y1_2 y1_3
 clear hb
 obtain ⟨bz2, oz2, ez2, hz, z2_0, z2_1, z2_2, z2_3⟩ := row_cells (k := 0) (S12.out.rows (.tail _ (.tail _ (.tail _ (.head _))))) (show k12[0]? = some (3, 0, [99], 4607182418800017408) from rfl)
 clear hz
 subst ez2
 obtain ⟨bz3, oz3, ez3, hz, z3_0, z3_1, z3_2, z3_3⟩ := row_cells (k := 3) (S12.out.rows (.tail _ (.head _))) (show s12[3]? = some (4, 3, [], 0) from rfl)
 clear hz
 subst ez3
 simp only [Nat.zero_mul, Nat.add_zero] at z2_0
 clear z2_1 z2_2 z2_3
 simp only [Nat.reduceMul] at z3_0
 clear z3_1 z3_2 z3_3
 go_wp2_with fail
 refine (drop_v (l := l12) (c := 2) (m := d12) n12c rfl (by decide) ⟨(fun h => by cases h), Nat.le_refl _⟩ (S12.out.rows (.tail _ (.tail _ (.tail _ (.tail _ (.tail _ (.tail _ (.tail _ (.tail _ (.head _))))))))))).mono ?_
 rintro e w13 ⟨AD, cD, rfl, hat, hcap, hb⟩
 have S13 := Lib.hid ((S12.out.step hb).addR (A := AD) (l := d12) hat)
 have CPAD := Lib.hid hcap
 clear hb hat hcap
 clear z2_0 z3_0
 go_wp2_with fail
 refine (above_v (l := l12) (a := 0) (b := 2) (x := true) (by kernel_rfl) (by decide) (S13.out.rows (.tail _ (.tail _ (.tail _ (.tail _ (.tail _ (.tail _ (.tail _ (.tail _ (.tail _ (.head _)))))))))))).mono ?_
 rintro e w14 ⟨rfl, hb⟩
 have S14 := Lib.hid (S13.out.step hb)
 clear hb
 go_wp2_with fail
 refine (above_v (l := l12) (a := 2) (b := 0) (x := false) (by kernel_rfl) (by decide) (S14.out.rows (.tail _ (.tail _ (.tail _ (.tail _ (.tail _ (.tail _ (.tail _ (.tail _ (.tail _ (.head _)))))))))))).mono ?_
 rintro e w15 ⟨rfl, hb⟩
 have S15 := Lib.hid (S14.out.step hb)
 clear hb
 go_wp2_with fail
 refine (may_v (l := l12) (x := true) n12e (by decide) ok_l12.rows (S15.out.rows (.tail _ (.tail _ (.tail _ (.tail _ (.tail _ (.tail _ (.tail _ (.tail _ (.tail _ (.head _)))))))))))).mono ?_
 rintro e w16 ⟨rfl, hb⟩
 have S16 := Lib.hid (S15.out.step hb)
 clear hb
 go_wp2_with fail
 refine (may_v (l := c12) (x := false) n12f (by decide) ok_c12.rows (S16.out.rows (.tail _ (.tail _ (.tail _ (.head _)))))).mono ?_
 rintro e w17 ⟨rfl, hb⟩
 have S17 := Lib.hid (S16.out.step hb)
 clear hb
 go_wp2_with fail
 refine (above_v (l := c12) (a := 1) (b := 1) (x := true) (by kernel_rfl) (by decide) (S17.out.rows (.tail _ (.tail _ (.tail _ (.head _)))))).mono ?_
 rintro e w18 ⟨rfl, hb⟩
 have S18 := Lib.hid (S17.out.step hb)
 clear hb
 go_wp2_with fail
 refine (reached_v (l := l12) (q := [0, 1, 2, 3]) n12d rfl (by decide) ok_l12.six (S18.out.rows (.tail _ (.tail _ (.tail _ (.tail _ (.tail _ (.tail _ (.tail _ (.tail _ (.tail _ (.head _)))))))))))).mono ?_
 rintro e w19 ⟨AR, cR, rfl, hat, hcap, hb⟩
 have S19 := Lib.hid ((S18.out.step hb).addI (A := AR) (l := [0, 1, 2, 3]) hat)
 have CPAR := Lib.hid hcap
 clear hb hat hcap
 obtain ⟨w20, hw⟩ : ∃ w20, w20 = w19.alloc (.cells #[.int .i64 0, .int .i64 1, .int .i64 2, .int .i64 3] 3) := ⟨_, rfl⟩
 have hb : Below w19.heap.size w19 w20 := by rw [hw]; exact (Below.refl _ _).alloc (Nat.le_refl _) _
 have S20 := Lib.hid ((S19.out.step hb).addI (A := some ⟨w19.heap.size, 0, none⟩) (l := [0, 1, 2, 3]) (by rw [hw]; exact at_freshI w19 [0, 1, 2, 3]))
 have HW20 := Lib.hid hw
 clear hw hb
 go_wp2_with fail
 rw [← HW20.out]
 refine (same5_v (xs := [0, 1, 2, 3]) (ys := [0, 1, 2, 3]) (x := true) (by decide) (by decide) (by decide) (S20.out.ints (.tail _ (.head _))) (S20.out.ints (.head _))).mono ?_
 rintro e w21 ⟨rfl, hb⟩
 have S21 := Lib.hid (S20.out.step hb)
 clear hb
 go_wp2_with fail
 refine (same_v (xs := l12) (ys := l12) (x := true) n12g ok_l12.max ok_l12.max ok_l12.rows ok_l12.rows (S21.out.rows (.tail _ (.tail _ (.tail _ (.tail _ (.tail _ (.tail _ (.tail _ (.tail _ (.tail _ (.tail _ (.tail _ (.head _))))))))))))) (S21.out.rows (.tail _ (.tail _ (.tail _ (.tail _ (.tail _ (.tail _ (.tail _ (.tail _ (.tail _ (.tail _ (.tail _ (.head _)))))))))))))).mono ?_
 rintro e w22 ⟨rfl, hb⟩
 have S22 := Lib.hid (S21.out.step hb)
 clear hb
 go_wp2_with fail
 refine (same_v (xs := l12) (ys := s12) (x := false) n12h ok_l12.max ok_s12.max ok_l12.rows ok_s12.rows (S22.out.rows (.tail _ (.tail _ (.tail _ (.tail _ (.tail _ (.tail _ (.tail _ (.tail _ (.tail _ (.tail _ (.tail _ (.head _))))))))))))) (S22.out.rows (.tail _ (.tail _ (.tail _ (.tail _ (.head _))))))).mono ?_
 rintro e w23 ⟨rfl, hb⟩
 have S23 := Lib.hid (S22.out.step hb)
 clear hb
 obtain ⟨bz4, oz4, ez4, hz, z4_0, z4_1, z4_2, z4_3⟩ := row_cells (k := 0) (S23.out.rows (.tail _ (.tail _ (.tail _ (.tail _ (.tail _ (.tail _ (.tail _ (.tail _ (.tail _ (.tail _ (.tail _ (.head _))))))))))))) (show l12[0]? = some (1, 0, [97], 4611686018427387904) from rfl)
 clear hz
 cases ez4
 simp only [Nat.zero_mul, Nat.add_zero, Nat.zero_add] at z4_0 z4_1 z4_2 z4_3
 go_wp2_with fail
 refine (one_v (r := (1, 0, [97], 4611686018427387904)) (x := true) (by kernel_rfl) (by decide)).mono ?_
 rintro e w24 ⟨rfl, hb⟩
 have S24 := Lib.hid (S23.out.step hb)
 clear hb
 clear z4_0 z4_1 z4_2 z4_3
 go_wp2_with fail
 refine (one_v (r := (0, 0, [], 0)) (x := false) (by kernel_rfl) (by decide)).mono ?_
 rintro e w25 ⟨rfl, hb⟩
 have S25 := Lib.hid (S24.out.step hb)
 clear hb
 go_wp2_with fail
 go_ret
 exact ⟨rfl, S25.out.bel⟩
end Go.Proofs.YtkobmnbjeppnaaaGreat
