/-
 What the document gives for answers: live of layer 19.
 The moves of any chunks, the ranks of any bytes: a walk.
 Ranks that are put are taken, and bytes that are taken are what was put: walks; moves as columns, ranks as bytes: a walk.
 Moves as columns are read as they were, chunks that are read are what their moves make: a walk.
 Two lists of moves have the same columns just if they are the same; unlike in ranks, or names, alone they have the same ones but for those: a walk.
-/
import Derived.Test.YtojhenpaeedimaaGreatOy
import Derived.Deep.RegionWith
import Derived.Deep.DeepCutAuto
import Derived.Test.YtojhenpaeedimaaGreatBc
import Derived.ProofKit
import Derived.OpenShut
import Derived.SliceStrings
import Derived.ChangeOld
import Derived.Lib.SmallJoins
import Derived.Test.YtojhenpaeedimaaGreatHh
import Derived.Deep.Grids
import Derived.Test.YtojhenpaeedimaaGreatMg
import Derived.Deep.SlicePairs
section
namespace Go.Proofs.YtojhenpaeedimaaGreat
open Go.RowKit Go.IntWalk
open Pk Rf Fl Wd Ol Dl Ru Fg Dt Rl
set_option maxRecDepth 100000
attribute [local go_sem] Oper.semAt_some
namespace live19
def m0 : Mv := (5, 2, 3, 0, [97], 0)
def m1 (y : Nat) : Mv := (7, 2, 4, 3, [97], y)
abbrev cN : Nat := 9221120237041090560
abbrev on : Nat := 4607182418800017408
def C : List Ck.Chk := [(4, [2]), (5, [2, 10, 4, 2, 2]), (6, [2, 0, 6, 6, 2]), (7, [1, 1, 97, 0, 2]), (8, [2, 1, 1, 255, 240, 3])]
def C4 : List Ck.Chk := [(4, [2]), (5, [2, 10, 4, 2, 2]), (6, [2, 0, 6, 6, 2]), (7, [1, 1, 97, 0, 2])]
def R : List UInt8 := rkU [0, on, cN]
theorem enc : encO [m0, m1 cN] = C := by kernel_rfl
theorem may : mayM [m0, m1 cN] = true := by kernel_rfl
def D : List Mv := [m0, m1 cN].map bkM
theorem dec : decO C = (D, 0) := by
 rw [← enc, decO_enc may (by intro m hm; simp only [List.mem_cons, List.not_mem_nil, or_false] at hm; rcases hm with rfl | rfl <;> decide)]; rfl
theorem fb0 : (0 : Nat) = cb (fl (cb 0)) := by kernel_rfl
theorem fbN : cN = cb (fl (cb cN)) := by kernel_rfl
theorem simD {y : Nat} (hn : nn y = true) (hl : y < 18446744073709551616) : SimL [m0, m1 y] D :=
 ⟨⟨rfl, rfl, rfl, rfl, rfl, by decide, fb0⟩, ⟨rfl, rfl, rfl, rfl, rfl, hl, (cb_nan hn).trans fbN⟩, trivial⟩
theorem d4 : decO C4 = ([], 5) := rfl
theorem mayx : mayM [m1 cN, m0] = false := by kernel_rfl
theorem cu1 : cutP [2, 97, 98, 99] = ([97, 98], [99], 0) := by kernel_rfl
theorem cu2 : cutP [5, 97, 98, 99] = ([], [], 2) := by kernel_rfl
theorem ta : takeU R 3 = ([0, on, cN], 0) := takeU_rkU (us := [0, on, cN]) (by intro u hu; simp only [List.mem_cons, List.not_mem_nil, or_false] at hu; rcases hu with rfl | rfl | rfl <;> exact ⟨by decide, by decide⟩) (by decide)
theorem tb : takeU [2, 0, 1, 0] 1 = ([], 5) := by kernel_rfl
theorem rl : R.length ≤ 90000 := Nat.le_of_ble_eq_true (by kernel_rfl)
theorem pt : prt [97, 98] = [2, 97, 98] := by kernel_rfl
theorem sim {y : Nat} (hn : nn y = true) (hl : y < 18446744073709551616) : SimL [m0, m1 y] [m0, m1 cN] :=
 ⟨⟨rfl, rfl, rfl, rfl, rfl, by decide, rfl⟩, ⟨rfl, rfl, rfl, rfl, rfl, hl, (cb_nan hn).trans (by decide)⟩, trivial⟩
theorem simx {y : Nat} (hn : nn y = true) (hl : y < 18446744073709551616) : SimL [m1 y, m0] [m1 cN, m0] :=
 ⟨⟨rfl, rfl, rfl, rfl, rfl, hl, (cb_nan hn).trans (by decide)⟩, ⟨rfl, rfl, rfl, rfl, rfl, by decide, rfl⟩, trivial⟩
theorem ec {y : Nat} (hn : nn y = true) (hl : y < 18446744073709551616) : encC [m0, m1 y] = C := by rw [sim_encC (sim hn hl)]; unfold encC; rw [may, enc]; rfl
theorem ee {y : Nat} (hn : nn y = true) (hl : y < 18446744073709551616) : encE [m0, m1 y] = 0 := by rw [sim_encE (sim hn hl)]; unfold encE; rw [may]; rfl
theorem xc {y : Nat} (hn : nn y = true) (hl : y < 18446744073709551616) : encC [m1 y, m0] = [] := by rw [sim_encC (simx hn hl)]; unfold encC; rw [mayx]; rfl
theorem xe {y : Nat} (hn : nn y = true) (hl : y < 18446744073709551616) : encE [m1 y, m0] = 1 := by rw [sim_encE (simx hn hl)]; unfold encE; rw [mayx]; rfl
theorem ok {y : Nat} (hl : y < 18446744073709551616) : Mok4 [m0, m1 y] := fun m hm => by
 simp only [List.mem_cons, List.not_mem_nil, or_false] at hm
 rcases hm with rfl | rfl
 ·exact ⟨by decide, by decide⟩
 ·exact ⟨hl, by show [97].length ≤ 1000; decide⟩
theorem okx {y : Nat} (hl : y < 18446744073709551616) : Mok4 [m1 y, m0] := fun m hm => ok hl m (by simp only [List.mem_cons, List.not_mem_nil, or_false] at hm ⊢; exact hm.symm)
theorem mv {y : Nat} (hl : y < 18446744073709551616) : Moves_ [m0, m1 y] := fun m hm => ⟨(ok hl m hm).1, by have := (ok hl m hm).2; unfold maxLen; omega⟩
theorem cb3 {y : Nat} (hn : nn y = true) : cbs [0, on, y] = [0, on, cN] := by
 show [cb 0, cb on, cb y] = _
 rw [cb_nan hn]
 decide
theorem rk3 {y : Nat} (hn : nn y = true) : rkF [0, on, y] = R := by unfold rkF; rw [cb3 hn]; rfl
theorem w3 {y : Nat} (hl : y < 18446744073709551616) : Re.Words [0, on, y] := fun u hu => by
 simp only [List.mem_cons, List.not_mem_nil, or_false] at hu
 rcases hu with rfl | rfl | rfl
 ·decide
 ·decide
 ·exact hl
theorem at_pre {w : World} {B : Nat} {A : Option Addr} {xs ys : List Value} (h : At w B A (xs ++ ys)) : At w B A xs := fun i v hv => h i v (by rw [List.getElem?_append_left ((List.getElem?_eq_some_iff.1 hv).1)]; exact hv)
theorem cut4 {w : World} {B : Nat} {A : Option Addr} (h : At w B A (Ck.cvs C)) : At w B A (Ck.cvs C4) := at_pre (ys := Ck.cvs [(8, [2, 1, 1, 255, 240, 3])]) h
theorem small4 : ∀ q ∈ C4, q.2.length ≤ 90000 := by decide
theorem small : ∀ q ∈ C, q.2.length ≤ 90000 := by decide
end live19
set_option maxHeartbeats 16000000 in
theorem live19_c (w : World) :
  Calls Tryz.prog 10 #[] w fun e w' => e = .returned (.bool true) ∧ Below w.heap.size w w' := by
 have hd0 := run_float_none Tryz.prog w .quo 49 0 0 (.inl rfl) (by decide)
 obtain ⟨hyn, hyl⟩ := nanW_nn 0 0 w
 obtain ⟨y, hy⟩ : ∃ y, y = nanW 0 0 w := ⟨_, rfl⟩
 rw [← hy] at hd0 hyn hyl
 have HYN := Lib.hid hyn
 have HYL := Lib.hid hyl
 clear hy hyn hyl
 obtain ⟨w1, hw1⟩ : ∃ w1, w1 = (w.alloc (.cells #[.int .i64 5, .int .i64 2, .int .i64 0, .int .i64 3, .string ⟨#[97]⟩, .float .f64 0, .int .i64 7, .int .i64 2, .int .i64 3, .int .i64 4, .string ⟨#[97]⟩, .float .f64 y] 51)).drew := ⟨_, rfl⟩
 have b1 : Below w.heap.size w w1 := by rw [hw1]; exact ((Below.refl _ _).alloc (Nat.le_refl _) _).drew
 have i1 : Is w1 w.heap.size 51 (mvs [live19.m0, live19.m1 y]) := by rw [hw1]; exact is_new w 51 (mvs [live19.m0, live19.m1 y])
 obtain ⟨g, hg⟩ : ∃ g, w.heap.size = g := ⟨_, rfl⟩
 rw [hg] at i1
 have B1 := Lib.hid b1
 have HM1 := Lib.hid (is_atM i1 (is_lt i1))
 have W1 := Lib.hid hw1
 have HG := Lib.hid hg
 clear b1 i1 hw1 hg
 go_enter Tryz.func10, Tryz.ntmps10
 go_wp2_with fail
 rw [HG.out]
 rw [← W1.out]
 refine (oenc_v (n := 2) (cap := 2) rfl (live19.ec HYN.out HYL.out) (live19.ee HYN.out HYL.out) (by simp) (live19.ok HYL.out) HM1.out).mono ?_
 rintro e w2 ⟨A1, c1, rfl, hc, hcap, hb⟩
 have B2 := Lib.hid (B1.out.trans (hb.mono B1.out.size))
 have HM2 := Lib.hid (HM1.out.keep hb)
 have HC2 := Lib.hid hc
 clear hb B1 HM1
 clear hc hd0
 have hcl : live19.C.length = 5 := rfl
 rw [hcl] at hcap
 rw [hcl]
 clear hcl
 go_wp2_with fail
 refine (odec_v (n := 5) (N := 2) rfl live19.dec rfl (by decide) live19.small HC2.out).mono ?_
 rintro e w3 ⟨A2, c2, l2, rfl, hl2, hs2, ho, hb⟩
 have B3 := Lib.hid (B2.out.trans (hb.mono B2.out.size))
 have HM3 := Lib.hid (HM2.out.keep hb)
 have HC3 := Lib.hid (HC2.out.keep hb)
 have HO3 := Lib.hid ho
 clear hb B2 HM2 HC2
 clear ho
 have HL2 := Lib.hid hl2
 have HS2 := Lib.hid hs2
 clear hl2 hs2
 have hc4 : (4 : Int) ≤ (c1 : Int) := by omega
 have hc5 : (5 : Int) ≤ (c1 : Int) := by omega
 go_wp2_with fail
 refine (odec_v (n := 4) (N := 0) rfl live19.d4 rfl (by decide) live19.small4 (live19.cut4 HC3.out)).mono ?_
 rintro e w4 ⟨A3, c3, l3, rfl, -, -, -, hb⟩
 have B4 := Lib.hid (B3.out.trans (hb.mono B3.out.size))
 have HM4 := Lib.hid (HM3.out.keep hb)
 have HC4 := Lib.hid (HC3.out.keep hb)
 have HO4 := Lib.hid (HO3.out.keep hb)
 clear hb B3 HM3 HC3 HO3
 obtain ⟨bm, om, em, hbm, d0, d1, d2, d3, d4, d5⟩ := move_cells HM4.out (k := 0) (x := live19.m0) rfl
 cases em
 obtain ⟨bm, om, em, -, e0, e1, e2, e3, e4, e5⟩ := move_cells HM4.out (k := 1) (x := live19.m1 y) rfl
 cases em
 simp only [Nat.zero_mul, Nat.add_zero, Nat.zero_add, Nat.one_mul] at d0 d1 d2 d3 d4 d5 e0 e1 e2 e3 e4 e5
 change w4.cell? ⟨g, 0, none⟩ = some (.int .i64 5) at d0
 change w4.cell? ⟨g, 1, none⟩ = some (.int .i64 2) at d1
 change w4.cell? ⟨g, 2, none⟩ = some (.int .i64 0) at d2
 change w4.cell? ⟨g, 3, none⟩ = some (.int .i64 3) at d3
 change w4.cell? ⟨g, 4, none⟩ = some (.string ⟨#[97]⟩) at d4
 change w4.cell? ⟨g, 5, none⟩ = some (.float .f64 0) at d5
 change w4.cell? ⟨g, 6, none⟩ = some (.int .i64 7) at e0
 change w4.cell? ⟨g, 7, none⟩ = some (.int .i64 2) at e1
 change w4.cell? ⟨g, 8, none⟩ = some (.int .i64 3) at e2
 change w4.cell? ⟨g, 9, none⟩ = some (.int .i64 4) at e3
 change w4.cell? ⟨g, 10, none⟩ = some (.string ⟨#[97]⟩) at e4
 change w4.cell? ⟨g, 11, none⟩ = some (.float .f64 y) at e5
 obtain ⟨wq, hw5⟩ : ∃ wq, wq = w4.drew.alloc (.cells #[.int .i64 7, .int .i64 2, .int .i64 3, .int .i64 4, .string ⟨#[97]⟩, .float .f64 y, .int .i64 5, .int .i64 2, .int .i64 0, .int .i64 3, .string ⟨#[97]⟩, .float .f64 0] 51) := ⟨_, rfl⟩
 have hb : Below w4.heap.size w4 wq := by rw [hw5]; exact (Below.refl _ _).drew.alloc (Nat.le_refl _) _
 have i5 : Is wq w4.heap.size 51 (mvs [live19.m1 y, live19.m0]) := by rw [hw5]; exact is_new w4.drew 51 (mvs [live19.m1 y, live19.m0])
 have hcall := oenc_v (n := 2) (cap := 2) rfl (live19.xc HYN.out HYL.out) (live19.xe HYN.out HYL.out) (by simp) (live19.okx HYL.out) (is_atM i5 (is_lt i5))
 rw [hw5] at hcall
 have HCA := Lib.hid hcall
 have HW5 := Lib.hid hw5
 clear hcall i5 hw5 hbm
 go_upto_region 9 with fail
 go_cut [9, 10] (fun s9 s10 wx => (∃ A c, s9 = .slice A 0 c) ∧ s10 = .int .i64 1 ∧ Below w4.heap.size w4 wx)
 case first =>
  go_region_with (go_at_call 11; refine HCA.out.mono ?_; rintro e w6 ⟨A6, c6, rfl, -, -, hb6⟩)
  all_goals (
   go_wp2_with fail
   go_meet
   rw [← HW5.out] at hb6
   first | exact hb.trans (hb6.mono hb.size) | exact ⟨⟨_, _, rfl⟩, rfl, hb.trans (hb6.mono hb.size)⟩)
 case rest =>
 obtain ⟨⟨A6, c6, rfl⟩, rfl, hb6⟩ := hcut
 rename World => w5
 clear hb
 have B5 := Lib.hid (B4.out.trans (hb6.mono B4.out.size))
 have HM5 := Lib.hid (HM4.out.keep hb6)
 have HC5 := Lib.hid (HC4.out.keep hb6)
 have HO5 := Lib.hid (HO4.out.keep hb6)
 clear hb6 B4 HM4 HC4 HO4
 clear d0 d1 d2 d3 d4 d5 e0 e1 e2 e3 e4 e5 HCA HW5
 go_wp2_with fail
 refine (ocut_v (s := [2, 97, 98, 99]) (P := ⟨#[97, 98]⟩) (Q := ⟨#[99]⟩) rfl live19.cu1 rfl rfl (by decide) _).mono ?_
 rintro e w6 ⟨rfl, hb⟩
 have B6 := Lib.hid (B5.out.trans (hb.mono B5.out.size))
 have HM6 := Lib.hid (HM5.out.keep hb)
 have HC6 := Lib.hid (HC5.out.keep hb)
 have HO6 := Lib.hid (HO5.out.keep hb)
 clear hb B5 HM5 HC5 HO5
 go_wp2_with fail
 refine (ocut_v (s := [5, 97, 98, 99]) (P := ⟨#[]⟩) (Q := ⟨#[]⟩) rfl live19.cu2 rfl rfl (by decide) _).mono ?_
 rintro e w7 ⟨rfl, hb⟩
 have B7 := Lib.hid (B6.out.trans (hb.mono B6.out.size))
 have HM7 := Lib.hid (HM6.out.keep hb)
 have HC7 := Lib.hid (HC6.out.keep hb)
 have HO7 := Lib.hid (HO6.out.keep hb)
 clear hb B6 HM6 HC6 HO6
 obtain ⟨w8, hw8⟩ : ∃ w8, w8 = w7.alloc (.cells #[.float .f64 0, .float .f64 4607182418800017408, .float .f64 y] 49) := ⟨_, rfl⟩
 have hb : Below w7.heap.size w7 w8 := by rw [hw8]; exact (Below.refl _ _).alloc (Nat.le_refl _) _
 have hpr := pranks_k (w := w8) (A := some ⟨w7.heap.size, 0, none⟩) (n := 3) (cap := 3) (l := [0, live19.on, y]) rfl (by rw [live19.rk3 HYN.out]) (by decide) (fun e => by cases e) (live19.w3 HYL.out) (by rw [hw8]; exact at_newO w7 49 (fvs [0, live19.on, y]))
 have HPR := Lib.hid hpr
 have HW8 := Lib.hid hw8
 clear hpr hw8
 have B8 := Lib.hid (B7.out.trans (hb.mono B7.out.size))
 have HM8 := Lib.hid (HM7.out.keep hb)
 have HC8 := Lib.hid (HC7.out.keep hb)
 have HO8 := Lib.hid (HO7.out.keep hb)
 clear hb B7 HM7 HC7 HO7
 go_wp2_with fail
 rw [← HW8.out]
 refine HPR.out.mono ?_
 rintro e w9 ⟨rfl, hb⟩
 have B9 := Lib.hid (B8.out.trans (hb.mono B8.out.size))
 have HM9 := Lib.hid (HM8.out.keep hb)
 have HC9 := Lib.hid (HC8.out.keep hb)
 have HO9 := Lib.hid (HO8.out.keep hb)
 clear hb B8 HM8 HC8 HO8
 go_wp2_with fail
 refine (otake_v (N := 3) rfl live19.ta rfl live19.rl (by decide) (by decide) _).mono ?_
 rintro e w10 ⟨A10, c10, y10, rfl, hl10, hc10, hw10, ho, hb⟩
 have B10 := Lib.hid (B9.out.trans (hb.mono B9.out.size))
 have HM10 := Lib.hid (HM9.out.keep hb)
 have HC10 := Lib.hid (HC9.out.keep hb)
 have HO10 := Lib.hid (HO9.out.keep hb)
 have HR10 := Lib.hid ho
 clear hb B9 HM9 HC9 HO9
 clear ho
 have HL10 := Lib.hid hl10
 have HCBX := Lib.hid hc10
 have HWR := Lib.hid hw10
 clear hl10 hc10 hw10
 go_wp2_with fail
 refine (otake_v (s := [2, 0, 1, 0]) (N := 0) rfl live19.tb rfl (by decide) (by decide) (by decide) _).mono ?_
 rintro e w11 ⟨A11, c11, y11, rfl, -, -, -, -, hb⟩
 have B11 := Lib.hid (B10.out.trans (hb.mono B10.out.size))
 have HM11 := Lib.hid (HM10.out.keep hb)
 have HC11 := Lib.hid (HC10.out.keep hb)
 have HO11 := Lib.hid (HO10.out.keep hb)
 have HR11 := Lib.hid (HR10.out.keep hb)
 clear hb B10 HM10 HC10 HO10 HR10
 obtain ⟨bc, oc, rfl, hbc, f0, f1⟩ := Ck.chunk_cells (k := 0) HC11.out (x := (4, [2])) rfl
 obtain ⟨_, _, ec, _, -, f3⟩ := Ck.chunk_cells (k := 1) HC11.out (x := (5, [2, 10, 4, 2, 2])) rfl
 cases ec
 obtain ⟨_, _, ec, _, -, f5⟩ := Ck.chunk_cells (k := 2) HC11.out (x := (6, [2, 0, 6, 6, 2])) rfl
 cases ec
 obtain ⟨_, _, ec, _, -, f7⟩ := Ck.chunk_cells (k := 3) HC11.out (x := (7, [1, 1, 97, 0, 2])) rfl
 cases ec
 obtain ⟨_, _, ec, _, -, f9⟩ := Ck.chunk_cells (k := 4) HC11.out (x := (8, [2, 1, 1, 255, 240, 3])) rfl
 cases ec
 change w11.cell? ⟨bc, oc, none⟩ = some (.int .i64 4) at f0
 change w11.cell? ⟨bc, oc + 1, none⟩ = some (.string ⟨#[2]⟩) at f1
 change w11.cell? ⟨bc, oc + 3, none⟩ = some (.string ⟨#[2, 10, 4, 2, 2]⟩) at f3
 change w11.cell? ⟨bc, oc + 5, none⟩ = some (.string ⟨#[2, 0, 6, 6, 2]⟩) at f5
 change w11.cell? ⟨bc, oc + 7, none⟩ = some (.string ⟨#[1, 1, 97, 0, 2]⟩) at f7
 change w11.cell? ⟨bc, oc + 9, none⟩ = some (.string ⟨#[2, 1, 1, 255, 240, 3]⟩) at f9
 have hsm := rmsame_v (n1 := 2) (n2 := 2) (c1 := c2) (c2 := 2) (sim_sameM HS2.out (live19.simD HYN.out HYL.out)) HL2.out rfl (by rw [HL2.out]; decide) (by unfold maxLen; simp) (sim_movesO live19.dec HS2.out) (live19.mv HYL.out) HO11.out HM11.out
 have HSM := Lib.hid hsm
 clear hsm hbc
 go_wp2_with fail
 with_reducible refine HSM.out.mono ?_
 rintro e w12 ⟨rfl, hb⟩
 have B12 := Lib.hid (B11.out.trans (hb.mono B11.out.size))
 have HM12 := Lib.hid (HM11.out.keep hb)
 have HC12 := Lib.hid (HC11.out.keep hb)
 have HO12 := Lib.hid (HO11.out.keep hb)
 have HR12 := Lib.hid (HR11.out.keep hb)
 clear hb B11 HM11 HC11 HO11 HR11
 clear f0 f1 f3 f5 f7 f9 HSM
 go_wp2_with fail
 refine (prt_v (s := [97, 98]) (S := ⟨#[97, 98]⟩) (T := ⟨#[2, 97, 98]⟩) rfl (by rw [live19.pt]; rfl) (by decide) _).mono ?_
 rintro e w13 ⟨rfl, hb⟩
 have B13 := Lib.hid (B12.out.trans (hb.mono B12.out.size))
 have HM13 := Lib.hid (HM12.out.keep hb)
 have HC13 := Lib.hid (HC12.out.keep hb)
 have HO13 := Lib.hid (HO12.out.keep hb)
 have HR13 := Lib.hid (HR12.out.keep hb)
 clear hb B12 HM12 HC12 HO12 HR12
 obtain ⟨w14, hw14⟩ : ∃ w14, w14 = w13.alloc (.cells #[.float .f64 0, .float .f64 4607182418800017408, .float .f64 y] 49) := ⟨_, rfl⟩
 have hb : Below w13.heap.size w13 w14 := by rw [hw14]; exact (Below.refl _ _).alloc (Nat.le_refl _) _
 have hat : At w14 w14.heap.size (some ⟨w13.heap.size, 0, none⟩) (fvs [0, live19.on, y]) := by rw [hw14]; exact at_newO w13 49 (fvs [0, live19.on, y])
 have HAT := Lib.hid hat
 have HW14 := Lib.hid hw14
 clear hat hw14
 have B14 := Lib.hid (B13.out.trans (hb.mono B13.out.size))
 have HM14 := Lib.hid (HM13.out.keep hb)
 have HC14 := Lib.hid (HC13.out.keep hb)
 have HO14 := Lib.hid (HO13.out.keep hb)
 have HR14 := Lib.hid (HR13.out.keep hb)
 clear hb B13 HM13 HC13 HO13 HR13
 have hsm := rsame9_v (q := true) (n1 := 3) (n2 := 3) (c1 := c10) (c2 := 3) (decide_eq_true (HCBX.out.trans (live19.cb3 HYN.out).symm)) HL10.out rfl (by rw [HL10.out]; unfold maxLen; decide) (by unfold maxLen; simp) HWR.out (live19.w3 HYL.out) HR14.out HAT.out
 have HSM := Lib.hid hsm
 clear hsm
 go_wp2_with fail
 rw [← HW14.out]
 refine HSM.out.mono ?_
 rintro e w15 ⟨rfl, q, rfl⟩
 go_wp2_with fail
 go_ret
 exact ⟨rfl, below_drewN B14.out q⟩
end Go.Proofs.YtojhenpaeedimaaGreat
end
section
namespace Go.Proofs.YtojhenpaeedimaaGreat
open Go.RowKit Go.IntWalk
open Pk Rf Fl Wd Ol Dl Ru Fg Dt Rl
set_option maxRecDepth 100000
attribute [local go_sem] Oper.semAt_some
namespace oplogReads
end oplogReads
end Go.Proofs.YtojhenpaeedimaaGreat
end
section
namespace Go.Proofs.YtojhenpaeedimaaGreat
open Go.RowKit Go.IntWalk
open Pk Rf Fl Wd Ol Dl Ru Fg Dt Rl
set_option maxRecDepth 100000
attribute [local go_sem] Oper.semAt_some
theorem few_z {l : List Mv} {n : Nat} {q : Bool} {z : Int} (h : fewM l n = q) (hz : (n : Int) = z) (hn : n ≤ 1000) {A : Option Addr} {cap : Nat} (hl : l.length ≤ maxLen) {w : World} (hc : At w w.heap.size A (mvs l)) :
  Calls Tryz.prog 9 #[.slice A l.length cap, .int .i64 z] w fun e w' => e = .returned (.bool q) ∧ w = w' := by
 subst hz; exact few_q h hn hl hc
theorem rk_bytes {l : List Nat} (hl : l.length ≤ 1000) : (rkF l).length ≤ 90000 := by
 have hfl := fnz_len l
 have h1' : (nzL l).length = l.length := List.length_map ..
 have h1 := encF_len (l := nzL l) (by omega)
 rw [h1'] at h1
 have h2 := (Re.encR_len (cbs (fnz l))).2
 rw [cbs_len] at h2
 have h3 := prt_len (s := encF (nzL l)) (by omega)
 rw [rkF_eq, List.length_append]
 omega
namespace oplogRanks
end oplogRanks
namespace oplogWrites
theorem few_mok4 {l : List Mv} {n : Nat} (h : fewM l n = true) (hm : Moves_ l) : Mok4 l := fun m hmm => ⟨(hm m hmm).1, by have := (fewM_in h).2 m hmm; omega⟩
end oplogWrites
end Go.Proofs.YtojhenpaeedimaaGreat
end
section
namespace Go.Proofs.YtojhenpaeedimaaGreat
open Go.RowKit Go.IntWalk
open Pk Rf Fl Wd Ol Dl Ru Fg Dt Rl
set_option maxRecDepth 100000
attribute [local go_sem] Oper.semAt_some
theorem rmmay_o {A : Option Addr} {cap : Nat} {l : List Mv} {b : Bool} (h : mayM l = b) (hl : l.length ≤ maxLen) (hM : Moves_ l) {w : World} (hc : At w w.heap.size A (mvs l)) :
  Calls Tryz.prog 27 #[.slice A l.length cap] w fun e w' => e = .returned (.bool b) ∧ Below w.heap.size w w' := by
 subst h; exact rmmay_c A cap l hl (fun m hm => (hM m hm).2) w hc
theorem encD_small {l : List (List UInt8)} (hl : l.length ≤ 100) (hn : ∀ t ∈ l, t.length ≤ 100) : (Dt.encD l).length ≤ 90000 := by
 have h1 := Dc.ws_len l []
 have h2 := Dc.pl_len l []
 have h3 := enc4_len (Dc.ws [] l) 100 (by omega) (Dt.ws_texts hn)
 have h4 := encU_len (l := Dc.pl [] l) (Dt.pl_nums (by omega)) (by omega)
 have h5 := put_len10 (n := (Dc.ws [] l).length) (by simp at h1; omega)
 simp at h1
 have h6 : (100 + 10) * (Dc.ws [] l).length ≤ 110 * 100 := Nat.mul_le_mul (by omega) (by omega)
 unfold Dt.encD
 rw [List.length_append, List.length_append]
 omega
theorem encO_small {l : List Mv} (_h : mayM l = true) (hl : l.length ≤ 100) (hn : ∀ m ∈ l, (nm (mw m)).length ≤ 100) : ∀ q ∈ encO l, q.2.length ≤ 90000 := by
 have e1 : (mcL l).length = l.length := List.length_map ..
 have e2 : (mrL l).length = l.length := List.length_map ..
 have e3 : (paL l).length = l.length := List.length_map ..
 have e4 : (chL l).length = l.length := List.length_map ..
 have e5 : (nmL l).length = l.length := List.length_map ..
 have e6 : (l.map fun m => rk (mw m)).length = l.length := List.length_map ..
 have b1 := (encL_len (mcL l)).2
 have b3 := (encL_len (paL l)).2
 have b4 := (encL_len (chL l)).2
 have b2 := encU_len (nums_u64 l) (by omega)
 have p1 := prt_len (s := encL (mcL l)) (by omega)
 have p3 := prt_len (s := encL (paL l)) (by omega)
 have p0 := put_len10 (n := l.length) (by omega)
 have r1 := rk_bytes (l := l.map fun m => rk (mw m)) (by omega)
 rw [rkF_rkL] at r1
 have d1 := encD_small (l := nmL l) (by omega) (fun t ht => by obtain ⟨m, hm, rfl⟩ := List.mem_map.1 ht; exact hn m hm)
 intro q hq
 unfold encO at hq
 simp only [List.mem_cons, List.not_mem_nil, or_false] at hq
 rcases hq with rfl | rfl | rfl | rfl | rfl
 ·show (put l.length).length ≤ 90000; omega
 ·show (bdT l).length ≤ 90000; unfold bdT; rw [List.length_append]; omega
 ·show (bdE l).length ≤ 90000; unfold bdE; rw [List.length_append]; omega
 ·exact d1
 ·exact r1
namespace oplogBack
end oplogBack
end Go.Proofs.YtojhenpaeedimaaGreat
end
section
namespace Go.Proofs.YtojhenpaeedimaaGreat
open Go.RowKit Go.IntWalk
open Pk Rf Fl Wd Ol Dl Ru Fg Dt Rl
set_option maxRecDepth 100000
attribute [local go_sem] Oper.semAt_some
/-- the moves with other ranks: each its own place -/
def reR (i : Nat) (m : Mv) : Mv := (mc m, mr m, ch (mw m), pa (mw m), nm (mw m), floatOfInt .f64 (i : Int))
/-- a move by another name -/
def reN (m : Mv) : Mv := (mc m, mr m, ch (mw m), pa (mw m), [115, 97, 109, 101], rk (mw m))
theorem map_idx {α β : Type} {f : Nat → α → α} {g : α → β} (h : ∀ i m, g (f i m) = g m) (l : List α) : (l.mapIdx f).map g = l.map g := by
 apply List.ext_getElem?
 intro i
 rw [List.getElem?_map, List.getElem?_mapIdx, List.getElem?_map]
 cases l[i]? with
 | none => rfl
 | some m => simp [h]
theorem map_re {α β : Type} {f : α → α} {g : α → β} (h : ∀ m, g (f m) = g m) (l : List α) : (l.map f).map g = l.map g := by
 rw [List.map_map]
 exact List.map_congr_left fun m _ => h m
theorem small_float {i : Nat} (h : i < 61) : floatOfInt .f64 (i : Int) < 18446744073709551616 := by
 have hall : (List.range 61).all (fun k => decide (floatOfInt .f64 (k : Int) < 18446744073709551616)) = true := by kernel_rfl
 have := List.all_eq_true.1 hall i (List.mem_range.2 h)
 simpa using this
/-- the same times, and alike in being allowed -/
def Alk : List Mv → List Mv → Prop
 | [], [] => True
 | a :: l, b :: m => (mc a = mc b ∧ mr a = mr b ∧ oneM a = oneM b) ∧ Alk l m
 | _, _ => False
theorem Alk.len : ∀ {l m : List Mv}, Alk l m → l.length = m.length
 | [], [], _ => rfl
 | _ :: l, _ :: m, h => by rw [List.length_cons, List.length_cons, Alk.len (l := l) (m := m) h.2]
theorem alk_res : ∀ {l m : List Mv} (p q : Option Mv), (∀ a, p = some a → ∃ b, q = some b ∧ mc a = mc b ∧ mr a = mr b) → (p = none → q = none) → Alk l m → resM p l = resM q m
 | [], [], _, _, _, _, _ => by simp [resM]
 | a :: l, b :: m, p, q, hs, hn, h => by
  have ih := alk_res (l := l) (m := m) (some a) (some b) (fun x hx => by injection hx with hx; subst hx; exact ⟨b, rfl, h.1.1, h.1.2.1⟩) (fun e => by cases e) h.2
  unfold resM
  rw [ih, h.1.2.2]
  congr 2
  cases p with
  | none => rw [hn rfl]
  | some x =>
   obtain ⟨y, hy, h1, h2⟩ := hs x rfl
   subst hy
   simp only
   have k : ∀ {u v : Bool}, (u = true ↔ v = true) → u = v := fun {u v} h => by cases u <;> cases v <;> simp_all
   refine k ?_
   rw [bm_iff, bm_iff]
   unfold MLt
   rw [h1, h2, h.1.1, h.1.2.1]
 | [], _ :: _, _, _, _, _, h => by cases h
 | _ :: _, [], _, _, _, _, h => by cases h
theorem alk_may {l m : List Mv} (h : Alk l m) : mayM l = mayM m := by
 unfold mayM mayL
 rw [alk_res none none (fun a ha => by cases ha) (fun _ => rfl) h, Alk.len h]
theorem alk_idx : ∀ (l : List Mv) (f : Nat → Mv → Mv), (∀ i, ∀ m ∈ l, mc (f i m) = mc m ∧ mr (f i m) = mr m ∧ oneM (f i m) = oneM m) → Alk (l.mapIdx f) l
 | [], _, _ => trivial
 | a :: l, f, h => by
  rw [List.mapIdx_cons]
  exact ⟨h 0 a (List.mem_cons_self ..), alk_idx l (fun i => f (i + 1)) fun i m hm => h (i + 1) m (List.mem_cons_of_mem _ hm)⟩
theorem alk_map : ∀ (l : List Mv) (f : Mv → Mv), (∀ m ∈ l, mc (f m) = mc m ∧ mr (f m) = mr m ∧ oneM (f m) = oneM m) → Alk (l.map f) l
 | [], _, _ => trivial
 | a :: l, f, h => ⟨h a (List.mem_cons_self ..), alk_map l f fun m hm => h m (List.mem_cons_of_mem _ hm)⟩
theorem may_reR (l : List Mv) : mayM (l.mapIdx reR) = mayM l := alk_may (alk_idx l reR fun _ _ _ => ⟨rfl, rfl, rfl⟩)
theorem one_reN {m : Mv} (h : oneM m = true) : oneM (reN m) = true := by
 obtain ⟨⟨a1, a2⟩, ⟨b1, b2⟩, ⟨c1, c2⟩, ⟨d1, d2⟩, -, -⟩ := oneM_facts h
 have hv : valid ([115, 97, 109, 101] : List UInt8) = true := by kernel_rfl
 unfold oneM oneP
 simp only [Bool.and_eq_true, decide_eq_true_eq]
 exact ⟨a1, a2, b1, b2, c1, c2, d1, d2, by show ([115, 97, 109, 101] : List UInt8).length ≤ 64; decide, hv⟩
theorem may_reN {l : List Mv} (h : mayM l = true) : mayM (l.map reN) = true := by
 rw [alk_may (alk_map l reN fun m hm => ⟨rfl, rfl, (one_reN (mayM_all h m hm)).trans (mayM_all h m hm).symm⟩)]
 exact h
theorem enc_reR (l : List Mv) : (encO (l.mapIdx reR)).take 4 = (encO l).take 4 := by
 have e1 : mcL (l.mapIdx reR) = mcL l := map_idx (f := reR) (g := fun m => mc m) (fun _ _ => rfl) l
 have e2 : mrL (l.mapIdx reR) = mrL l := map_idx (f := reR) (g := fun m => u64 (mr m)) (fun _ _ => rfl) l
 have e3 : paL (l.mapIdx reR) = paL l := map_idx (f := reR) (g := fun m => pa (mw m)) (fun _ _ => rfl) l
 have e4 : chL (l.mapIdx reR) = chL l := map_idx (f := reR) (g := fun m => ch (mw m)) (fun _ _ => rfl) l
 have e5 : nmL (l.mapIdx reR) = nmL l := map_idx (f := reR) (g := fun m => nm (mw m)) (fun _ _ => rfl) l
 unfold encO bdT bdE
 rw [e1, e2, e3, e4, e5, List.length_mapIdx]
 rfl
theorem enc_reN (l : List Mv) : (encO (l.map reN)).take 3 = (encO l).take 3 ∧ rkL (l.map reN) = rkL l := by
 have e1 : mcL (l.map reN) = mcL l := map_re (f := reN) (g := fun m => mc m) (fun _ => rfl) l
 have e2 : mrL (l.map reN) = mrL l := map_re (f := reN) (g := fun m => u64 (mr m)) (fun _ => rfl) l
 have e3 : paL (l.map reN) = paL l := map_re (f := reN) (g := fun m => pa (mw m)) (fun _ => rfl) l
 have e4 : chL (l.map reN) = chL l := map_re (f := reN) (g := fun m => ch (mw m)) (fun _ => rfl) l
 have e6 : rkL (l.map reN) = rkL l := map_re (f := reN) (g := fun m => cb (rk (mw m))) (fun _ => rfl) l
 refine ⟨?_, e6⟩
 unfold encO bdT bdE
 rw [e1, e2, e3, e4, List.length_map]
 rfl
/-- a move laid into a row of moves, and its name -/
theorem mvs_set6 (d : List Mv) (x y : Mv) (t : List Mv) (k : Nat) (hk : d.length = k) :
  ((((((mvs (d ++ x :: t)).set (k * 6) (.int .i64 (mc y))).set (k * 6 + 1) (.int .i64 (mr y))).set (k * 6 + 2) (.int .i64 (pa (mw y)))).set (k * 6 + 3) (.int .i64 (ch (mw y)))).set (k * 6 + 4) (.string (ba (nm (mw y))))).set (k * 6 + 5) (.float .f64 (rk (mw y))) = mvs (d ++ y :: t) := by
 have hl : (mvs d).length = k * 6 := by rw [mvs_len6, hk]
 rw [mvs_app, mvs_cons, show k * 6 = k * 6 + 0 from rfl]
 rw [set_past _ _ _ _ _ hl, show k * 6 + 0 + 1 = k * 6 + 1 from rfl, set_past _ _ _ _ _ hl, show k * 6 + 0 + 2 = k * 6 + 2 from rfl, set_past _ _ _ _ _ hl, show k * 6 + 0 + 3 = k * 6 + 3 from rfl, set_past _ _ _ _ _ hl, show k * 6 + 0 + 4 = k * 6 + 4 from rfl, set_past _ _ _ _ _ hl, show k * 6 + 0 + 5 = k * 6 + 5 from rfl, set_past _ _ _ _ _ hl]
 rw [mvs_app, mvs_cons]
 rfl
theorem mvs_setN (d : List Mv) (y : Mv) (t : List Mv) (k : Nat) (hk : d.length = k) : (mvs (d ++ y :: t)).set (k * 6 + 4) (.string (ba [115, 97, 109, 101])) = mvs (d ++ reN y :: t) := by
 have hl : (mvs d).length = k * 6 := by rw [mvs_len6, hk]
 rw [mvs_app, mvs_cons, set_past _ _ _ _ _ hl, mvs_app, mvs_cons]
 rfl
theorem own_set6 {w : World} {B g n cap k : Nat} {d t : List Mv} {x : Mv} (h : w.ownsRow B 51 6 (.slice (some ⟨g, 0, none⟩) n cap) n (mvs (d ++ x :: t))) (hk : d.length = k) (y : Mv) :
  ((((((w.setCell ⟨g, k * 6, none⟩ (.int .i64 (mc y))).setCell ⟨g, k * 6 + 1, none⟩ (.int .i64 (mr y))).setCell ⟨g, k * 6 + 2, none⟩ (.int .i64 (pa (mw y)))).setCell ⟨g, k * 6 + 3, none⟩ (.int .i64 (ch (mw y)))).setCell ⟨g, k * 6 + 4, none⟩ (.string (ba (nm (mw y))))).setCell ⟨g, k * 6 + 5, none⟩ (.float .f64 (rk (mw y)))).ownsRow B 51 6 (.slice (some ⟨g, 0, none⟩) n cap) n (mvs (d ++ y :: t)) := by
 rw [← mvs_set6 d x y t k hk]
 exact ((((((h.stored _ _).1.stored _ _).1.stored _ _).1.stored _ _).1.stored _ _).1.stored _ _).1
theorem cvs_take {w : World} {B : Nat} {A : Option Addr} {l : List Ck.Chk} (h : At w B A (Ck.cvs l)) (n : Nat) : At w B A (Ck.cvs (l.take n)) := by
 rw [← List.take_append_drop n l] at h
 unfold Ck.cvs at h ⊢
 rw [List.flatMap_append] at h
 exact live19.at_pre h
theorem oenc_y {l : List Mv} {A : Option Addr} {n cap : Nat} {w : World} (hn : l.length = n) (hm : mayM l = true) (hl : l.length ≤ 4000) (ho : Mok4 l) (hc : At w w.heap.size A (mvs l)) :
  Calls Tryz.prog 11 #[.slice A n cap] w fun e w' => ∃ A' cap', e = .returned (.tuple #[.slice A' 5 cap', .int .i64 0]) ∧ At w' w'.heap.size A' (Ck.cvs (encO l)) ∧ 5 ≤ cap' ∧ Below w.heap.size w w' :=
 oenc_v hn (by unfold encC; rw [hm, if_pos rfl]) (by unfold encE; rw [hm, if_pos rfl]) hl ho hc
theorem set6_belowB {B : Nat} {w w1 : World} {G j : Nat} {a b c d e f : Value} (hb : Below B w w1) (hG : B ≤ G) :
  Below B w ((((((w1.setCell ⟨G, j, none⟩ a).setCell ⟨G, j + 1, none⟩ b).setCell ⟨G, j + 2, none⟩ c).setCell ⟨G, j + 3, none⟩ d).setCell ⟨G, j + 4, none⟩ e).setCell ⟨G, j + 5, none⟩ f) :=
 (((((hb.setCell (p := ⟨G, j, none⟩) hG a).setCell (p := ⟨G, j + 1, none⟩) hG b).setCell (p := ⟨G, j + 2, none⟩) hG c).setCell (p := ⟨G, j + 3, none⟩) hG d).setCell (p := ⟨G, j + 4, none⟩) hG e).setCell (p := ⟨G, j + 5, none⟩) hG f
end Go.Proofs.YtojhenpaeedimaaGreat
end
