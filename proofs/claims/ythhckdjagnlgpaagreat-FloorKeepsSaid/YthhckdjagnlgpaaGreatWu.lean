/-
 Some answers that chapter 18 gives.
-/
import Derived.Test.YthhckdjagnlgpaaGreatWs
import Derived.Deep.DeepCutAuto
import Derived.Deep.RegionHeld3
namespace Go.Proofs.YthhckdjagnlgpaaGreat
open Go.RowKit Go.IntWalk
open Gr
set_option maxRecDepth 100000
attribute [local go_sem] Oper.semAt_some
theorem fAdd_l {p : Pl} {r r2 : Rp} {m : Mv} {b : Bool} {x : Int} (h : addF r m = (r2, b, x)) (ok : RpOk r) (pl : RpPl p r) (hm : MvOk m) {w : World} (ha : RpAt p r w) :
  Calls Tryz.prog 44 #[.agg #[.slice p.A1 r.B.length p.c1, .int .i64 r.fc, .int .i64 r.fr, .slice p.A2 r.L.length p.c2, .slice p.A3 r.V.length p.c3], .agg #[.int .i64 (mc m), .int .i64 (mr m), .int .i64 (pa (mw m)), .int .i64 (ch (mw m)), .string (ba (nm (mw m))), .float .f64 (rk (mw m))]] w fun e w' => ∃ p2 : Pl, e = .returned (.tuple #[.agg #[.slice p2.A1 r2.B.length p2.c1, .int .i64 r2.fc, .int .i64 r2.fr, .slice p2.A2 r2.L.length p2.c2, .slice p2.A3 r2.V.length p2.c3], .bool b, .int .i64 x]) ∧ RpAt p2 r2 w' ∧ RpPl p2 r2 ∧ (p2.A1 = p.A1 ∧ r2.B = r.B) ∧ ((p2.A3 = p.A3 ∧ r2.V = r.V) ∨ Fresh w.heap.size p2.A3) ∧ Below w.heap.size w w' ∧ ((p2.A2 = p.A2 ∧ r2.L = r.L) ∨ Fresh w.heap.size p2.A2) :=
 (fAdd_c ok pl m hm.1 hm.2 ha).mono fun e w' hh => by
  obtain ⟨p2, he, h1, h2, h3, h4, h5⟩ := hh
  rw [h] at he h1 h2 h3 h4 h5
  exact ⟨p2, he, h1, h2, h3, h4, h5⟩
theorem of18_c (c k p : Int) (w : World) :
  Calls Tryz.prog 88 #[.int .i64 c, .int .i64 k, .int .i64 p] w fun e w' => e = .returned (.agg #[.int .i64 c, .int .i64 1, .int .i64 p, .int .i64 k, .string ⟨#[]⟩, .float .f64 0]) ∧ Below w.heap.size w w' := by
 have hb : Below w.heap.size w (w.alloc (.cells #[.int .i64 c, .int .i64 1, .int .i64 p, .int .i64 k, .string ⟨#[]⟩, .float .f64 0] 57)) := (Below.refl _ _).alloc (Nat.le_refl _) _
 obtain ⟨w0, hw0⟩ : ∃ w0, w0 = w.alloc (.cells #[.int .i64 c, .int .i64 1, .int .i64 p, .int .i64 k, .string ⟨#[]⟩, .float .f64 0] 57) := ⟨_, rfl⟩
 have hI : Is w0 w.heap.size 57 [.int .i64 c, .int .i64 1, .int .i64 p, .int .i64 k, .string ⟨#[]⟩, .float .f64 0] := by rw [hw0]; exact is_new w 57 _
 rw [← hw0] at hb
 have HB := Lib.hid hb
 have HI := Lib.hid hI
 have HW := Lib.hid hw0
 clear hb hI hw0
 go_enter Tryz.func88, Tryz.ntmps88
 go_wp2_with fail
 rw [← HW.out]
 obtain ⟨g0, g1, g2, g3, g4, g5⟩ : w0.cell? ⟨w.heap.size, 0, none⟩ = some (.int .i64 c) ∧ w0.cell? ⟨w.heap.size, 1, none⟩ = some (.int .i64 1) ∧ w0.cell? ⟨w.heap.size, 2, none⟩ = some (.int .i64 p) ∧ w0.cell? ⟨w.heap.size, 3, none⟩ = some (.int .i64 k) ∧ w0.cell? ⟨w.heap.size, 4, none⟩ = some (.string ⟨#[]⟩) ∧ w0.cell? ⟨w.heap.size, 5, none⟩ = some (.float .f64 0) := ⟨is_cell HI.out 0, is_cell HI.out 1, is_cell HI.out 2, is_cell HI.out 3, is_cell HI.out 4, is_cell HI.out 5⟩
 refine bodyPost_ret (v := .agg #[.int .i64 c, .int .i64 1, .int .i64 p, .int .i64 k, .string ⟨#[]⟩, .float .f64 0]) (by simp [results, Tryz.f88, go_sem, g0, g1, g2, g3, g4, g5]) rfl ?_
 exact ⟨rfl, HB.out⟩
theorem hold5F {p0 p1 p2 p3 p4 : Addr} {v0 v1 v2 v3 v4 : Value} {wb W W' : World} (h : W.cell? p0 = some v0 ∧ W.cell? p1 = some v1 ∧ W.cell? p2 = some v2 ∧ W.cell? p3 = some v3 ∧ W.cell? p4 = some v4 ∧ Below wb.heap.size wb W) (hb : Below W.heap.size W W') : W'.cell? p0 = some v0 ∧ W'.cell? p1 = some v1 ∧ W'.cell? p2 = some v2 ∧ W'.cell? p3 = some v3 ∧ W'.cell? p4 = some v4 ∧ Below wb.heap.size wb W' := by
 obtain ⟨h0, h1, h2, h3, h4, hB⟩ := h
 exact ⟨keep_cell hb h0, keep_cell hb h1, keep_cell hb h2, keep_cell hb h3, keep_cell hb h4, hB.trans (hb.mono hB.size)⟩
theorem hold5Fd {p0 p1 p2 p3 p4 : Addr} {v0 v1 v2 v3 v4 : Value} {wb W : World} (h : W.cell? p0 = some v0 ∧ W.cell? p1 = some v1 ∧ W.cell? p2 = some v2 ∧ W.cell? p3 = some v3 ∧ W.cell? p4 = some v4 ∧ Below wb.heap.size wb W) : W.drew.cell? p0 = some v0 ∧ W.drew.cell? p1 = some v1 ∧ W.drew.cell? p2 = some v2 ∧ W.drew.cell? p3 = some v3 ∧ W.drew.cell? p4 = some v4 ∧ Below wb.heap.size wb W.drew := by
 obtain ⟨h0, h1, h2, h3, h4, hB⟩ := h
 exact ⟨h0, h1, h2, h3, h4, hB.drew⟩
theorem hold5Fb {p0 p1 p2 p3 p4 : Addr} {v0 v1 v2 v3 v4 : Value} {wb W : World} (h : W.cell? p0 = some v0 ∧ W.cell? p1 = some v1 ∧ W.cell? p2 = some v2 ∧ W.cell? p3 = some v3 ∧ W.cell? p4 = some v4 ∧ Below wb.heap.size wb W) : Below wb.heap.size wb W := by
 obtain ⟨h0, h1, h2, h3, h4, hB⟩ := h
 exact hB
theorem hold5Fs {p0 p1 p2 p3 p4 : Addr} {v0 v1 v2 v3 v4 : Value} {wb : World} (h0 : wb.cell? p0 = some v0) (h1 : wb.cell? p1 = some v1) (h2 : wb.cell? p2 = some v2) (h3 : wb.cell? p3 = some v3) (h4 : wb.cell? p4 = some v4) : wb.drew.cell? p0 = some v0 ∧ wb.drew.cell? p1 = some v1 ∧ wb.drew.cell? p2 = some v2 ∧ wb.drew.cell? p3 = some v3 ∧ wb.drew.cell? p4 = some v4 ∧ Below wb.heap.size wb wb.drew := ⟨h0, h1, h2, h3, h4, (Below.refl _ _).drew⟩
theorem hold5Fset {G J : Nat} {v0 v1 v2 v3 v4 a0 a1 a2 a3 a4 : Value} {wb W : World} (h : W.cell? ⟨G, 0, none⟩ = some v0 ∧ W.cell? ⟨G, 1, none⟩ = some v1 ∧ W.cell? ⟨G, 2, none⟩ = some v2 ∧ W.cell? ⟨G, 3, none⟩ = some v3 ∧ W.cell? ⟨G, 4, none⟩ = some v4 ∧ Below wb.heap.size wb W) (hG : G < wb.heap.size) (hJ : wb.heap.size ≤ J) :
  (set5 W J a0 a1 a2 a3 a4).cell? ⟨G, 0, none⟩ = some v0 ∧ (set5 W J a0 a1 a2 a3 a4).cell? ⟨G, 1, none⟩ = some v1 ∧ (set5 W J a0 a1 a2 a3 a4).cell? ⟨G, 2, none⟩ = some v2 ∧ (set5 W J a0 a1 a2 a3 a4).cell? ⟨G, 3, none⟩ = some v3 ∧ (set5 W J a0 a1 a2 a3 a4).cell? ⟨G, 4, none⟩ = some v4 ∧ Below wb.heap.size wb (set5 W J a0 a1 a2 a3 a4) := by
 obtain ⟨h0, h1, h2, h3, h4, hB⟩ := h
 have hs : (set5 W J a0 a1 a2 a3 a4).heap[G]? = W.heap[G]? := set5_off G (by omega)
 exact ⟨(cell_same hs _).trans h0, (cell_same hs _).trans h1, (cell_same hs _).trans h2, (cell_same hs _).trans h3, (cell_same hs _).trans h4, set5_below hB hJ⟩
theorem hold5Fch {G J : Nat} {v0 v1 v2 v3 v4 a0 a1 a2 a3 a4 : Value} {wb W : World} (h : W.cell? ⟨G, 0, none⟩ = some v0 ∧ W.cell? ⟨G, 1, none⟩ = some v1 ∧ W.cell? ⟨G, 2, none⟩ = some v2 ∧ W.cell? ⟨G, 3, none⟩ = some v3 ∧ W.cell? ⟨G, 4, none⟩ = some v4 ∧ Below wb.heap.size wb W) (hG : G < wb.heap.size) (hJ : wb.heap.size ≤ J) :
  (((((W.setCell ⟨J, 0, none⟩ a0).setCell ⟨J, 1, none⟩ a1).setCell ⟨J, 2, none⟩ a2).setCell ⟨J, 3, none⟩ a3).setCell ⟨J, 4, none⟩ a4).cell? ⟨G, 0, none⟩ = some v0 ∧ (((((W.setCell ⟨J, 0, none⟩ a0).setCell ⟨J, 1, none⟩ a1).setCell ⟨J, 2, none⟩ a2).setCell ⟨J, 3, none⟩ a3).setCell ⟨J, 4, none⟩ a4).cell? ⟨G, 1, none⟩ = some v1 ∧ (((((W.setCell ⟨J, 0, none⟩ a0).setCell ⟨J, 1, none⟩ a1).setCell ⟨J, 2, none⟩ a2).setCell ⟨J, 3, none⟩ a3).setCell ⟨J, 4, none⟩ a4).cell? ⟨G, 2, none⟩ = some v2 ∧ (((((W.setCell ⟨J, 0, none⟩ a0).setCell ⟨J, 1, none⟩ a1).setCell ⟨J, 2, none⟩ a2).setCell ⟨J, 3, none⟩ a3).setCell ⟨J, 4, none⟩ a4).cell? ⟨G, 3, none⟩ = some v3 ∧ (((((W.setCell ⟨J, 0, none⟩ a0).setCell ⟨J, 1, none⟩ a1).setCell ⟨J, 2, none⟩ a2).setCell ⟨J, 3, none⟩ a3).setCell ⟨J, 4, none⟩ a4).cell? ⟨G, 4, none⟩ = some v4 ∧ Below wb.heap.size wb (((((W.setCell ⟨J, 0, none⟩ a0).setCell ⟨J, 1, none⟩ a1).setCell ⟨J, 2, none⟩ a2).setCell ⟨J, 3, none⟩ a3).setCell ⟨J, 4, none⟩ a4) := hold5Fset h hG hJ
def e18 : Rp := ⟨[], 0, 0, [], []⟩
def l18 : List Mv := [(4, 1, 2, 1, [], 0), (2, 1, 1, 0, [], 0), (4, 1, 2, 1, [], 0)]
def r18 : Rp := ⟨[], 0, 0, [(2, 1, 1, 0, [], 0), (4, 1, 2, 1, [], 0)], [(1, 4)]⟩
def s18 : Rp := ⟨[(1, 0, [], 0)], 3, 1, [(4, 1, 2, 1, [], 0)], [(1, 4)]⟩
def t18 : Rp := ⟨[(1, 0, [], 0)], 3, 1, [(4, 1, 2, 1, [], 0), (5, 1, 1, 2, [], 0)], [(1, 5)]⟩
def k18 : List Mv := [(6, 1, 3, 0, [], 0), (0, 0, 0, 0, [], 0)]
def z18 : Rp := ⟨[], 0, 0, [(0, 0, 0, 0, [], 0)], []⟩
def x18 : List Rw := [(1, 0, [], 0), (2, 1, [], 0)]
theorem m18a : mergeF e18 l18 = (r18, 0) := by kernel_rfl
theorem m18b : pruneF r18 3 1 = (s18, 0) := by kernel_rfl
theorem m18c : addF s18 (3, 1, 1, 0, [], 0) = (s18, false, 9) := by kernel_rfl
theorem m18d : addF s18 (5, 1, 1, 2, [], 0) = (t18, true, 0) := by kernel_rfl
theorem m18e : pruneF s18 9 1 = (s18, 1) := by kernel_rfl
theorem m18f : mergeF s18 k18 = (s18, 1) := by kernel_rfl
theorem m18g : treeF s18 = x18 := by kernel_rfl
theorem m18h : mayF t18 = true := by kernel_rfl
theorem m18i : mayF z18 = false := by kernel_rfl
theorem m18j : sameF s18 s18 = true := by kernel_rfl
theorem m18k : sameF r18 s18 = false := by kernel_rfl
theorem m18l : treeF t18 = x18 := by kernel_rfl
theorem mv18 (c k p : Int) : MvOk (c, 1, k, p, [], 0) := ⟨show (0 : Nat) < 18446744073709551616 by decide, show ([] : List UInt8).length ≤ maxLen by unfold maxLen; decide⟩
theorem mv18z : MvOk (0, 0, 0, 0, [], 0) := ⟨show (0 : Nat) < 18446744073709551616 by decide, show ([] : List UInt8).length ≤ maxLen by unfold maxLen; decide⟩
theorem row18 (c p : Int) : rk (c, p, [], 0) < 18446744073709551616 ∧ (nm (c, p, [], 0)).length ≤ maxLen := ⟨show (0 : Nat) < 18446744073709551616 by decide, show ([] : List UInt8).length ≤ maxLen by unfold maxLen; decide⟩
theorem rows18 : Rows_ [(1, 0, [], 0)] := fun r hr => by
 rw [List.mem_singleton] at hr; subst hr; exact row18 1 0
theorem ok18e : RpOk e18 := ⟨by decide, by decide, by decide, (fun r hr => by cases hr), (fun r hr => by cases hr)⟩
theorem two18 {a b : Mv} (ha : MvOk a) (hb : MvOk b) : Moves_ [a, b] := fun m hm => by
 rcases List.mem_cons.1 hm with rfl | hm
 ·exact ha
 ·rw [List.mem_singleton] at hm; subst hm; exact hb
theorem one18 {a : Mv} (ha : MvOk a) : Moves_ [a] := fun m hm => by rw [List.mem_singleton] at hm; subst hm; exact ha
theorem ok18r : RpOk r18 := ⟨by decide, by decide, by decide, (fun r hr => by cases hr), two18 (mv18 2 1 0) (mv18 4 2 1)⟩
theorem ok18s : RpOk s18 := ⟨by decide, by decide, by decide, rows18, one18 (mv18 4 2 1)⟩
theorem ok18t : RpOk t18 := ⟨by decide, by decide, by decide, rows18, two18 (mv18 4 2 1) (mv18 5 1 2)⟩
theorem ok18z : RpOk z18 := ⟨by decide, by decide, by decide, (fun r hr => by cases hr), one18 mv18z⟩
theorem lm18 : Moves_ l18 := fun m hm => by
 rcases List.mem_cons.1 hm with rfl | hm
 ·exact mv18 4 2 1
 ·exact two18 (mv18 2 1 0) (mv18 4 2 1) m hm
theorem lk18 : Moves_ k18 := two18 (mv18 6 3 0) mv18z
theorem at18 (w : World) (l : List Mv) : At (w.alloc (.cells (mvs l).toArray 57)) (w.alloc (.cells (mvs l).toArray 57)).heap.size (some ⟨w.heap.size, 0, none⟩) (mvs l) := fun i v hv =>
 ⟨w.heap.size, 0, rfl, by simp, by rw [Nat.zero_add]; exact (is_cell (is_new w 57 (mvs l)) i).trans hv⟩
theorem at18b (w : World) (o : Obj) (l : List Mv) : At ((w.alloc o).alloc (.cells (mvs l).toArray 57)) ((w.alloc o).alloc (.cells (mvs l).toArray 57)).heap.size (some ⟨w.heap.size + 1, 0, none⟩) (mvs l) := fun i v hv =>
 ⟨w.heap.size + 1, 0, rfl, by simp, by rw [Nat.zero_add]; exact (is_cell (is_newA w 57 (mvs l) _) i).trans hv⟩
theorem at18k (w : World) : At (w.alloc (.cells #[.int .i64 6, .int .i64 1, .int .i64 0, .int .i64 3, .string ⟨#[]⟩, .float .f64 0, .int .i64 0, .int .i64 0, .int .i64 0, .int .i64 0, .string ⟨#[]⟩, .float .f64 0] 57)) (w.alloc (.cells #[.int .i64 6, .int .i64 1, .int .i64 0, .int .i64 3, .string ⟨#[]⟩, .float .f64 0, .int .i64 0, .int .i64 0, .int .i64 0, .int .i64 0, .string ⟨#[]⟩, .float .f64 0] 57)).heap.size (some ⟨w.heap.size, 0, none⟩) (mvs k18) := at18 w k18
theorem at18kb (w : World) (o : Obj) : At ((w.alloc o).alloc (.cells #[.int .i64 6, .int .i64 1, .int .i64 0, .int .i64 3, .string ⟨#[]⟩, .float .f64 0, .int .i64 0, .int .i64 0, .int .i64 0, .int .i64 0, .string ⟨#[]⟩, .float .f64 0] 57)) ((w.alloc o).alloc (.cells #[.int .i64 6, .int .i64 1, .int .i64 0, .int .i64 3, .string ⟨#[]⟩, .float .f64 0, .int .i64 0, .int .i64 0, .int .i64 0, .int .i64 0, .string ⟨#[]⟩, .float .f64 0] 57)).heap.size (some ⟨w.heap.size + 1, 0, none⟩) (mvs k18) := at18b w o k18
set_option maxHeartbeats 16000000 in
theorem live18_c (w : World) :
  Calls Tryz.prog 43 #[] w fun e w' => e = .returned (.bool true) ∧ Below w.heap.size w w' := by
 have S0 := Lib.hid (Bed.start w)
 go_enter Tryz.func43, Tryz.ntmps43
 go_wp2_with fail
 refine (of18_c 4 2 1 _).mono ?_
 rintro e w1 ⟨rfl, hb⟩
 have S1 := Lib.hid (S0.out.step hb)
 clear hb
 go_wp2_with fail
 refine (of18_c 2 1 0 _).mono ?_
 rintro e w2 ⟨rfl, hb⟩
 have S2 := Lib.hid (S1.out.step hb)
 clear hb
 go_wp2_with fail
 refine (of18_c 4 2 1 _).mono ?_
 rintro e w3 ⟨rfl, hb⟩
 have S3 := Lib.hid (S2.out.step hb)
 clear hb
 obtain ⟨w4, hw⟩ : ∃ w4, w4 = w3.alloc (.cells (mvs l18).toArray 57) := ⟨_, rfl⟩
 have hb : Below w3.heap.size w3 w4 := by rw [hw]; exact (Below.refl _ _).alloc (Nat.le_refl _) _
 have S4 := Lib.hid ((S3.out.step hb).addM (A := some ⟨w3.heap.size, 0, none⟩) (l := l18) (by rw [hw]; exact at18 w3 l18))
 have hw2 : w4 = w3.alloc (.cells #[.int .i64 4, .int .i64 1, .int .i64 1, .int .i64 2, .string ⟨#[]⟩, .float .f64 0, .int .i64 2, .int .i64 1, .int .i64 0, .int .i64 1, .string ⟨#[]⟩, .float .f64 0, .int .i64 4, .int .i64 1, .int .i64 1, .int .i64 2, .string ⟨#[]⟩, .float .f64 0] 57) := hw
 have HW4 := Lib.hid hw2
 clear hw hw2 hb
 go_wp2_with fail
 rw [← HW4.out]
 refine (fMerge_v (p := ⟨none, 0, none, 0, none, 0⟩) (r := e18) (l := l18) (r2 := r18) m18a ok18e ⟨fun _ => rfl, Nat.le_refl _, fun _ => rfl, Nat.le_refl _, fun _ => rfl, Nat.le_refl _⟩ (by decide) (by decide) (by decide) lm18 ⟨At.nil _ _ _, At.nil _ _ _, At.nil _ _ _⟩ (S4.out.moves (.head _))).mono ?_
 rintro e w5 ⟨p1, rfl, hg, hb⟩
 have S5 := Lib.hid ((S4.out.step hb).addP (p := p1) (r := r18) hg.at_)
 have PLr := Lib.hid hg.pl
 clear hb hg
 obtain ⟨w6, hw⟩ : ∃ w6, w6 = w5.alloc (.cells #[.slice p1.A1 r18.B.length p1.c1, .int .i64 r18.fc, .int .i64 r18.fr, .slice p1.A2 r18.L.length p1.c2, .slice p1.A3 r18.V.length p1.c3] 55) := ⟨_, rfl⟩
 have hb : Below w5.heap.size w5 w6 := by rw [hw]; exact (Below.refl _ _).alloc (Nat.le_refl _) _
 have S6 := Lib.hid ((S5.out.step hb).addB (g := w5.heap.size) (t := 55) (vs := [.slice p1.A1 r18.B.length p1.c1, .int .i64 r18.fc, .int .i64 r18.fr, .slice p1.A2 r18.L.length p1.c2, .slice p1.A3 r18.V.length p1.c3]) (by rw [hw]; exact is_new w5 55 _))
 have HW6 := Lib.hid hw
 clear hw hb
 have hx := (S6.out.box (.head _))
 rw [HW6.out] at hx
 obtain ⟨⟨y1_0, y1_1, y1_2, y1_3, y1_4⟩, -⟩ := cells5 hx
 clear hx
 go_wp2_with fail
 rw [← HW6.out]
 refine (fPrune_v (r2 := s18) m18b ok18r PLr.out (S6.out.rep (.tail _ (.head _)))).mono ?_
 rintro e w7 ⟨ps, rfl, hg, hb⟩
 have S7 := Lib.hid ((S6.out.step hb).addP (p := ps) (r := s18) hg.at_)
 have PLs := Lib.hid hg.pl
 clear y1_0 y1_1 y1_2 y1_3 y1_4
 clear hb hg
 obtain ⟨w8, hw⟩ : ∃ w8, w8 = w7.alloc (.cells #[.slice ps.A1 s18.B.length ps.c1, .int .i64 s18.fc, .int .i64 s18.fr, .slice ps.A2 s18.L.length ps.c2, .slice ps.A3 s18.V.length ps.c3] 55) := ⟨_, rfl⟩
 have hb : Below w7.heap.size w7 w8 := by rw [hw]; exact (Below.refl _ _).alloc (Nat.le_refl _) _
 have S8 := Lib.hid ((S7.out.step hb).addB (g := w7.heap.size) (t := 55) (vs := [.slice ps.A1 s18.B.length ps.c1, .int .i64 s18.fc, .int .i64 s18.fr, .slice ps.A2 s18.L.length ps.c2, .slice ps.A3 s18.V.length ps.c3]) (by rw [hw]; exact is_new w7 55 _))
 have HW8 := Lib.hid hw
 clear hw hb
 have hx := (S8.out.box (.head _))
 rw [HW8.out] at hx
 obtain ⟨⟨y2_0, y2_1, y2_2, y2_3, y2_4⟩, -⟩ := cells5 hx
 clear hx
 go_upto_region 4 with fail
 rw [← HW8.out]
 clear y2_0 y2_1 y2_2 y2_3 y2_4
 have HIs := Lib.hid (S8.out.box (.head _))
 have HAs := Lib.hid (S8.out.rep (.tail _ (.head _)))
 have hlts := is_lt HIs.out
 obtain ⟨⟨q0, q1, q2, q3, q4⟩, -⟩ := cells5 HIs.out
 go_cut [6, 7, 8] (fun s6 s7 s8 wx => ∃ J : Nat, s6 = .pointer (some ⟨J, 0, none⟩) ∧ s7 = .bool false ∧ s8 = .int .i64 9 ∧ Below w8.heap.size w8 wx)
 case first =>
  go_region_held3 (fun w' => w'.cell? ⟨w7.heap.size, 0, none⟩ = some (.slice ps.A1 s18.B.length ps.c1) ∧ w'.cell? ⟨w7.heap.size, 1, none⟩ = some (.int .i64 s18.fc) ∧ w'.cell? ⟨w7.heap.size, 2, none⟩ = some (.int .i64 s18.fr) ∧ w'.cell? ⟨w7.heap.size, 3, none⟩ = some (.slice ps.A2 s18.L.length ps.c2) ∧ w'.cell? ⟨w7.heap.size, 4, none⟩ = some (.slice ps.A3 s18.V.length ps.c3) ∧ Below w8.heap.size w8 w')
 (first
    | (with_reducible refine hold5Fch hSwa hlts ?_; first | exact hB1.size | exact Nat.le_refl _ | exact Nat.le_succ_of_le hB1.size)
    | (with_reducible exact hold5F (by assumption) hbn)
    | (with_reducible exact hold5F hSwa ((Below.refl _ _).alloc (Nat.le_refl _) _))
    | (with_reducible exact hold5F (by assumption) ((Below.refl _ _).alloc (Nat.le_refl _) _))
    | (with_reducible exact hold5Fd (by assumption))
    | (with_reducible exact hold5Fs q0 q1 q2 q3 q4)
    | go_keep)
   (first | (go_at_call 88; refine (of18_c 3 1 0 _).mono ?_; rintro e v1 ⟨rfl, hbn⟩; have hSv : v1.cell? ⟨w7.heap.size, 0, none⟩ = some (.slice ps.A1 s18.B.length ps.c1) ∧ v1.cell? ⟨w7.heap.size, 1, none⟩ = some (.int .i64 s18.fc) ∧ v1.cell? ⟨w7.heap.size, 2, none⟩ = some (.int .i64 s18.fr) ∧ v1.cell? ⟨w7.heap.size, 3, none⟩ = some (.slice ps.A2 s18.L.length ps.c2) ∧ v1.cell? ⟨w7.heap.size, 4, none⟩ = some (.slice ps.A3 s18.V.length ps.c3) ∧ Below w8.heap.size w8 v1 := hold5F (by assumption) hbn; have hB1 := hold5Fb hSv; first | (have hz1 := is_below (w := (w8.alloc (.cells #[.slice none 0 0, .int .i64 0, .int .i64 0, .slice none 0 0, .slice none 0 0] 55)).drew) (is_new w8 55 [.slice none 0 0, .int .i64 0, .int .i64 0, .slice none 0 0, .slice none 0 0]) hbn (Nat.lt_of_lt_of_eq (Nat.lt_succ_self _) (World.size_alloc _ _).symm); have hlz1 := is_lt hz1) | skip) | (go_at_call 44; refine (fAdd_l (m := (3, 1, 1, 0, [], 0)) m18c ok18s PLs.out (mv18 3 1 0) (HAs.out.keep (hold5Fb (by assumption)))).mono ?_; rintro e w5 ⟨p2, rfl, ha5, pl5, h15, h35, hb5, h25⟩; have hbn := hb5; have hSwa : w5.cell? ⟨w7.heap.size, 0, none⟩ = some (.slice ps.A1 s18.B.length ps.c1) ∧ w5.cell? ⟨w7.heap.size, 1, none⟩ = some (.int .i64 s18.fc) ∧ w5.cell? ⟨w7.heap.size, 2, none⟩ = some (.int .i64 s18.fr) ∧ w5.cell? ⟨w7.heap.size, 3, none⟩ = some (.slice ps.A2 s18.L.length ps.c2) ∧ w5.cell? ⟨w7.heap.size, 4, none⟩ = some (.slice ps.A3 s18.V.length ps.c3) ∧ Below w8.heap.size w8 w5 := hold5F (by assumption) hb5; have H25 := Lib.hid h25; clear h25; have H15 := Lib.hid h15; clear h15; have hB5 := hold5Fb hSwa; first | (have hz5 := is_below hz1 hb5 hlz1; obtain ⟨⟨z0, z1, z2, z3, z4⟩, f0, f1, f2, f3, f4⟩ := cells5 hz5) | (with_reducible have hz5 := is_below (is_new _ 55 [.slice none 0 0, .int .i64 0, .int .i64 0, .slice none 0 0, .slice none 0 0]) hb5 (Nat.lt_of_lt_of_eq (Nat.lt_succ_self _) (World.size_alloc _ _).symm); obtain ⟨⟨z0, z1, z2, z3, z4⟩, f0, f1, f2, f3, f4⟩ := cells5 hz5) | skip))
  all_goals (go_wp2_with fail; go_meet; first | exact ⟨_, rfl, rfl, rfl, hold5Fb (by assumption)⟩)
 case rest =>
 obtain ⟨J4, rfl, rfl, rfl, hb⟩ := hcut
 rename World => w70
 clear q0 q1 q2 q3 q4 hlts HIs HAs
 have S9 := Lib.hid (S8.out.step hb)
 clear hb
 have hx := (S9.out.box (.head _))
 obtain ⟨⟨y3_0, y3_1, y3_2, y3_3, y3_4⟩, -⟩ := cells5 hx
 clear hx
 go_upto_region 5 with fail
 clear y3_0 y3_1 y3_2 y3_3 y3_4
 have HIs := Lib.hid (S9.out.box (.head _))
 have HAs := Lib.hid (S9.out.rep (.tail _ (.head _)))
 have hlts := is_lt HIs.out
 obtain ⟨⟨q0, q1, q2, q3, q4⟩, -⟩ := cells5 HIs.out
 go_cut [9, 10, 11] (fun s9 s10 s11 wx => ∃ (J : Nat) (p2 : Pl), s9 = .pointer (some ⟨J, 0, none⟩) ∧ s10 = .bool true ∧ s11 = .int .i64 0 ∧ Is wx J 55 [.slice p2.A1 t18.B.length p2.c1, .int .i64 t18.fc, .int .i64 t18.fr, .slice p2.A2 t18.L.length p2.c2, .slice p2.A3 t18.V.length p2.c3] ∧ RpAt p2 t18 wx ∧ RpPl p2 t18 ∧ Below w70.heap.size w70 wx)
 case first =>
  go_region_held3 (fun w' => w'.cell? ⟨w7.heap.size, 0, none⟩ = some (.slice ps.A1 s18.B.length ps.c1) ∧ w'.cell? ⟨w7.heap.size, 1, none⟩ = some (.int .i64 s18.fc) ∧ w'.cell? ⟨w7.heap.size, 2, none⟩ = some (.int .i64 s18.fr) ∧ w'.cell? ⟨w7.heap.size, 3, none⟩ = some (.slice ps.A2 s18.L.length ps.c2) ∧ w'.cell? ⟨w7.heap.size, 4, none⟩ = some (.slice ps.A3 s18.V.length ps.c3) ∧ Below w70.heap.size w70 w')
 (first
    | (with_reducible refine hold5Fch hSwa hlts ?_; first | exact hB1.size | exact Nat.le_refl _ | exact Nat.le_succ_of_le hB1.size)
    | (with_reducible exact hold5F (by assumption) hbn)
    | (with_reducible exact hold5F hSwa ((Below.refl _ _).alloc (Nat.le_refl _) _))
    | (with_reducible exact hold5F (by assumption) ((Below.refl _ _).alloc (Nat.le_refl _) _))
    | (with_reducible exact hold5Fd (by assumption))
    | (with_reducible exact hold5Fs q0 q1 q2 q3 q4)
    | go_keep)
   (first | (go_at_call 88; refine (of18_c 5 1 2 _).mono ?_; rintro e v1 ⟨rfl, hbn⟩; have hSv : v1.cell? ⟨w7.heap.size, 0, none⟩ = some (.slice ps.A1 s18.B.length ps.c1) ∧ v1.cell? ⟨w7.heap.size, 1, none⟩ = some (.int .i64 s18.fc) ∧ v1.cell? ⟨w7.heap.size, 2, none⟩ = some (.int .i64 s18.fr) ∧ v1.cell? ⟨w7.heap.size, 3, none⟩ = some (.slice ps.A2 s18.L.length ps.c2) ∧ v1.cell? ⟨w7.heap.size, 4, none⟩ = some (.slice ps.A3 s18.V.length ps.c3) ∧ Below w70.heap.size w70 v1 := hold5F (by assumption) hbn; have hB1 := hold5Fb hSv; first | (have hz1 := is_below (w := (w70.alloc (.cells #[.slice none 0 0, .int .i64 0, .int .i64 0, .slice none 0 0, .slice none 0 0] 55)).drew) (is_new w70 55 [.slice none 0 0, .int .i64 0, .int .i64 0, .slice none 0 0, .slice none 0 0]) hbn (Nat.lt_of_lt_of_eq (Nat.lt_succ_self _) (World.size_alloc _ _).symm); have hlz1 := is_lt hz1) | skip) | (go_at_call 44; refine (fAdd_l (m := (5, 1, 1, 2, [], 0)) m18d ok18s PLs.out (mv18 5 1 2) (HAs.out.keep (hold5Fb (by assumption)))).mono ?_; rintro e w5 ⟨p2, rfl, ha5, pl5, h15, h35, hb5, h25⟩; have hbn := hb5; have hSwa : w5.cell? ⟨w7.heap.size, 0, none⟩ = some (.slice ps.A1 s18.B.length ps.c1) ∧ w5.cell? ⟨w7.heap.size, 1, none⟩ = some (.int .i64 s18.fc) ∧ w5.cell? ⟨w7.heap.size, 2, none⟩ = some (.int .i64 s18.fr) ∧ w5.cell? ⟨w7.heap.size, 3, none⟩ = some (.slice ps.A2 s18.L.length ps.c2) ∧ w5.cell? ⟨w7.heap.size, 4, none⟩ = some (.slice ps.A3 s18.V.length ps.c3) ∧ Below w70.heap.size w70 w5 := hold5F (by assumption) hb5; have H25 := Lib.hid h25; clear h25; have H15 := Lib.hid h15; clear h15; have hB5 := hold5Fb hSwa; first | (have hz5 := is_below hz1 hb5 hlz1; obtain ⟨⟨z0, z1, z2, z3, z4⟩, f0, f1, f2, f3, f4⟩ := cells5 hz5) | (with_reducible have hz5 := is_below (is_new _ 55 [.slice none 0 0, .int .i64 0, .int .i64 0, .slice none 0 0, .slice none 0 0]) hb5 (Nat.lt_of_lt_of_eq (Nat.lt_succ_self _) (World.size_alloc _ _).symm); obtain ⟨⟨z0, z1, z2, z3, z4⟩, f0, f1, f2, f3, f4⟩ := cells5 hz5) | skip))
  all_goals (go_wp2_with fail; go_meet; first | (have hq := hz1; exact ⟨_, p2, rfl, rfl, rfl, (put5_early (wr := w70) (pq := ps) (rq := s18) HAs.out ha5 pl5 H15.out hlz1 h35 hB1 hz1 hb5 H25.out).ij, (put5_early (wr := w70) (pq := ps) (rq := s18) HAs.out ha5 pl5 H15.out hlz1 h35 hB1 hz1 hb5 H25.out).at_, (put5_early (wr := w70) (pq := ps) (rq := s18) HAs.out ha5 pl5 H15.out hlz1 h35 hB1 hz1 hb5 H25.out).pl, hold5Fb (by assumption)⟩) | (have hq := hz5; exact ⟨_, p2, rfl, rfl, rfl, (put5_early (wr := v1) (wq := v1.alloc (.cells #[.slice none 0 0, .int .i64 0, .int .i64 0, .slice none 0 0, .slice none 0 0] 55)) (pq := ps) (rq := s18) (HAs.out.keep hB1) ha5 pl5 H15.out (Nat.le_of_eq (World.size_alloc _ _).symm) h35 ((Below.refl _ _).alloc (Nat.le_refl _) _) (is_new v1 55 [.slice none 0 0, .int .i64 0, .int .i64 0, .slice none 0 0, .slice none 0 0]) hb5 H25.out).ij, (put5_early (wr := v1) (wq := v1.alloc (.cells #[.slice none 0 0, .int .i64 0, .int .i64 0, .slice none 0 0, .slice none 0 0] 55)) (pq := ps) (rq := s18) (HAs.out.keep hB1) ha5 pl5 H15.out (Nat.le_of_eq (World.size_alloc _ _).symm) h35 ((Below.refl _ _).alloc (Nat.le_refl _) _) (is_new v1 55 [.slice none 0 0, .int .i64 0, .int .i64 0, .slice none 0 0, .slice none 0 0]) hb5 H25.out).at_, (put5_early (wr := v1) (wq := v1.alloc (.cells #[.slice none 0 0, .int .i64 0, .int .i64 0, .slice none 0 0, .slice none 0 0] 55)) (pq := ps) (rq := s18) (HAs.out.keep hB1) ha5 pl5 H15.out (Nat.le_of_eq (World.size_alloc _ _).symm) h35 ((Below.refl _ _).alloc (Nat.le_refl _) _) (is_new v1 55 [.slice none 0 0, .int .i64 0, .int .i64 0, .slice none 0 0, .slice none 0 0]) hb5 H25.out).pl, hold5Fb (by assumption)⟩) | exact ⟨_, p2, rfl, rfl, rfl, (put5_late (wr := w70) (pq := ps) (rq := s18) hB1 ha5 pl5 H15.out h35 hb5 H25.out).ij, (put5_late (wr := w70) (pq := ps) (rq := s18) hB1 ha5 pl5 H15.out h35 hb5 H25.out).at_, (put5_late (wr := w70) (pq := ps) (rq := s18) hB1 ha5 pl5 H15.out h35 hb5 H25.out).pl, hold5Fb (by assumption)⟩)
 case rest =>
 obtain ⟨J5, pt, rfl, rfl, rfl, hij, hat, hpt, hb⟩ := hcut
 have PLt := Lib.hid hpt
 rename World => w71
 clear q0 q1 q2 q3 q4 hlts HIs HAs hpt
 have S10 := Lib.hid (((S9.out.step hb).addP (p := pt) (r := t18) hat).addB (g := J5) (t := 55) (vs := [.slice pt.A1 t18.B.length pt.c1, .int .i64 t18.fc, .int .i64 t18.fr, .slice pt.A2 t18.L.length pt.c2, .slice pt.A3 t18.V.length pt.c3]) hij)
 clear hb hij hat
 have hx := (S10.out.box (.tail _ (.tail _ (.head _))))
 obtain ⟨⟨y4_0, y4_1, y4_2, y4_3, y4_4⟩, -⟩ := cells5 hx
 clear hx
 go_wp2_with fail
 refine (fPrune_v (r2 := s18) m18e ok18s PLs.out (S10.out.rep (.tail _ (.tail _ (.tail _ (.head _)))))).mono ?_
 rintro e w11 ⟨p6, rfl, hg, hb⟩
 have S11 := Lib.hid (S10.out.step hb)
 clear y4_0 y4_1 y4_2 y4_3 y4_4
 clear hb hg
 obtain ⟨w12, hw⟩ : ∃ w12, w12 = w11.alloc (.cells #[.slice p6.A1 s18.B.length p6.c1, .int .i64 s18.fc, .int .i64 s18.fr, .slice p6.A2 s18.L.length p6.c2, .slice p6.A3 s18.V.length p6.c3] 55) := ⟨_, rfl⟩
 have hb : Below w11.heap.size w11 w12 := by rw [hw]; exact (Below.refl _ _).alloc (Nat.le_refl _) _
 have S12 := Lib.hid ((S11.out.step hb).addB (g := w11.heap.size) (t := 55) (vs := [.slice p6.A1 s18.B.length p6.c1, .int .i64 s18.fc, .int .i64 s18.fr, .slice p6.A2 s18.L.length p6.c2, .slice p6.A3 s18.V.length p6.c3]) (by rw [hw]; exact is_new w11 55 _))
 have HW12 := Lib.hid hw
 clear hw hb
 have hx := (S12.out.box (.tail _ (.tail _ (.tail _ (.head _)))))
 rw [HW12.out] at hx
 obtain ⟨⟨y5_0, y5_1, y5_2, y5_3, y5_4⟩, -⟩ := cells5 hx
 clear hx
 go_upto_region 7 with fail
 rw [← HW12.out]
 clear y5_0 y5_1 y5_2 y5_3 y5_4
 have HIs := Lib.hid (S12.out.box (.tail _ (.tail _ (.tail _ (.head _)))))
 have HAs := Lib.hid (S12.out.rep (.tail _ (.tail _ (.tail _ (.tail _ (.head _))))))
 have hlts := is_lt HIs.out
 obtain ⟨⟨q0, q1, q2, q3, q4⟩, -⟩ := cells5 HIs.out
 go_cut [14, 15] (fun s14 s15 wx => ∃ J : Nat, s14 = .pointer (some ⟨J, 0, none⟩) ∧ s15 = .int .i64 1 ∧ Below w12.heap.size w12 wx)
 case first =>
  go_region_held3 (fun w' => w'.cell? ⟨w7.heap.size, 0, none⟩ = some (.slice ps.A1 s18.B.length ps.c1) ∧ w'.cell? ⟨w7.heap.size, 1, none⟩ = some (.int .i64 s18.fc) ∧ w'.cell? ⟨w7.heap.size, 2, none⟩ = some (.int .i64 s18.fr) ∧ w'.cell? ⟨w7.heap.size, 3, none⟩ = some (.slice ps.A2 s18.L.length ps.c2) ∧ w'.cell? ⟨w7.heap.size, 4, none⟩ = some (.slice ps.A3 s18.V.length ps.c3) ∧ Below w12.heap.size w12 w')
 (first
    | (with_reducible refine hold5Fch hSwa hlts ?_; first | exact hB1.size | exact Nat.le_refl _ | exact Nat.le_succ_of_le hB1.size)
    | (with_reducible exact hold5F (by assumption) hbn)
    | (with_reducible exact hold5F hSwa ((Below.refl _ _).alloc (Nat.le_refl _) _))
    | (with_reducible exact hold5F (by assumption) ((Below.refl _ _).alloc (Nat.le_refl _) _))
    | (with_reducible exact hold5Fd (by assumption))
    | (with_reducible exact hold5Fs q0 q1 q2 q3 q4)
    | go_keep)
   (first | (go_at_call 88; refine (of18_c 6 3 0 _).mono ?_; rintro e v1 ⟨rfl, hbn⟩; have hSv : v1.cell? ⟨w7.heap.size, 0, none⟩ = some (.slice ps.A1 s18.B.length ps.c1) ∧ v1.cell? ⟨w7.heap.size, 1, none⟩ = some (.int .i64 s18.fc) ∧ v1.cell? ⟨w7.heap.size, 2, none⟩ = some (.int .i64 s18.fr) ∧ v1.cell? ⟨w7.heap.size, 3, none⟩ = some (.slice ps.A2 s18.L.length ps.c2) ∧ v1.cell? ⟨w7.heap.size, 4, none⟩ = some (.slice ps.A3 s18.V.length ps.c3) ∧ Below w12.heap.size w12 v1 := hold5F (by assumption) hbn; have hB1 := hold5Fb hSv; first | (have hz1 := is_below (w := (w12.alloc (.cells #[.slice none 0 0, .int .i64 0, .int .i64 0, .slice none 0 0, .slice none 0 0] 55)).drew) (is_new w12 55 [.slice none 0 0, .int .i64 0, .int .i64 0, .slice none 0 0, .slice none 0 0]) hbn (Nat.lt_of_lt_of_eq (Nat.lt_succ_self _) (World.size_alloc _ _).symm); have hlz1 := is_lt hz1) | skip) | (go_at_call 55; refine (fMerge_v (l := k18) (r2 := s18) m18f ok18s PLs.out (by decide) (by decide) (by decide) lk18 (HAs.out.keep (hold5Fb (by assumption))) (by first | with_reducible exact at18k v1 | with_reducible exact at18kb v1 (.cells #[.slice none 0 0, .int .i64 0, .int .i64 0, .slice none 0 0, .slice none 0 0] 55) | with_reducible exact (at18k v1).keep ((Below.refl _ _).alloc (Nat.le_refl _) _) | exact at18k v1 | exact at18kb v1 (.cells #[.slice none 0 0, .int .i64 0, .int .i64 0, .slice none 0 0, .slice none 0 0] 55) | exact (at18k v1).keep ((Below.refl _ _).alloc (Nat.le_refl _) _))).mono ?_; rintro e w5 ⟨p2, rfl, hg5, hb5⟩; have hbn := hb5; have hSwa : w5.cell? ⟨w7.heap.size, 0, none⟩ = some (.slice ps.A1 s18.B.length ps.c1) ∧ w5.cell? ⟨w7.heap.size, 1, none⟩ = some (.int .i64 s18.fc) ∧ w5.cell? ⟨w7.heap.size, 2, none⟩ = some (.int .i64 s18.fr) ∧ w5.cell? ⟨w7.heap.size, 3, none⟩ = some (.slice ps.A2 s18.L.length ps.c2) ∧ w5.cell? ⟨w7.heap.size, 4, none⟩ = some (.slice ps.A3 s18.V.length ps.c3) ∧ Below w12.heap.size w12 w5 := hold5F (by assumption) hb5; clear hg5; have hB5 := hold5Fb hSwa; first | (have hz5 := is_below (is_below hz1 ((Below.refl _ _).alloc (Nat.le_refl _) (.cells #[.int .i64 6, .int .i64 1, .int .i64 0, .int .i64 3, .string ⟨#[]⟩, .float .f64 0, .int .i64 0, .int .i64 0, .int .i64 0, .int .i64 0, .string ⟨#[]⟩, .float .f64 0] 57)) hlz1) hb5 (Nat.lt_of_lt_of_le hlz1 (Nat.le_of_lt (Nat.lt_of_lt_of_eq (Nat.lt_succ_self _) (World.size_alloc _ _).symm))); obtain ⟨⟨z0, z1, z2, z3, z4⟩, f0, f1, f2, f3, f4⟩ := cells5 hz5) | (with_reducible have hz5 := is_below (is_below (is_new v1 55 [.slice none 0 0, .int .i64 0, .int .i64 0, .slice none 0 0, .slice none 0 0]) ((Below.refl _ _).alloc (Nat.le_refl _) (.cells #[.int .i64 6, .int .i64 1, .int .i64 0, .int .i64 3, .string ⟨#[]⟩, .float .f64 0, .int .i64 0, .int .i64 0, .int .i64 0, .int .i64 0, .string ⟨#[]⟩, .float .f64 0] 57)) (Nat.lt_of_lt_of_eq (Nat.lt_succ_self _) (World.size_alloc _ _).symm)) hb5 (Nat.lt_of_lt_of_le (Nat.lt_of_lt_of_eq (Nat.lt_succ_self _) (World.size_alloc _ _).symm) (Nat.le_of_lt (Nat.lt_of_lt_of_eq (Nat.lt_succ_self _) (World.size_alloc _ _).symm))); obtain ⟨⟨z0, z1, z2, z3, z4⟩, f0, f1, f2, f3, f4⟩ := cells5 hz5) | (with_reducible have hz5 := is_below (is_new (v1.alloc (.cells #[.int .i64 6, .int .i64 1, .int .i64 0, .int .i64 3, .string ⟨#[]⟩, .float .f64 0, .int .i64 0, .int .i64 0, .int .i64 0, .int .i64 0, .string ⟨#[]⟩, .float .f64 0] 57)) 55 [.slice none 0 0, .int .i64 0, .int .i64 0, .slice none 0 0, .slice none 0 0]) hb5 (Nat.lt_of_lt_of_eq (Nat.lt_succ_self _) (World.size_alloc _ _).symm); rw [World.size_alloc] at hz5; have hJ3 := Nat.le_succ_of_le hB1.size; obtain ⟨⟨z0, z1, z2, z3, z4⟩, f0, f1, f2, f3, f4⟩ := cells5 hz5) | skip))
  all_goals (go_wp2_with fail; go_meet; first | exact ⟨_, rfl, rfl, hold5Fb (by assumption)⟩)
 case rest =>
 obtain ⟨J7, rfl, rfl, hb⟩ := hcut
 rename World => w72
 clear q0 q1 q2 q3 q4 hlts HIs HAs
 have S13 := Lib.hid (S12.out.step hb)
 clear hb
 have hx := (S13.out.box (.tail _ (.tail _ (.tail _ (.head _)))))
 obtain ⟨⟨y6_0, y6_1, y6_2, y6_3, y6_4⟩, -⟩ := cells5 hx
 clear hx
 go_wp2_with fail
 refine (ftree_v m18g ok18s PLs.out (S13.out.rep (.tail _ (.tail _ (.tail _ (.tail _ (.head _))))))).mono ?_
 rintro e w14 ⟨AT, cT, rfl, hT, hb⟩
 have S14 := Lib.hid (S13.out.step hb)
 clear y6_0 y6_1 y6_2 y6_3 y6_4
 clear hb hT
 have hmk := RpAt.v (S14.out.rep (.tail _ (.tail _ (.tail _ (.tail _ (.tail _ (.tail _ (.head _))))))))
 have hrw := RpAt.b (S14.out.rep (.tail _ (.tail _ (.tail _ (.tail _ (.head _))))))
 obtain ⟨bm, om, em, -, -, mk1⟩ := mark_cells (k := 0) hmk (show r18.V[0]? = some (1, 4) from rfl)
 obtain ⟨br, orr, er, -, rw0, -⟩ := row_cells (k := 0) hrw (show s18.B[0]? = some (1, 0, [], 0) from rfl)
 rw [Nat.zero_mul, Nat.add_zero] at mk1 rw0
 clear hmk hrw
 have hx := (S14.out.box (.tail _ (.tail _ (.tail _ (.tail _ (.tail _ (.head _)))))))
 obtain ⟨⟨y7_0, y7_1, y7_2, y7_3, y7_4⟩, -⟩ := cells5 hx
 clear hx
 have hx := (S14.out.box (.tail _ (.tail _ (.tail _ (.head _)))))
 obtain ⟨⟨y8_0, y8_1, y8_2, y8_3, y8_4⟩, -⟩ := cells5 hx
 clear hx
 have hx := (S14.out.box (.tail _ (.head _)))
 obtain ⟨⟨y9_0, y9_1, y9_2, y9_3, y9_4⟩, -⟩ := cells5 hx
 clear hx
 rw [em] at y7_4
 rw [er] at y8_0
 clear em er
 have hf1 : (s18.fc == 3) = true := rfl
 have hf2 : decide (s18.fc = 3) = true := rfl
 go_wp2_with fail
 refine (fmay_v m18h ok18t (S14.out.rep (.tail _ (.tail _ (.head _))))).mono ?_
 rintro e w15 ⟨rfl, hb⟩
 have S15 := Lib.hid (S14.out.step hb)
 clear y7_0 y7_1 y7_2 y7_3 y7_4 y8_0 y8_1 y8_2 y8_3 y8_4 y9_0 y9_1 y9_2 y9_3 y9_4
 clear hb mk1 rw0 hf1 hf2
 obtain ⟨w16, hw⟩ : ∃ w16, w16 = w15.alloc (.cells #[.int .i64 0, .int .i64 0, .int .i64 0, .int .i64 0, .string ⟨#[]⟩, .float .f64 0] 57) := ⟨_, rfl⟩
 have hb : Below w15.heap.size w15 w16 := by rw [hw]; exact (Below.refl _ _).alloc (Nat.le_refl _) _
 have S16 := Lib.hid ((S15.out.step hb).addB (g := w15.heap.size) (t := 57) (vs := [.int .i64 0, .int .i64 0, .int .i64 0, .int .i64 0, .string ⟨#[]⟩, .float .f64 0]) (by rw [hw]; exact is_new w15 57 _))
 have HW16 := Lib.hid hw
 clear hw hb
 go_wp2_with fail
 rw [← HW16.out]
 refine (fmay_v (p := ⟨none, 0, some ⟨w15.heap.size, 0, none⟩, 1, none, 0⟩) (r := z18) m18i ok18z ⟨At.nil _ _ _, by have := at18 w15 z18.L; rw [HW16.out]; exact this, At.nil _ _ _⟩).mono ?_
 rintro e w17 ⟨rfl, hb⟩
 have S17 := Lib.hid (S16.out.step hb)
 clear hb
 have hx := (S17.out.box (.tail _ (.tail _ (.tail _ (.tail _ (.head _))))))
 obtain ⟨⟨y10_0, y10_1, y10_2, y10_3, y10_4⟩, -⟩ := cells5 hx
 clear hx
 go_wp2_with fail
 refine (fSame_v m18j ok18s ok18s (S17.out.rep (.tail _ (.tail _ (.tail _ (.tail _ (.tail _ (.head _))))))) (S17.out.rep (.tail _ (.tail _ (.tail _ (.tail _ (.tail _ (.head _)))))))).mono ?_
 rintro e w18 ⟨rfl, hb⟩
 have S18 := Lib.hid (S17.out.step hb)
 clear y10_0 y10_1 y10_2 y10_3 y10_4
 clear hb
 have hx := (S18.out.box (.tail _ (.tail _ (.tail _ (.tail _ (.tail _ (.tail _ (.head _))))))))
 obtain ⟨⟨y11_0, y11_1, y11_2, y11_3, y11_4⟩, -⟩ := cells5 hx
 clear hx
 have hx := (S18.out.box (.tail _ (.tail _ (.tail _ (.tail _ (.head _))))))
 obtain ⟨⟨y12_0, y12_1, y12_2, y12_3, y12_4⟩, -⟩ := cells5 hx
 clear hx
 go_wp2_with fail
 refine (fSame_v m18k ok18r ok18s (S18.out.rep (.tail _ (.tail _ (.tail _ (.tail _ (.tail _ (.tail _ (.tail _ (.head _))))))))) (S18.out.rep (.tail _ (.tail _ (.tail _ (.tail _ (.tail _ (.head _)))))))).mono ?_
 rintro e w19 ⟨rfl, hb⟩
 have S19 := Lib.hid (S18.out.step hb)
 clear y11_0 y11_1 y11_2 y11_3 y11_4 y12_0 y12_1 y12_2 y12_3 y12_4
 clear hb
 have hx := (S19.out.box (.tail _ (.tail _ (.head _))))
 obtain ⟨⟨y13_0, y13_1, y13_2, y13_3, y13_4⟩, -⟩ := cells5 hx
 clear hx
 go_wp2_with fail
 refine (ftree_v m18l ok18t PLt.out (S19.out.rep (.tail _ (.tail _ (.tail _ (.head _)))))).mono ?_
 rintro e w20 ⟨AU, cU, rfl, hU, hb⟩
 have S20 := Lib.hid (S19.out.step hb)
 obtain ⟨bu, ou, eu, -, -, ru1, -⟩ := row_cells (k := 1) hU (show x18[1]? = some (2, 1, [], 0) from rfl)
 subst eu
 clear y13_0 y13_1 y13_2 y13_3 y13_4
 clear hb hU
 go_wp2_with fail
 go_ret
 exact ⟨rfl, S20.out.bel⟩
end Go.Proofs.YthhckdjagnlgpaaGreat
