/-
 Add of replicas.
 Prune of replicas.
-/
import Derived.Test.YthhckdjagnlgpaaGreatWe
import Derived.Deep.RegionWith
section
namespace Go.Proofs.YthhckdjagnlgpaaGreat
open Go.RowKit Go.IntWalk Go.Maps
open Gr
set_option maxRecDepth 100000
attribute [local go_sem] Oper.semAt_some
theorem add_v {p : Pl} {r r2 : Rp} {m : Mv} {b : Bool} {x : Int} (h : addG r m = (r2, b, x)) (ok : RpOk r) (pl : RpPl p r) (hin : RpIn r) (hm1 : rk (mw m) < 18446744073709551616) (hm2 : (nm (mw m)).length ≤ maxLen) {w : World} (ha : RpAt p r w) :
  Calls Tryz.prog 89 #[.agg #[.slice p.A1 r.B.length p.c1, .int .i64 r.fc, .int .i64 r.fr, .slice p.A2 r.L.length p.c2, .slice p.A3 r.V.length p.c3], .agg #[.int .i64 (mc m), .int .i64 (mr m), .int .i64 (pa (mw m)), .int .i64 (ch (mw m)), .string (ba (nm (mw m))), .float .f64 (rk (mw m))]] w fun e w' => ∃ p2 : Pl, e = .returned (.tuple #[.agg #[.slice p2.A1 r2.B.length p2.c1, .int .i64 r2.fc, .int .i64 r2.fr, .slice p2.A2 r2.L.length p2.c2, .slice p2.A3 r2.V.length p2.c3], .bool b, .int .i64 x]) ∧ RpAt p2 r2 w' ∧ RpPl p2 r2 ∧ (p2.A1 = p.A1 ∧ r2.B = r.B) ∧ ((p2.A3 = p.A3 ∧ r2.V = r.V) ∨ Fresh w.heap.size p2.A3) ∧ Below w.heap.size w w' ∧ ((p2.A2 = p.A2 ∧ r2.L = r.L) ∨ Fresh w.heap.size p2.A2) :=
 (add_c ok pl hin m hm1 hm2 ha).mono fun e w' hh => by
  obtain ⟨p2, he, h1, h2, h3, h4, h5⟩ := hh
  rw [h] at he h1 h2 h3 h4 h5
  exact ⟨p2, he, h1, h2, h3, h4, h5⟩
theorem fmay_v {p : Pl} {r : Rp} {b : Bool} (h : mayF r = b) (ok : RpOk r) {w : World} (ha : RpAt p r w) :
  Calls Tryz.prog 48 #[.agg #[.slice p.A1 r.B.length p.c1, .int .i64 r.fc, .int .i64 r.fr, .slice p.A2 r.L.length p.c2, .slice p.A3 r.V.length p.c3]] w fun e w' => e = .returned (.bool b) ∧ Below w.heap.size w w' := by
 subst h; exact fmay_c ok ha
set_option maxHeartbeats 8000000 in
theorem fAdd_c {p : Pl} {r : Rp} (ok : RpOk r) (pl : RpPl p r) (m : Mv) (hm1 : rk (mw m) < 18446744073709551616) (hm2 : (nm (mw m)).length ≤ maxLen) {w : World} (ha : RpAt p r w) :
  Calls Tryz.prog 44 #[.agg #[.slice p.A1 r.B.length p.c1, .int .i64 r.fc, .int .i64 r.fr, .slice p.A2 r.L.length p.c2, .slice p.A3 r.V.length p.c3], .agg #[.int .i64 (mc m), .int .i64 (mr m), .int .i64 (pa (mw m)), .int .i64 (ch (mw m)), .string (ba (nm (mw m))), .float .f64 (rk (mw m))]] w (RpTold p r (addF r m).1 #[.bool (addF r m).2.1, .int .i64 (addF r m).2.2] w) := by
 obtain ⟨w3, hw3⟩ : ∃ w3, w3 = ((w.alloc (.cells #[.slice p.A1 r.B.length p.c1, .int .i64 r.fc, .int .i64 r.fr, .slice p.A2 r.L.length p.c2, .slice p.A3 r.V.length p.c3] 55)).alloc (.cells #[.int .i64 (mc m), .int .i64 (mr m), .int .i64 (pa (mw m)), .int .i64 (ch (mw m)), .string (ba (nm (mw m))), .float .f64 (rk (mw m))] 57)).alloc (.cells #[.slice none 0 0, .int .i64 0, .int .i64 0, .slice none 0 0, .slice none 0 0] 55) := ⟨_, rfl⟩
 have hI : Is w3 w.heap.size 55 [.slice p.A1 r.B.length p.c1, .int .i64 r.fc, .int .i64 r.fr, .slice p.A2 r.L.length p.c2, .slice p.A3 r.V.length p.c3] := by
  rw [hw3]
  exact is_below (is_below (is_new w 55 _) ((Below.refl _ _).alloc (Nat.le_refl _) _) (by simp)) ((Below.refl _ _).alloc (Nat.le_refl _) _) (by simp; omega)
 have hM : Is w3 (w.heap.size + 1) 57 [.int .i64 (mc m), .int .i64 (mr m), .int .i64 (pa (mw m)), .int .i64 (ch (mw m)), .string (ba (nm (mw m))), .float .f64 (rk (mw m))] := by
  rw [hw3]
  exact is_below (is_newA w 57 _ _) ((Below.refl _ _).alloc (Nat.le_refl _) _) (by simp)
 have hZ : Is w3 (w.heap.size + 1 + 1) 55 [.slice none 0 0, .int .i64 0, .int .i64 0, .slice none 0 0, .slice none 0 0] := by rw [hw3]; exact is_newB w 55 _ _ _
 have hb3 : Below w.heap.size w w3 := by
  rw [hw3]
  exact (((Below.refl w.heap.size w).alloc (Nat.le_refl _) _).alloc (by simp) _).alloc (by simp; omega) _
 have HA := Lib.hid ha
 have PL := Lib.hid pl
 have OK := Lib.hid ok
 have HW := Lib.hid hw3
 have HI := Lib.hid hI
 have HM := Lib.hid hM
 have HZ := Lib.hid hZ
 have HB := Lib.hid hb3
 have HM1 := Lib.hid hm1
 have HM2 := Lib.hid hm2
 obtain ⟨⟨q0, q1, q2, q3, q4⟩, -⟩ := cells5 hI
 clear ha pl ok hw3 hI hM hZ hb3 hm1 hm2
 cases hmay : mayF r with
 | false =>
  have hres : addF r m = (r, false, 1) := by unfold addF; rw [if_pos hmay]
  rw [hres]
  have HMAY := Lib.hid hmay
  clear hmay hres
  go_enter Tryz.func44, Tryz.ntmps44
  go_wp2_with fail
  rw [← HW.out]
  refine (fmay_v HMAY.out OK.out (HA.out.keep HB.out)).mono ?_
  rintro e w4 ⟨rfl, hb4⟩
  have HI4 := Lib.hid (is_below HI.out hb4 (is_lt HI.out))
  have HM4 := Lib.hid (is_below HM.out hb4 (is_lt HM.out))
  have HZ4 := Lib.hid (is_below HZ.out hb4 (is_lt HZ.out))
  have HB4 := Lib.hid (HB.out.trans (hb4.mono HB.out.size))
  clear q0 q1 q2 q3 q4 hb4
  obtain ⟨⟨q0, q1, q2, q3, q4⟩, -⟩ := cells5 HI4.out
  obtain ⟨⟨z0, z1, z2, z3, z4⟩, f0, f1, f2, f3, f4⟩ := cells5 HZ4.out
  have HI9 := Lib.hid (set5_is (a0 := .slice p.A1 r.B.length p.c1) (a1 := .int .i64 r.fc) (a2 := .int .i64 r.fr) (a3 := .slice p.A2 r.L.length p.c2) (a4 := .slice p.A3 r.V.length p.c3) HZ4.out)
  have HB9 := Lib.hid (set5_below (a0 := .slice p.A1 r.B.length p.c1) (a1 := .int .i64 r.fc) (a2 := .int .i64 r.fr) (a3 := .slice p.A2 r.L.length p.c2) (a4 := .slice p.A3 r.V.length p.c3) (G := w.heap.size + 1 + 1) HB4.out (by omega))
  go_wp2_with fail
  clear q0 q1 q2 q3 q4 z0 z1 z2 z3 z4 f0 f1 f2 f3 f4
  obtain ⟨w9, hw9⟩ : ∃ w9, w9 = set5 w4 (w.heap.size + 1 + 1) (.slice p.A1 r.B.length p.c1) (.int .i64 r.fc) (.int .i64 r.fr) (.slice p.A2 r.L.length p.c2) (.slice p.A3 r.V.length p.c3) := ⟨_, rfl⟩
  have hi9 := HI9.out
  have hb9 := HB9.out
  have hk9 : ∀ k, k ≠ w.heap.size + 1 + 1 → w9.heap[k]? = w4.heap[k]? := fun k hk => by rw [hw9, set5_off k hk]
  have hs9 : w9.heap.size = w4.heap.size := by rw [hw9, set5_size]
  rw [← hw9] at hi9 hb9
  unfold set5 at hw9
  rw [← hw9]
  obtain ⟨⟨j0, j1, j2, j3, j4⟩, -⟩ := cells5 hi9
  refine bodyPost_ret (v := .tuple #[.agg #[.slice p.A1 r.B.length p.c1, .int .i64 r.fc, .int .i64 r.fr, .slice p.A2 r.L.length p.c2, .slice p.A3 r.V.length p.c3], .bool false, .int .i64 1]) (by simp [results, Tryz.f44, go_sem, j0, j1, j2, j3, j4]) rfl ?_
  exact ⟨p, rfl, HA.out.keep hb9, PL.out, ⟨rfl, rfl⟩, .inl ⟨rfl, rfl⟩, hb9, .inl ⟨rfl, rfl⟩⟩
 | true =>
  have hres : addF r m = addG r m := by unfold addF; rw [if_neg (by rw [hmay]; decide)]
  rw [hres]
  have HMAY := Lib.hid hmay
  obtain ⟨o, ho⟩ : ∃ o, addG r m = o := ⟨_, rfl⟩
  rw [ho]
  obtain ⟨r2, b, x⟩ := o
  have HO := Lib.hid ho
  clear hmay hres ho
  go_enter Tryz.func44, Tryz.ntmps44
  go_wp2_with fail
  rw [← HW.out]
  refine (fmay_v HMAY.out OK.out (HA.out.keep HB.out)).mono ?_
  rintro e w4 ⟨rfl, hb4⟩
  have HI4 := Lib.hid (is_below HI.out hb4 (is_lt HI.out))
  have HM4 := Lib.hid (is_below HM.out hb4 (is_lt HM.out))
  have HZ4 := Lib.hid (is_below HZ.out hb4 (is_lt HZ.out))
  have HB4 := Lib.hid (HB.out.trans (hb4.mono HB.out.size))
  clear q0 q1 q2 q3 q4 hb4
  obtain ⟨⟨q0, q1, q2, q3, q4⟩, -⟩ := cells5 HI4.out
  obtain ⟨m0, m1, m2, m3, m4, m5⟩ := box6 (m := m) HM4.out
  have hsz4 := is_lt HZ4.out
  go_wp2_with fail
  refine (add_v HO.out OK.out PL.out (mayF_in HMAY.out) HM1.out HM2.out (HA.out.keep HB4.out)).mono ?_
  rintro e w5 ⟨p2, rfl, ha5, pl5, h15, h35, hb5, h25⟩
  have HI5 := Lib.hid (is_below HI4.out hb5 (is_lt HI4.out))
  have HM5 := Lib.hid (is_below HM4.out hb5 (is_lt HM4.out))
  have HZ5 := Lib.hid (is_below HZ4.out hb5 (is_lt HZ4.out))
  have HB5 := Lib.hid (HB4.out.trans (hb5.mono HB4.out.size))
  have HA5 := Lib.hid ha5
  have H25 : Hid ((p2.A2 = p.A2 ∧ r2.L = r.L) ∨ Fresh w.heap.size p2.A2) := Lib.hid (h25.imp id fun h a ha => Nat.le_trans HB4.out.size (h a ha))
  have PL5 := Lib.hid pl5
  have H15 := Lib.hid h15
  have H35 := Lib.hid h35
  have hz5 := Nat.lt_of_lt_of_le hsz4 hb5.size
  have H35b : Hid ((p2.A3 = p.A3 ∧ r2.V = r.V) ∨ Fresh w.heap.size p2.A3) := Lib.hid (h35.imp id fun h a ha => Nat.le_trans HB4.out.size (h a ha))
  have H1 := Lib.hid (rows_same (G := w.heap.size + 1 + 1) HA.out.b (by omega))
  have H3 := Lib.hid (marks_off (G := w.heap.size + 1 + 1) HA.out.v h35 (by omega) hsz4)
  clear q0 q1 q2 q3 q4 m0 m1 m2 m3 m4 m5 ha5 pl5 h15 h35 hb5 h25
  obtain ⟨⟨z0, z1, z2, z3, z4⟩, f0, f1, f2, f3, f4⟩ := cells5 HZ5.out
  have HI9 := Lib.hid (set5_is (a0 := .slice p2.A1 r2.B.length p2.c1) (a1 := .int .i64 r2.fc) (a2 := .int .i64 r2.fr) (a3 := .slice p2.A2 r2.L.length p2.c2) (a4 := .slice p2.A3 r2.V.length p2.c3) HZ5.out)
  have HB9 := Lib.hid (set5_below (a0 := .slice p2.A1 r2.B.length p2.c1) (a1 := .int .i64 r2.fc) (a2 := .int .i64 r2.fr) (a3 := .slice p2.A2 r2.L.length p2.c2) (a4 := .slice p2.A3 r2.V.length p2.c3) (G := w.heap.size + 1 + 1) HB5.out (by omega))
  go_wp2_with fail
  clear z0 z1 z2 z3 z4 f0 f1 f2 f3 f4
  obtain ⟨w9, hw9⟩ : ∃ w9, w9 = set5 w5 (w.heap.size + 1 + 1) (.slice p2.A1 r2.B.length p2.c1) (.int .i64 r2.fc) (.int .i64 r2.fr) (.slice p2.A2 r2.L.length p2.c2) (.slice p2.A3 r2.V.length p2.c3) := ⟨_, rfl⟩
  have hi9 := HI9.out
  have hb9 := HB9.out
  have hk9 : ∀ k, k ≠ w.heap.size + 1 + 1 → w9.heap[k]? = w5.heap[k]? := fun k hk => by rw [hw9, set5_off k hk]
  have hs9 : w9.heap.size = w5.heap.size := by rw [hw9, set5_size]
  rw [← hw9] at hi9 hb9
  unfold set5 at hw9
  rw [← hw9]
  obtain ⟨⟨j0, j1, j2, j3, j4⟩, -⟩ := cells5 hi9
  refine bodyPost_ret (v := .tuple #[.agg #[.slice p2.A1 r2.B.length p2.c1, .int .i64 r2.fc, .int .i64 r2.fr, .slice p2.A2 r2.L.length p2.c2, .slice p2.A3 r2.V.length p2.c3], .bool b, .int .i64 x]) (by simp [results, Tryz.f44, go_sem, j0, j1, j2, j3, j4]) rfl ?_
  exact ⟨p2, rfl, ⟨at_offG HA5.out.b (by rw [H15.out.1, H15.out.2]; exact H1.out) hk9 hs9, at_offG HA5.out.l (moves_off HZ5.out rfl HA5.out.l) hk9 hs9, at_offG HA5.out.v H3.out hk9 hs9⟩, PL5.out, H15.out, H35b.out, hb9, H25.out⟩
end Go.Proofs.YthhckdjagnlgpaaGreat
end
section
namespace Go.Proofs.YthhckdjagnlgpaaGreat
open Go.RowKit Go.IntWalk Go.Maps
open Gr
set_option maxRecDepth 100000
attribute [local go_sem] Oper.semAt_some
theorem known_v {A : Option Addr} {cap : Nat} {v : List Mk} {c r : Int} {b : Bool} (h : knownK v c r = b) (hl : v.length ≤ maxLen) {w : World} (hc : At w w.heap.size A (kvs v)) :
  Calls Tryz.prog 93 #[.slice A v.length cap, .agg #[.int .i64 c, .int .i64 r]] w fun e w' => e = .returned (.bool b) ∧ Below w.heap.size w w' := by
 subst h; exact known_c A cap v c r hl w hc
theorem all_v {A A2 : Option Addr} {cap cap2 n : Nat} {l X : List Rw} {ms : List Mv} (hn : ms.length = n) (hX : allP l ms = X) (hl : l.length + n ≤ 100000) (hA : A = none → cap = 0) (hcap : l.length ≤ cap) {w : World} (hc : At w w.heap.size A (tvs l)) (hc2 : At w w.heap.size A2 (mvs ms)) :
  Calls Tryz.prog 96 #[.slice A l.length cap, .slice A2 n cap2] w fun e w' => ∃ A' c', e = .returned (.slice A' X.length c') ∧ At w' w'.heap.size A' (tvs X) ∧ (A' = none → c' = 0) ∧ X.length ≤ c' ∧ Below w.heap.size w w' := by
 subst hn
 subst hX
 exact mall_c A A2 cap cap2 l ms hl hA hcap (allP_above hl) w hc hc2
theorem rows_off {w : World} {G : Nat} {t : TypeId} {vs : List Value} {A : Option Addr} {L : List Rw} (hI : Is w G t vs) (hs : ∀ s, .string s ∉ vs) (h : At w w.heap.size A (tvs L)) : tvs L = [] ∨ ∀ a, A = some a → a.block ≠ G := by
 cases L with
 | nil => exact .inl rfl
 | cons x t2 =>
  right
  intro a ha hg
  obtain ⟨b, off, hA, _, hc⟩ := h 2 (.string (ba (nm x))) rfl
  rw [ha] at hA
  cases hA
  simp only at hg
  subst hg
  rw [is_cell hI] at hc
  exact hs _ (List.mem_of_getElem? hc)
theorem pr_facts {w8 : World} {G : Nat} {t : TypeId} {x0 x1 x2 x3 x4 a0 a1 a2 a3 : Value} (h : Is w8 G t [x0, x1, x2, x3, x4]) :
  (w8.cell? ⟨G, 0, none⟩ = some x0 ∧ w8.frozen? ⟨G, 0, none⟩ = false) ∧ ((w8.setCell ⟨G, 0, none⟩ a0).cell? ⟨G, 1, none⟩ = some x1 ∧ (w8.setCell ⟨G, 0, none⟩ a0).frozen? ⟨G, 1, none⟩ = false ∧ (w8.setCell ⟨G, 0, none⟩ a0).cell? ⟨G, 2, none⟩ = some x2 ∧ (w8.setCell ⟨G, 0, none⟩ a0).frozen? ⟨G, 2, none⟩ = false) ∧
  ((((w8.setCell ⟨G, 0, none⟩ a0).setCell ⟨G, 1, none⟩ a1).setCell ⟨G, 2, none⟩ a2).cell? ⟨G, 3, none⟩ = some x3 ∧ (((w8.setCell ⟨G, 0, none⟩ a0).setCell ⟨G, 1, none⟩ a1).setCell ⟨G, 2, none⟩ a2).frozen? ⟨G, 3, none⟩ = false) ∧
  Is ((((w8.setCell ⟨G, 0, none⟩ a0).setCell ⟨G, 1, none⟩ a1).setCell ⟨G, 2, none⟩ a2).setCell ⟨G, 3, none⟩ a3) G t [a0, a1, a2, a3, x4] := by
 have h1 : Is (w8.setCell ⟨G, 0, none⟩ a0) G t [a0, x1, x2, x3, x4] := is_set h 0 a0
 have h2 : Is ((w8.setCell ⟨G, 0, none⟩ a0).setCell ⟨G, 1, none⟩ a1) G t [a0, a1, x2, x3, x4] := is_set h1 1 a1
 have h3 : Is (((w8.setCell ⟨G, 0, none⟩ a0).setCell ⟨G, 1, none⟩ a1).setCell ⟨G, 2, none⟩ a2) G t [a0, a1, a2, x3, x4] := is_set h2 2 a2
 exact ⟨⟨is_cell h 0, is_free h 0⟩, ⟨is_cell h1 1, is_free h1 1, is_cell h1 2, is_free h1 2⟩, ⟨is_cell h3 3, is_free h3 3⟩, is_set h3 3 a3⟩
def pset4 (w : World) (G : Nat) (a0 a1 a2 a3 : Value) : World := ((((w.setCell ⟨G, 0, none⟩ a0).setCell ⟨G, 1, none⟩ a1).setCell ⟨G, 2, none⟩ a2).setCell ⟨G, 3, none⟩ a3)
theorem pset4_off {w : World} {G : Nat} {a0 a1 a2 a3 : Value} (k : Nat) (h : k ≠ G) : (pset4 w G a0 a1 a2 a3).heap[k]? = w.heap[k]? := by
 unfold pset4
 iterate 4 rw [Below.heap_setCell _ _ _ _ h]
theorem pset4_size {w : World} {G : Nat} {a0 a1 a2 a3 : Value} : (pset4 w G a0 a1 a2 a3).heap.size = w.heap.size := by simp [pset4]
theorem pset4_below {w W : World} {N G : Nat} {a0 a1 a2 a3 : Value} (h : Below N w W) (hg : N ≤ G) : Below N w (pset4 W G a0 a1 a2 a3) :=
 ((((h.setCell (p := ⟨G, 0, none⟩) hg _).setCell (p := ⟨G, 1, none⟩) hg _).setCell (p := ⟨G, 2, none⟩) hg _).setCell (p := ⟨G, 3, none⟩) hg _)
/-- told: a replica and a number -/
def PrTold (p0 : Pl) (r0 r : Rp) (x : Int) (w : World) (e : Ending) (w' : World) : Prop :=
 ∃ p : Pl, e = .returned (.tuple #[.agg #[.slice p.A1 r.B.length p.c1, .int .i64 r.fc, .int .i64 r.fr, .slice p.A2 r.L.length p.c2, .slice p.A3 r.V.length p.c3], .int .i64 x]) ∧ RpAt p r w' ∧ RpPl p r ∧ (p.A3 = p0.A3 ∧ r.V = r0.V) ∧ Below w.heap.size w w'
set_option maxHeartbeats 16000000 in
theorem fPrune_c {p : Pl} {r : Rp} (ok : RpOk r) (pl : RpPl p r) (c q : Int) {w : World} (ha : RpAt p r w) :
  Calls Tryz.prog 46 #[.agg #[.slice p.A1 r.B.length p.c1, .int .i64 r.fc, .int .i64 r.fr, .slice p.A2 r.L.length p.c2, .slice p.A3 r.V.length p.c3], .agg #[.int .i64 c, .int .i64 q]] w (PrTold p r (pruneF r c q).1 (pruneF r c q).2 w) := by
 obtain ⟨w3, hw3⟩ : ∃ w3, w3 = ((w.alloc (.cells #[.slice p.A1 r.B.length p.c1, .int .i64 r.fc, .int .i64 r.fr, .slice p.A2 r.L.length p.c2, .slice p.A3 r.V.length p.c3] 55)).alloc (.cells #[.int .i64 c, .int .i64 q] 51)).alloc (.cells #[.slice none 0 0, .int .i64 0, .int .i64 0, .slice none 0 0, .slice none 0 0] 55) := ⟨_, rfl⟩
 have hI : Is w3 w.heap.size 55 [.slice p.A1 r.B.length p.c1, .int .i64 r.fc, .int .i64 r.fr, .slice p.A2 r.L.length p.c2, .slice p.A3 r.V.length p.c3] := by
  rw [hw3]
  exact is_below (is_below (is_new w 55 _) ((Below.refl _ _).alloc (Nat.le_refl _) _) (by simp)) ((Below.refl _ _).alloc (Nat.le_refl _) _) (by simp; omega)
 have hM : Is w3 (w.heap.size + 1) 51 [.int .i64 c, .int .i64 q] := by
  rw [hw3]
  exact is_below (is_newA w 51 _ _) ((Below.refl _ _).alloc (Nat.le_refl _) _) (by simp)
 have hZ : Is w3 (w.heap.size + 1 + 1) 55 [.slice none 0 0, .int .i64 0, .int .i64 0, .slice none 0 0, .slice none 0 0] := by rw [hw3]; exact is_newB w 55 _ _ _
 have hb3 : Below w.heap.size w w3 := by
  rw [hw3]
  exact (((Below.refl w.heap.size w).alloc (Nat.le_refl _) _).alloc (by simp) _).alloc (by simp; omega) _
 have HA := Lib.hid ha
 have PL := Lib.hid pl
 have OK := Lib.hid ok
 have HW := Lib.hid hw3
 have HI := Lib.hid hI
 have HM := Lib.hid hM
 have HZ := Lib.hid hZ
 have HB := Lib.hid hb3
 obtain ⟨⟨q0, q1, q2, q3, q4⟩, -⟩ := cells5 hI
 have hlb := ok.lb
 have hll := ok.ll
 have hlv := ok.lv
 clear ha pl ok hw3 hI hM hZ hb3
 cases hmay : mayF r with
 | false =>
  have hres : pruneF r c q = (r, 1) := by unfold pruneF; rw [if_pos hmay]
  rw [hres]
  have HMAY := Lib.hid hmay
  clear hmay hres
  go_enter Tryz.func46, Tryz.ntmps46
  go_wp2_with fail
  rw [← HW.out]
  refine (fmay_v HMAY.out OK.out (HA.out.keep HB.out)).mono ?_
  rintro e w4 ⟨rfl, hb4⟩
  have HI4 := Lib.hid (is_below HI.out hb4 (is_lt HI.out))
  have HM4 := Lib.hid (is_below HM.out hb4 (is_lt HM.out))
  have HZ4 := Lib.hid (is_below HZ.out hb4 (is_lt HZ.out))
  have HB4 := Lib.hid (HB.out.trans (hb4.mono HB.out.size))
  clear q0 q1 q2 q3 q4 hb4
  obtain ⟨⟨q0, q1, q2, q3, q4⟩, -⟩ := cells5 HI4.out
  obtain ⟨⟨z0, z1, z2, z3, z4⟩, f0, f1, f2, f3, f4⟩ := cells5 HZ4.out
  have HI9 := Lib.hid (set5_is (a0 := .slice p.A1 r.B.length p.c1) (a1 := .int .i64 r.fc) (a2 := .int .i64 r.fr) (a3 := .slice p.A2 r.L.length p.c2) (a4 := .slice p.A3 r.V.length p.c3) HZ4.out)
  have HB9 := Lib.hid (set5_below (a0 := .slice p.A1 r.B.length p.c1) (a1 := .int .i64 r.fc) (a2 := .int .i64 r.fr) (a3 := .slice p.A2 r.L.length p.c2) (a4 := .slice p.A3 r.V.length p.c3) (G := w.heap.size + 1 + 1) HB4.out (by omega))
  go_wp2_with fail
  clear q0 q1 q2 q3 q4 z0 z1 z2 z3 z4 f0 f1 f2 f3 f4
  obtain ⟨w9, hw9⟩ : ∃ w9, w9 = set5 w4 (w.heap.size + 1 + 1) (.slice p.A1 r.B.length p.c1) (.int .i64 r.fc) (.int .i64 r.fr) (.slice p.A2 r.L.length p.c2) (.slice p.A3 r.V.length p.c3) := ⟨_, rfl⟩
  have hi9 := HI9.out
  have hb9 := HB9.out
  have hk9 : ∀ k, k ≠ w.heap.size + 1 + 1 → w9.heap[k]? = w4.heap[k]? := fun k hk => by rw [hw9, set5_off k hk]
  have hs9 : w9.heap.size = w4.heap.size := by rw [hw9, set5_size]
  rw [← hw9] at hi9 hb9
  unfold set5 at hw9
  rw [← hw9]
  obtain ⟨⟨j0, j1, j2, j3, j4⟩, -⟩ := cells5 hi9
  refine bodyPost_ret (v := .tuple #[.agg #[.slice p.A1 r.B.length p.c1, .int .i64 r.fc, .int .i64 r.fr, .slice p.A2 r.L.length p.c2, .slice p.A3 r.V.length p.c3], .int .i64 1]) (by simp [results, Tryz.f46, go_sem, j0, j1, j2, j3, j4]) rfl ?_
  exact ⟨p, rfl, HA.out.keep hb9, PL.out, ⟨rfl, rfl⟩, hb9⟩
 | true =>
  have HMAY := Lib.hid hmay
  cases hkn : knownK r.V c q with
  | false =>
   have hres : pruneF r c q = (r, 1) := by unfold pruneF; rw [if_neg (by rw [hmay]; decide), if_pos hkn]
   rw [hres]
   have HKN := Lib.hid hkn
   clear hmay hkn hres
   go_enter Tryz.func46, Tryz.ntmps46
   go_wp2_with fail
   rw [← HW.out]
   refine (fmay_v HMAY.out OK.out (HA.out.keep HB.out)).mono ?_
   rintro e w4 ⟨rfl, hb4⟩
   have HI4 := Lib.hid (is_below HI.out hb4 (is_lt HI.out))
   have HM4 := Lib.hid (is_below HM.out hb4 (is_lt HM.out))
   have HZ4 := Lib.hid (is_below HZ.out hb4 (is_lt HZ.out))
   have HB4 := Lib.hid (HB.out.trans (hb4.mono HB.out.size))
   clear q0 q1 q2 q3 q4 hb4
   obtain ⟨⟨q0, q1, q2, q3, q4⟩, -⟩ := cells5 HI4.out
   obtain ⟨t0, t1⟩ := box2 HM4.out
   go_wp2_with fail
   refine (known_v HKN.out (by unfold maxLen; omega) (HA.out.keep HB4.out).v).mono ?_
   rintro e w5 ⟨rfl, hb5⟩
   have HI5 := Lib.hid (is_below HI4.out hb5 (is_lt HI4.out))
   have HM5 := Lib.hid (is_below HM4.out hb5 (is_lt HM4.out))
   have HZ5 := Lib.hid (is_below HZ4.out hb5 (is_lt HZ4.out))
   have HB5 := Lib.hid (HB4.out.trans (hb5.mono HB4.out.size))
   clear q0 q1 q2 q3 q4 t0 t1 hb5
   obtain ⟨⟨q0, q1, q2, q3, q4⟩, -⟩ := cells5 HI5.out
   obtain ⟨⟨z0, z1, z2, z3, z4⟩, f0, f1, f2, f3, f4⟩ := cells5 HZ5.out
   have HI9 := Lib.hid (set5_is (a0 := .slice p.A1 r.B.length p.c1) (a1 := .int .i64 r.fc) (a2 := .int .i64 r.fr) (a3 := .slice p.A2 r.L.length p.c2) (a4 := .slice p.A3 r.V.length p.c3) HZ5.out)
   have HB9 := Lib.hid (set5_below (a0 := .slice p.A1 r.B.length p.c1) (a1 := .int .i64 r.fc) (a2 := .int .i64 r.fr) (a3 := .slice p.A2 r.L.length p.c2) (a4 := .slice p.A3 r.V.length p.c3) (G := w.heap.size + 1 + 1) HB5.out (by omega))
   go_wp2_with fail
   clear q0 q1 q2 q3 q4 z0 z1 z2 z3 z4 f0 f1 f2 f3 f4
   obtain ⟨w9, hw9⟩ : ∃ w9, w9 = set5 w5 (w.heap.size + 1 + 1) (.slice p.A1 r.B.length p.c1) (.int .i64 r.fc) (.int .i64 r.fr) (.slice p.A2 r.L.length p.c2) (.slice p.A3 r.V.length p.c3) := ⟨_, rfl⟩
   have hi9 := HI9.out
   have hb9 := HB9.out
   have hk9 : ∀ k, k ≠ w.heap.size + 1 + 1 → w9.heap[k]? = w5.heap[k]? := fun k hk => by rw [hw9, set5_off k hk]
   have hs9 : w9.heap.size = w5.heap.size := by rw [hw9, set5_size]
   rw [← hw9] at hi9 hb9
   unfold set5 at hw9
   rw [← hw9]
   obtain ⟨⟨j0, j1, j2, j3, j4⟩, -⟩ := cells5 hi9
   refine bodyPost_ret (v := .tuple #[.agg #[.slice p.A1 r.B.length p.c1, .int .i64 r.fc, .int .i64 r.fr, .slice p.A2 r.L.length p.c2, .slice p.A3 r.V.length p.c3], .int .i64 1]) (by simp [results, Tryz.f46, go_sem, j0, j1, j2, j3, j4]) rfl ?_
   exact ⟨p, rfl, HA.out.keep hb9, PL.out, ⟨rfl, rfl⟩, hb9⟩
  | true =>
   have HKN := Lib.hid hkn
   cases hbf : befT r.fc r.fr c q with
   | false =>
    have hres : pruneF r c q = (r, 0) := by unfold pruneF; rw [if_neg (by rw [hmay]; decide), if_neg (by rw [hkn]; decide), if_pos hbf]
    rw [hres]
    have HBF := Lib.hid hbf
    clear hmay hkn hbf hres
    go_enter Tryz.func46, Tryz.ntmps46
    go_wp2_with fail
    rw [← HW.out]
    refine (fmay_v HMAY.out OK.out (HA.out.keep HB.out)).mono ?_
    rintro e w4 ⟨rfl, hb4⟩
    have HI4 := Lib.hid (is_below HI.out hb4 (is_lt HI.out))
    have HM4 := Lib.hid (is_below HM.out hb4 (is_lt HM.out))
    have HZ4 := Lib.hid (is_below HZ.out hb4 (is_lt HZ.out))
    have HB4 := Lib.hid (HB.out.trans (hb4.mono HB.out.size))
    clear q0 q1 q2 q3 q4 hb4
    obtain ⟨⟨q0, q1, q2, q3, q4⟩, -⟩ := cells5 HI4.out
    obtain ⟨t0, t1⟩ := box2 HM4.out
    go_wp2_with fail
    refine (known_v HKN.out (by unfold maxLen; omega) (HA.out.keep HB4.out).v).mono ?_
    rintro e w5 ⟨rfl, hb5⟩
    have HI5 := Lib.hid (is_below HI4.out hb5 (is_lt HI4.out))
    have HM5 := Lib.hid (is_below HM4.out hb5 (is_lt HM4.out))
    have HZ5 := Lib.hid (is_below HZ4.out hb5 (is_lt HZ4.out))
    have HB5 := Lib.hid (HB4.out.trans (hb5.mono HB4.out.size))
    clear q0 q1 q2 q3 q4 t0 t1 hb5
    obtain ⟨⟨q0, q1, q2, q3, q4⟩, -⟩ := cells5 HI5.out
    obtain ⟨t0, t1⟩ := box2 HM5.out
    go_wp2_with fail
    refine (bef_k HBF.out _).mono ?_
    rintro e w6 ⟨rfl, hb6⟩
    have HI6 := Lib.hid (is_below HI5.out hb6 (is_lt HI5.out))
    have HM6 := Lib.hid (is_below HM5.out hb6 (is_lt HM5.out))
    have HZ6 := Lib.hid (is_below HZ5.out hb6 (is_lt HZ5.out))
    have HB6 := Lib.hid (HB5.out.trans (hb6.mono HB5.out.size))
    clear q0 q1 q2 q3 q4 t0 t1 hb6
    obtain ⟨⟨q0, q1, q2, q3, q4⟩, -⟩ := cells5 HI6.out
    obtain ⟨⟨z0, z1, z2, z3, z4⟩, f0, f1, f2, f3, f4⟩ := cells5 HZ6.out
    have HI9 := Lib.hid (set5_is (a0 := .slice p.A1 r.B.length p.c1) (a1 := .int .i64 r.fc) (a2 := .int .i64 r.fr) (a3 := .slice p.A2 r.L.length p.c2) (a4 := .slice p.A3 r.V.length p.c3) HZ6.out)
    have HB9 := Lib.hid (set5_below (a0 := .slice p.A1 r.B.length p.c1) (a1 := .int .i64 r.fc) (a2 := .int .i64 r.fr) (a3 := .slice p.A2 r.L.length p.c2) (a4 := .slice p.A3 r.V.length p.c3) (G := w.heap.size + 1 + 1) HB6.out (by omega))
    go_wp2_with fail
    clear q0 q1 q2 q3 q4 z0 z1 z2 z3 z4 f0 f1 f2 f3 f4
    obtain ⟨w9, hw9⟩ : ∃ w9, w9 = set5 w6 (w.heap.size + 1 + 1) (.slice p.A1 r.B.length p.c1) (.int .i64 r.fc) (.int .i64 r.fr) (.slice p.A2 r.L.length p.c2) (.slice p.A3 r.V.length p.c3) := ⟨_, rfl⟩
    have hi9 := HI9.out
    have hb9 := HB9.out
    have hk9 : ∀ k, k ≠ w.heap.size + 1 + 1 → w9.heap[k]? = w6.heap[k]? := fun k hk => by rw [hw9, set5_off k hk]
    have hs9 : w9.heap.size = w6.heap.size := by rw [hw9, set5_size]
    rw [← hw9] at hi9 hb9
    unfold set5 at hw9
    rw [← hw9]
    obtain ⟨⟨j0, j1, j2, j3, j4⟩, -⟩ := cells5 hi9
    refine bodyPost_ret (v := .tuple #[.agg #[.slice p.A1 r.B.length p.c1, .int .i64 r.fc, .int .i64 r.fr, .slice p.A2 r.L.length p.c2, .slice p.A3 r.V.length p.c3], .int .i64 0]) (by simp [results, Tryz.f46, go_sem, j0, j1, j2, j3, j4]) rfl ?_
    exact ⟨p, rfl, HA.out.keep hb9, PL.out, ⟨rfl, rfl⟩, hb9⟩
   | true =>
    have hres : pruneF r c q = ({ B := allP r.B (r.L.take (r.L.length - (sinM r.L c q).length)), fc := c, fr := q, L := sinM r.L c q, V := r.V }, 0) := by unfold pruneF; rw [if_neg (by rw [hmay]; decide), if_neg (by rw [hkn]; decide), if_neg (by rw [hbf]; decide)]
    rw [hres]
    have HBF := Lib.hid hbf
    obtain ⟨T, hT⟩ : ∃ T, sinM r.L c q = T := ⟨_, rfl⟩
    have htl : T.length ≤ r.L.length := by rw [← hT]; exact List.length_filter_le _ _
    obtain ⟨k, hk⟩ : ∃ k, r.L.length - T.length = k := ⟨_, rfl⟩
    have hkl : (r.L.take k).length = k := by rw [List.length_take]; omega
    obtain ⟨X, hX⟩ : ∃ X, allP r.B (r.L.take k) = X := ⟨_, rfl⟩
    rw [hT, hk, hX]
    have HSI := Lib.hid fun (W : World) (h : At W W.heap.size p.A2 (mvs r.L)) => msince_k (A := p.A2) (cap := p.c2) r.L T hT rfl rfl (by omega) h
    have HKL := Lib.hid hkl
    have HX := Lib.hid hX
    have hkc := PL.out.k2
    have hk1 : T.length + k ≤ r.L.length := by omega
    have hk2 : r.L.length ≤ T.length + k := by omega
    clear hmay hkn hbf hres hT hkl hX hk
    go_enter Tryz.func46, Tryz.ntmps46
    go_wp2_with fail
    rw [← HW.out]
    refine (fmay_v HMAY.out OK.out (HA.out.keep HB.out)).mono ?_
    rintro e w4 ⟨rfl, hb4⟩
    have HI4 := Lib.hid (is_below HI.out hb4 (is_lt HI.out))
    have HM4 := Lib.hid (is_below HM.out hb4 (is_lt HM.out))
    have HZ4 := Lib.hid (is_below HZ.out hb4 (is_lt HZ.out))
    have HB4 := Lib.hid (HB.out.trans (hb4.mono HB.out.size))
    clear q0 q1 q2 q3 q4 hb4
    obtain ⟨⟨q0, q1, q2, q3, q4⟩, -⟩ := cells5 HI4.out
    obtain ⟨t0, t1⟩ := box2 HM4.out
    go_wp2_with fail
    refine (known_v HKN.out (by unfold maxLen; omega) (HA.out.keep HB4.out).v).mono ?_
    rintro e w5 ⟨rfl, hb5⟩
    have HI5 := Lib.hid (is_below HI4.out hb5 (is_lt HI4.out))
    have HM5 := Lib.hid (is_below HM4.out hb5 (is_lt HM4.out))
    have HZ5 := Lib.hid (is_below HZ4.out hb5 (is_lt HZ4.out))
    have HB5 := Lib.hid (HB4.out.trans (hb5.mono HB4.out.size))
    clear q0 q1 q2 q3 q4 t0 t1 hb5
    obtain ⟨⟨q0, q1, q2, q3, q4⟩, -⟩ := cells5 HI5.out
    obtain ⟨t0, t1⟩ := box2 HM5.out
    go_wp2_with fail
    refine (bef_k HBF.out _).mono ?_
    rintro e w6 ⟨rfl, hb6⟩
    have HI6 := Lib.hid (is_below HI5.out hb6 (is_lt HI5.out))
    have HM6 := Lib.hid (is_below HM5.out hb6 (is_lt HM5.out))
    have HZ6 := Lib.hid (is_below HZ5.out hb6 (is_lt HZ5.out))
    have HB6 := Lib.hid (HB5.out.trans (hb6.mono HB5.out.size))
    clear q0 q1 q2 q3 q4 t0 t1 hb6
    obtain ⟨⟨q0, q1, q2, q3, q4⟩, -⟩ := cells5 HI6.out
    obtain ⟨t0, t1⟩ := box2 HM6.out
    go_wp2_with fail
    refine (HSI.out _ (HA.out.keep HB6.out).l).mono ?_
    rintro e w7 ⟨A7, c7, rfl, h7, hn7, hc7, hb7⟩
    have HI7 := Lib.hid (is_below HI6.out hb7 (is_lt HI6.out))
    have HM7 := Lib.hid (is_below HM6.out hb7 (is_lt HM6.out))
    have HZ7 := Lib.hid (is_below HZ6.out hb7 (is_lt HZ6.out))
    have HB7 := Lib.hid (HB6.out.trans (hb7.mono HB6.out.size))
    have H7 := Lib.hid h7
    have HN7 := Lib.hid (And.intro hn7 hc7)
    clear q0 q1 q2 q3 q4 t0 t1 hb7 h7 hn7 hc7
    obtain ⟨⟨q0, q1, q2, q3, q4⟩, -⟩ := cells5 HI7.out
    obtain ⟨t0, t1⟩ := box2 HM7.out
    have hsub : (r.L.length : Int) - (T.length : Int) = (k : Int) := by omega
    have hw1 : IntKind.i64.wrap ((r.L.length : Int) - (T.length : Int)) = (k : Int) := by rw [hsub]; exact IntWalk.i64_in _ (by omega)
    have hk0 : (0 : Int) ≤ (k : Int) := by omega
    have hkn : ¬ ((k : Int) < 0) := by omega
    have hkc2 : (k : Int) ≤ (p.c2 : Int) := by omega
    have HALL := Lib.hid fun (h : Below w.heap.size w w7.drew) => all_v (A := p.A1) (cap := p.c1) (cap2 := p.c2) (A2 := p.A2) HKL.out HX.out (by omega) PL.out.n1 PL.out.k1 (HA.out.keep h).b (by rw [mvs_take]; exact ((HA.out.keep h).l).take _)
    have HB7D := Lib.hid HB7.out.drew
    clear hsub
    go_wp2_with fail
    go_region_with (go_at_call 96; refine (HALL.out HB7D.out).mono ?_; rintro e w8 ⟨A8, c8, rfl, h8, hn8, hc8, hb8⟩; have hi8 := is_below (w := w7.drew) HI7.out hb8 (is_lt HI7.out); have t0' := keep_cell hb8 (show w7.drew.cell? _ = _ from t0); have t1' := keep_cell hb8 (show w7.drew.cell? _ = _ from t1); obtain ⟨⟨e0, e1⟩, ⟨e2, e3, e4, e5⟩, ⟨e6, e7⟩, -⟩ := pr_facts (a0 := .slice A8 X.length c8) (a1 := .int .i64 c) (a2 := .int .i64 q) (a3 := .slice A7 T.length c7) hi8)
    all_goals
     have H8 := Lib.hid h8
     have HN8 := Lib.hid (And.intro hn8 hc8)
     have HI8 := Lib.hid hi8
     have HZ8 := Lib.hid (is_below (w := w7.drew) HZ7.out hb8 (is_lt HZ7.out))
     have HT8 := Lib.hid ((show At w7.drew w7.drew.heap.size A7 (mvs T) from H7.out).keep hb8)
     have HB8 := Lib.hid (HB7D.out.trans (hb8.mono HB7D.out.size))
     obtain ⟨-, -, -, hi4⟩ := pr_facts (a0 := .slice A8 X.length c8) (a1 := .int .i64 c) (a2 := .int .i64 q) (a3 := .slice A7 T.length c7) hi8
     clear h8 hn8 hc8 hi8 hb8 t0' t1' e0 e1 e2 e3 e4 e5 e6 e7 q0 q1 q2 q3 q4 t0 t1 hw1
     obtain ⟨w10, hw10⟩ : ∃ w10, w10 = pset4 w8 w.heap.size (.slice A8 X.length c8) (.int .i64 c) (.int .i64 q) (.slice A7 T.length c7) := ⟨_, rfl⟩
     have hk10 : ∀ k, k ≠ w.heap.size → w10.heap[k]? = w8.heap[k]? := fun k hk => by rw [hw10, pset4_off k hk]
     have hs10 : w10.heap.size = w8.heap.size := by rw [hw10, pset4_size]
     have hb10 : Below w.heap.size w w10 := by rw [hw10]; exact pset4_below HB8.out (Nat.le_refl _)
     have hz10 : Is w10 (w.heap.size + 1 + 1) 55 [.slice none 0 0, .int .i64 0, .int .i64 0, .slice none 0 0, .slice none 0 0] := (hk10 _ (by omega)).trans HZ8.out
     unfold pset4 at hw10
     rw [← hw10] at hi4 ⊢
     have HK10 := Lib.hid (And.intro hk10 hs10)
     have HZ10 := Lib.hid hz10
     have HB10 := Lib.hid hb10
     have HI10 := Lib.hid hi4
     clear hk10 hs10 hb10 hz10 hi4 hw10
     obtain ⟨⟨q0, q1, q2, q3, q4⟩, -⟩ := cells5 HI10.out
     obtain ⟨⟨z0, z1, z2, z3, z4⟩, f0, f1, f2, f3, f4⟩ := cells5 HZ10.out
     have HI9 := Lib.hid (set5_is (a0 := .slice A8 X.length c8) (a1 := .int .i64 c) (a2 := .int .i64 q) (a3 := .slice A7 T.length c7) (a4 := .slice p.A3 r.V.length p.c3) HZ10.out)
     have HB9 := Lib.hid (set5_below (a0 := .slice A8 X.length c8) (a1 := .int .i64 c) (a2 := .int .i64 q) (a3 := .slice A7 T.length c7) (a4 := .slice p.A3 r.V.length p.c3) (G := w.heap.size + 1 + 1) HB10.out (by omega))
     go_wp2_with fail
     clear q0 q1 q2 q3 q4 z0 z1 z2 z3 z4 f0 f1 f2 f3 f4
     obtain ⟨w9, hw9⟩ : ∃ w9, w9 = set5 w10 (w.heap.size + 1 + 1) (.slice A8 X.length c8) (.int .i64 c) (.int .i64 q) (.slice A7 T.length c7) (.slice p.A3 r.V.length p.c3) := ⟨_, rfl⟩
     have hi9 := HI9.out
     have hb9 := HB9.out
     have hk9 : ∀ k, k ≠ w.heap.size → k ≠ w.heap.size + 1 + 1 → w9.heap[k]? = w8.heap[k]? := fun k h1 h2 => by rw [hw9, set5_off k h2, HK10.out.1 k h1]
     have hs9 : w9.heap.size = w8.heap.size := by rw [hw9, set5_size, HK10.out.2]
     rw [← hw9] at hi9 hb9
     unfold set5 at hw9
     rw [← hw9]
     obtain ⟨⟨j0, j1, j2, j3, j4⟩, -⟩ := cells5 hi9
     have hatl : At w9 w9.heap.size A7 (mvs T) := by
      refine at_off2 HT8.out ?_ hk9 hs9
      rcases moves_off HI8.out rfl HT8.out with h | h1
      ·exact .inl h
      ·rcases moves_off HZ8.out rfl HT8.out with h | h2
       ·exact .inl h
       ·exact .inr fun a ha => ⟨h1 a ha, h2 a ha⟩
     have hatb : At w9 w9.heap.size A8 (tvs X) := by
      refine at_off2 H8.out ?_ hk9 hs9
      rcases rows_off HI8.out (fun s h => by simp at h) H8.out with h | h1
      ·exact .inl h
      ·rcases rows_off HZ8.out (fun s h => by simp at h) H8.out with h | h2
       ·exact .inl h
       ·exact .inr fun a ha => ⟨h1 a ha, h2 a ha⟩
     refine bodyPost_ret (v := .tuple #[.agg #[.slice A8 X.length c8, .int .i64 c, .int .i64 q, .slice A7 T.length c7, .slice p.A3 r.V.length p.c3], .int .i64 0]) (by simp [results, Tryz.f46, go_sem, j0, j1, j2, j3, j4]) rfl ?_
     exact ⟨⟨A8, c8, A7, c7, p.A3, p.c3⟩, rfl, ⟨hatb, hatl, (HA.out.keep hb9).v⟩, ⟨HN8.out.1, HN8.out.2, HN7.out.1, HN7.out.2, PL.out.n3, PL.out.k3⟩, ⟨rfl, rfl⟩, hb9⟩
end Go.Proofs.YthhckdjagnlgpaaGreat
end
