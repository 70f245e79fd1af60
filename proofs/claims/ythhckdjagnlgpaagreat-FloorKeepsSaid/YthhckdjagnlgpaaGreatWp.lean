/-
 The document's Prune of replicas.
-/
import Derived.Test.YthhckdjagnlgpaaGreatWo
import Derived.Deep.RegionWith
namespace Go.Proofs.YthhckdjagnlgpaaGreat
open Go.RowKit Go.IntWalk Go.Maps
open Gr
set_option maxRecDepth 100000
attribute [local go_sem] Oper.semAt_some
theorem rall_v {A A2 : Option Addr} {cap cap2 n : Nat} {l X : List Rw} {ms : List Mv} (hn : ms.length = n) (hX : allP l ms = X) (hl : l.length + n ≤ 100000) (hA : A = none → cap = 0) (hcap : l.length ≤ cap) {w : World} (hc : At w w.heap.size A (tvs l)) (hc2 : At w w.heap.size A2 (mvs ms)) :
  Calls Tryz.prog 100 #[.slice A l.length cap, .slice A2 n cap2] w fun e w' => ∃ A' c', e = .returned (.slice A' X.length c') ∧ At w' w'.heap.size A' (tvs X) ∧ (A' = none → c' = 0) ∧ X.length ≤ c' ∧ Below w.heap.size w w' := by
 subst hn
 subst hX
 exact rall_c A A2 cap cap2 l ms hl hA hcap (allP_rabove hl) w hc hc2
theorem rmsince_v {A : Option Addr} {cap : Nat} {l T : List Mv} {c r : Int} (hT : sinM l c r = T) (hl : l.length ≤ 100000) {w : World} (hc : At w w.heap.size A (mvs l)) :
  Calls Tryz.prog 99 #[.slice A l.length cap, .agg #[.int .i64 c, .int .i64 r]] w fun e w' => ∃ A' c', e = .returned (.slice A' T.length c') ∧ At w' w'.heap.size A' (mvs T) ∧ (A' = none → c' = 0) ∧ T.length ≤ c' ∧ Below w.heap.size w w' := by
 subst hT
 exact (rmsince_c A cap l c r hl w hc).mono fun _ _ h => FreshM.at h
theorem pr2_facts {w8 : World} {G : Nat} {t : TypeId} {x0 x1 x2 x3 x4 a0 a1 a2 a3 : Value} (h : Is w8 G t [x0, x1, x2, x3, x4]) :
  (w8.cell? ⟨G, 0, none⟩ = some x0 ∧ w8.frozen? ⟨G, 0, none⟩ = false) ∧ ((w8.setCell ⟨G, 0, none⟩ a0).cell? ⟨G, 3, none⟩ = some x3 ∧ (w8.setCell ⟨G, 0, none⟩ a0).frozen? ⟨G, 3, none⟩ = false) ∧
  (((w8.setCell ⟨G, 0, none⟩ a0).setCell ⟨G, 3, none⟩ a3).cell? ⟨G, 1, none⟩ = some x1 ∧ ((w8.setCell ⟨G, 0, none⟩ a0).setCell ⟨G, 3, none⟩ a3).frozen? ⟨G, 1, none⟩ = false ∧ ((w8.setCell ⟨G, 0, none⟩ a0).setCell ⟨G, 3, none⟩ a3).cell? ⟨G, 2, none⟩ = some x2 ∧ ((w8.setCell ⟨G, 0, none⟩ a0).setCell ⟨G, 3, none⟩ a3).frozen? ⟨G, 2, none⟩ = false) ∧
  Is ((((w8.setCell ⟨G, 0, none⟩ a0).setCell ⟨G, 3, none⟩ a3).setCell ⟨G, 1, none⟩ a1).setCell ⟨G, 2, none⟩ a2) G t [a0, a1, a2, a3, x4] := by
 have h1 : Is (w8.setCell ⟨G, 0, none⟩ a0) G t [a0, x1, x2, x3, x4] := is_set h 0 a0
 have h2 : Is ((w8.setCell ⟨G, 0, none⟩ a0).setCell ⟨G, 3, none⟩ a3) G t [a0, x1, x2, a3, x4] := is_set h1 3 a3
 have h3 : Is (((w8.setCell ⟨G, 0, none⟩ a0).setCell ⟨G, 3, none⟩ a3).setCell ⟨G, 1, none⟩ a1) G t [a0, a1, x2, a3, x4] := is_set h2 1 a1
 exact ⟨⟨is_cell h 0, is_free h 0⟩, ⟨is_cell h1 3, is_free h1 3⟩, ⟨is_cell h2 1, is_free h2 1, is_cell h2 2, is_free h2 2⟩, is_set h3 2 a2⟩
def qset4 (w : World) (G : Nat) (a0 a1 a2 a3 : Value) : World := ((((w.setCell ⟨G, 0, none⟩ a0).setCell ⟨G, 3, none⟩ a3).setCell ⟨G, 1, none⟩ a1).setCell ⟨G, 2, none⟩ a2)
theorem qset4_off {w : World} {G : Nat} {a0 a1 a2 a3 : Value} (k : Nat) (h : k ≠ G) : (qset4 w G a0 a1 a2 a3).heap[k]? = w.heap[k]? := by
 unfold qset4
 iterate 4 rw [Below.heap_setCell _ _ _ _ h]
theorem qset4_size {w : World} {G : Nat} {a0 a1 a2 a3 : Value} : (qset4 w G a0 a1 a2 a3).heap.size = w.heap.size := by simp [qset4]
theorem qset4_below {w W : World} {N G : Nat} {a0 a1 a2 a3 : Value} (h : Below N w W) (hg : N ≤ G) : Below N w (qset4 W G a0 a1 a2 a3) :=
 ((((h.setCell (p := ⟨G, 0, none⟩) hg _).setCell (p := ⟨G, 3, none⟩) hg _).setCell (p := ⟨G, 1, none⟩) hg _).setCell (p := ⟨G, 2, none⟩) hg _)
set_option maxHeartbeats 16000000 in
theorem rfprune_c {p : Pl} {r : Rp} (ok : RpOk r) (pl : RpPl p r) (c q : Int) {w : World} (ha : RpAt p r w) :
  Calls Tryz.prog 47 #[.agg #[.slice p.A1 r.B.length p.c1, .int .i64 r.fc, .int .i64 r.fr, .slice p.A2 r.L.length p.c2, .slice p.A3 r.V.length p.c3], .agg #[.int .i64 c, .int .i64 q]] w (PrTold p r (pruneF r c q).1 (pruneF r c q).2 w) := by
 obtain ⟨w3, hw3⟩ : ∃ w3, w3 = ((w.alloc (.cells #[.slice p.A1 r.B.length p.c1, .int .i64 r.fc, .int .i64 r.fr, .slice p.A2 r.L.length p.c2, .slice p.A3 r.V.length p.c3] 55)).alloc (.cells #[.int .i64 c, .int .i64 q] 51)).alloc (.cells #[.slice none 0 0, .int .i64 0, .int .i64 0, .slice none 0 0, .slice none 0 0] 55) := ⟨_, rfl⟩
 have hI : Is w3 w.heap.size 55 [.slice p.A1 r.B.length p.c1, .int .i64 r.fc, .int .i64 r.fr, .slice p.A2 r.L.length p.c2, .slice p.A3 r.V.length p.c3] := by
  rw [hw3]
  exact is_below (is_below (is_new w 55 _) ((Below.refl _ _).alloc (Nat.le_refl _) _) (by simp)) ((Below.refl _ _).alloc (Nat.le_refl _) _) (by simp; omega)
 have hM : Is w3 (w.heap.size + 1) 51 [.int .i64 c, .int .i64 q] := by
  rw [hw3]
  exact is_below (is_newA w 51 _ _) ((Below.refl _ _).alloc (Nat.le_refl _) _) (by simp)
 have hZ : Is w3 (w.heap.size + 1 + 1) 55 [.slice none 0 0, .int .i64 0, .int .i64 0, .slice none 0 0, .slice none 0 0] := by rw [hw3]; exact is_newB w 55 _ _ _
 have hb3 : Below w.heap.size w w3 := by
  rw [hw3]
  exact (((Below.refl w.heap.size w).alloc (Nat.le_refl _) _).alloc (by simp) _).alloc (by simp; omega) _
 have HA := Lib.hid ha
 have PL := Lib.hid pl
 have OK := Lib.hid ok
 have HW := Lib.hid hw3
 have HI := Lib.hid hI
 have HM := Lib.hid hM
 have HZ := Lib.hid hZ
 have HB := Lib.hid hb3
 obtain ⟨⟨q0, q1, q2, q3, q4⟩, -⟩ := cells5 hI
 obtain ⟨t0, t1⟩ := box2 hM
 have hlb := ok.lb
 have hll := ok.ll
 have hlv := ok.lv
 obtain ⟨y, hy⟩ : ∃ y, getK r.V q = y := ⟨_, rfl⟩
 obtain ⟨tb, htb⟩ : ∃ b, timeB c q = b := ⟨_, rfl⟩
 have HY := Lib.hid hy
 have HTB := Lib.hid htb
 have HVL := Lib.hid (show r.V.length ≤ maxLen by unfold maxLen; omega)
 have HA3 := Lib.hid (ha.keep hb3)
 clear ha pl ok hw3 hI hM hZ hb3 hy htb
 cases hmay : mayF r with
 | false =>
  have hres : pruneF r c q = (r, 1) := by unfold pruneF; rw [if_pos hmay]
  rw [hres]
  have HMAY := Lib.hid hmay
  clear hmay hres
  go_enter Tryz.func47, Tryz.ntmps47
  go_wp2_with fail
  rw [← HW.out]
  refine quiet_held (fun w' => Below w3.heap.size w3 w') (by kernel_rfl) (by kernel_rfl) (Below.refl _ _).drew ?_
  repeat (first
   | go_big_quiet_skip
   | (go_big_quiet_want; go_big_quiet_op; go_big_quiet_on)
   | (go_big_quiet_want; apply Exists.intro; refine ⟨fun wq hq => ?_, ?_⟩; (focus (have r0 := keep_cell hq q0; have r1 := keep_cell hq q1; have r2 := keep_cell hq q2; have r3 := keep_cell hq q3; have r4 := keep_cell hq q4; have r5 := keep_cell hq t0; have r6 := keep_cell hq t1; unfold Oper.quietAt; go_simp; all_goals (first | rfl | exact ⟨rfl, rfl⟩ | (with_reducible refine (rfmay_v HMAY.out OK.out (HA3.out.keep hq)).mono ?_; rintro e w5 ⟨rfl, hbn⟩; exact ⟨rfl, hq.trans (hbn.mono hq.size)⟩)))); simp only [Act.put, List.setIfInBounds_toArray, List.set_cons_zero, List.set_cons_succ]; go_big_quiet_on))
  refine wpQuiet_nil ?_
  intro w5 hb5
  have HI5 := Lib.hid (is_below HI.out hb5 (is_lt HI.out))
  have HM5 := Lib.hid (is_below HM.out hb5 (is_lt HM.out))
  have HZ5 := Lib.hid (is_below HZ.out hb5 (is_lt HZ.out))
  have HB5 := Lib.hid (HB.out.trans (hb5.mono HB.out.size))
  clear q0 q1 q2 q3 q4 t0 t1 hb5
  obtain ⟨⟨q0, q1, q2, q3, q4⟩, -⟩ := cells5 HI5.out
  obtain ⟨⟨z0, z1, z2, z3, z4⟩, f0, f1, f2, f3, f4⟩ := cells5 HZ5.out
  have HI9 := Lib.hid (set5_is (a0 := .slice p.A1 r.B.length p.c1) (a1 := .int .i64 r.fc) (a2 := .int .i64 r.fr) (a3 := .slice p.A2 r.L.length p.c2) (a4 := .slice p.A3 r.V.length p.c3) HZ5.out)
  have HB9 := Lib.hid (set5_below (a0 := .slice p.A1 r.B.length p.c1) (a1 := .int .i64 r.fc) (a2 := .int .i64 r.fr) (a3 := .slice p.A2 r.L.length p.c2) (a4 := .slice p.A3 r.V.length p.c3) (G := w.heap.size + 1 + 1) HB5.out (by omega))
  go_wp2_with fail
  clear q0 q1 q2 q3 q4 z0 z1 z2 z3 z4 f0 f1 f2 f3 f4
  obtain ⟨w9, hw9⟩ : ∃ w9, w9 = set5 w5 (w.heap.size + 1 + 1) (.slice p.A1 r.B.length p.c1) (.int .i64 r.fc) (.int .i64 r.fr) (.slice p.A2 r.L.length p.c2) (.slice p.A3 r.V.length p.c3) := ⟨_, rfl⟩
  have hi9 := HI9.out
  have hb9 := HB9.out
  have hk9 : ∀ k, k ≠ w.heap.size + 1 + 1 → w9.heap[k]? = w5.heap[k]? := fun k hk => by rw [hw9, set5_off k hk]
  have hs9 : w9.heap.size = w5.heap.size := by rw [hw9, set5_size]
  rw [← hw9] at hi9 hb9
  unfold set5 at hw9
  rw [← hw9]
  obtain ⟨⟨j0, j1, j2, j3, j4⟩, -⟩ := cells5 hi9
  refine bodyPost_ret (v := .tuple #[.agg #[.slice p.A1 r.B.length p.c1, .int .i64 r.fc, .int .i64 r.fr, .slice p.A2 r.L.length p.c2, .slice p.A3 r.V.length p.c3], .int .i64 1]) (by simp [results, Tryz.f47, go_sem, j0, j1, j2, j3, j4]) rfl ?_
  exact ⟨p, rfl, HA.out.keep hb9, PL.out, ⟨rfl, rfl⟩, hb9⟩
 | true =>
 have HMAY := Lib.hid hmay
 have hkt := known_time (c := c) (r := q) (mayF_iff.1 hmay).2.2.1
 rw [HTB.out, HY.out] at hkt
 cases tb with
 | false =>
  have hres : pruneF r c q = (r, 1) := by unfold pruneF; rw [if_neg (by rw [hmay]; decide), if_pos (by rw [hkt]; rfl)]
  rw [hres]
  clear hmay hkt hres
  go_enter Tryz.func47, Tryz.ntmps47
  go_wp2_with fail
  rw [← HW.out]
  refine quiet_held (fun w' => Below w3.heap.size w3 w') (by kernel_rfl) (by kernel_rfl) (Below.refl _ _).drew ?_
  repeat (first
   | go_big_quiet_skip
   | (go_big_quiet_want; go_big_quiet_op; go_big_quiet_on)
   | (go_big_quiet_want; apply Exists.intro; refine ⟨fun wq hq => ?_, ?_⟩; (focus (have r0 := keep_cell hq q0; have r1 := keep_cell hq q1; have r2 := keep_cell hq q2; have r3 := keep_cell hq q3; have r4 := keep_cell hq q4; have r5 := keep_cell hq t0; have r6 := keep_cell hq t1; unfold Oper.quietAt; go_simp; all_goals (first | rfl | exact ⟨rfl, rfl⟩ | (with_reducible refine (rfmay_v HMAY.out OK.out (HA3.out.keep hq)).mono ?_; rintro e w5 ⟨rfl, hbn⟩; exact ⟨rfl, hq.trans (hbn.mono hq.size)⟩) | (with_reducible refine (rtime_v HTB.out _).mono ?_; rintro e w5 ⟨rfl, hbn⟩; exact ⟨rfl, hq.trans (hbn.mono hq.size)⟩)))); simp only [Act.put, List.setIfInBounds_toArray, List.set_cons_zero, List.set_cons_succ]; go_big_quiet_on))
  refine wpQuiet_nil ?_
  intro w5 hb5
  have HI5 := Lib.hid (is_below HI.out hb5 (is_lt HI.out))
  have HM5 := Lib.hid (is_below HM.out hb5 (is_lt HM.out))
  have HZ5 := Lib.hid (is_below HZ.out hb5 (is_lt HZ.out))
  have HB5 := Lib.hid (HB.out.trans (hb5.mono HB.out.size))
  clear q0 q1 q2 q3 q4 t0 t1 hb5
  obtain ⟨⟨q0, q1, q2, q3, q4⟩, -⟩ := cells5 HI5.out
  obtain ⟨⟨z0, z1, z2, z3, z4⟩, f0, f1, f2, f3, f4⟩ := cells5 HZ5.out
  have HI9 := Lib.hid (set5_is (a0 := .slice p.A1 r.B.length p.c1) (a1 := .int .i64 r.fc) (a2 := .int .i64 r.fr) (a3 := .slice p.A2 r.L.length p.c2) (a4 := .slice p.A3 r.V.length p.c3) HZ5.out)
  have HB9 := Lib.hid (set5_below (a0 := .slice p.A1 r.B.length p.c1) (a1 := .int .i64 r.fc) (a2 := .int .i64 r.fr) (a3 := .slice p.A2 r.L.length p.c2) (a4 := .slice p.A3 r.V.length p.c3) (G := w.heap.size + 1 + 1) HB5.out (by omega))
  go_wp2_with fail
  clear q0 q1 q2 q3 q4 z0 z1 z2 z3 z4 f0 f1 f2 f3 f4
  obtain ⟨w9, hw9⟩ : ∃ w9, w9 = set5 w5 (w.heap.size + 1 + 1) (.slice p.A1 r.B.length p.c1) (.int .i64 r.fc) (.int .i64 r.fr) (.slice p.A2 r.L.length p.c2) (.slice p.A3 r.V.length p.c3) := ⟨_, rfl⟩
  have hi9 := HI9.out
  have hb9 := HB9.out
  have hk9 : ∀ k, k ≠ w.heap.size + 1 + 1 → w9.heap[k]? = w5.heap[k]? := fun k hk => by rw [hw9, set5_off k hk]
  have hs9 : w9.heap.size = w5.heap.size := by rw [hw9, set5_size]
  rw [← hw9] at hi9 hb9
  unfold set5 at hw9
  rw [← hw9]
  obtain ⟨⟨j0, j1, j2, j3, j4⟩, -⟩ := cells5 hi9
  refine bodyPost_ret (v := .tuple #[.agg #[.slice p.A1 r.B.length p.c1, .int .i64 r.fc, .int .i64 r.fr, .slice p.A2 r.L.length p.c2, .slice p.A3 r.V.length p.c3], .int .i64 1]) (by simp [results, Tryz.f47, go_sem, j0, j1, j2, j3, j4]) rfl ?_
  exact ⟨p, rfl, HA.out.keep hb9, PL.out, ⟨rfl, rfl⟩, hb9⟩
 | true =>
 by_cases hcy : c ≤ y
 case neg =>
  have hres : pruneF r c q = (r, 1) := by unfold pruneF; rw [if_neg (by rw [hmay]; decide), if_pos (by rw [hkt, decide_eq_false hcy]; rfl)]
  rw [hres]
  have hdy : decide (y < c) = true := decide_eq_true (by omega)
  clear hmay hkt hres hcy
  go_enter Tryz.func47, Tryz.ntmps47
  go_wp2_with fail
  rw [← HW.out]
  refine quiet_held (fun w' => Below w3.heap.size w3 w') (by kernel_rfl) (by kernel_rfl) (Below.refl _ _).drew ?_
  repeat (first
   | go_big_quiet_skip
   | (simp only [hdy])
   | (go_big_quiet_want; go_big_quiet_op; go_big_quiet_on)
   | (go_big_quiet_want; apply Exists.intro; refine ⟨fun wq hq => ?_, ?_⟩; (focus (have r0 := keep_cell hq q0; have r1 := keep_cell hq q1; have r2 := keep_cell hq q2; have r3 := keep_cell hq q3; have r4 := keep_cell hq q4; have r5 := keep_cell hq t0; have r6 := keep_cell hq t1; unfold Oper.quietAt; go_simp; all_goals (first | rfl | exact ⟨rfl, rfl⟩ | (with_reducible refine (rfmay_v HMAY.out OK.out (HA3.out.keep hq)).mono ?_; rintro e w5 ⟨rfl, hbn⟩; exact ⟨rfl, hq.trans (hbn.mono hq.size)⟩) | (with_reducible refine (rtime_v HTB.out _).mono ?_; rintro e w5 ⟨rfl, hbn⟩; exact ⟨rfl, hq.trans (hbn.mono hq.size)⟩) | (with_reducible refine (rkget_k HY.out HVL.out wq (HA3.out.keep hq).v).mono ?_; rintro e w5 ⟨rfl, rfl⟩; exact ⟨rfl, hq⟩)))); simp only [Act.put, List.setIfInBounds_toArray, List.set_cons_zero, List.set_cons_succ]; go_big_quiet_on))
  refine wpQuiet_nil ?_
  intro w5 hb5
  have HI5 := Lib.hid (is_below HI.out hb5 (is_lt HI.out))
  have HM5 := Lib.hid (is_below HM.out hb5 (is_lt HM.out))
  have HZ5 := Lib.hid (is_below HZ.out hb5 (is_lt HZ.out))
  have HB5 := Lib.hid (HB.out.trans (hb5.mono HB.out.size))
  clear q0 q1 q2 q3 q4 t0 t1 hb5
  obtain ⟨⟨q0, q1, q2, q3, q4⟩, -⟩ := cells5 HI5.out
  obtain ⟨⟨z0, z1, z2, z3, z4⟩, f0, f1, f2, f3, f4⟩ := cells5 HZ5.out
  have HI9 := Lib.hid (set5_is (a0 := .slice p.A1 r.B.length p.c1) (a1 := .int .i64 r.fc) (a2 := .int .i64 r.fr) (a3 := .slice p.A2 r.L.length p.c2) (a4 := .slice p.A3 r.V.length p.c3) HZ5.out)
  have HB9 := Lib.hid (set5_below (a0 := .slice p.A1 r.B.length p.c1) (a1 := .int .i64 r.fc) (a2 := .int .i64 r.fr) (a3 := .slice p.A2 r.L.length p.c2) (a4 := .slice p.A3 r.V.length p.c3) (G := w.heap.size + 1 + 1) HB5.out (by omega))
  go_wp2_with fail
  clear q0 q1 q2 q3 q4 z0 z1 z2 z3 z4 f0 f1 f2 f3 f4
  obtain ⟨w9, hw9⟩ : ∃ w9, w9 = set5 w5 (w.heap.size + 1 + 1) (.slice p.A1 r.B.length p.c1) (.int .i64 r.fc) (.int .i64 r.fr) (.slice p.A2 r.L.length p.c2) (.slice p.A3 r.V.length p.c3) := ⟨_, rfl⟩
  have hi9 := HI9.out
  have hb9 := HB9.out
  have hk9 : ∀ k, k ≠ w.heap.size + 1 + 1 → w9.heap[k]? = w5.heap[k]? := fun k hk => by rw [hw9, set5_off k hk]
  have hs9 : w9.heap.size = w5.heap.size := by rw [hw9, set5_size]
  rw [← hw9] at hi9 hb9
  unfold set5 at hw9
  rw [← hw9]
  obtain ⟨⟨j0, j1, j2, j3, j4⟩, -⟩ := cells5 hi9
  refine bodyPost_ret (v := .tuple #[.agg #[.slice p.A1 r.B.length p.c1, .int .i64 r.fc, .int .i64 r.fr, .slice p.A2 r.L.length p.c2, .slice p.A3 r.V.length p.c3], .int .i64 1]) (by simp [results, Tryz.f47, go_sem, j0, j1, j2, j3, j4]) rfl ?_
  exact ⟨p, rfl, HA.out.keep hb9, PL.out, ⟨rfl, rfl⟩, hb9⟩
 have hdy : decide (y < c) = false := decide_eq_false (by omega)
 have hkn : knownK r.V c q = true := by rw [hkt, decide_eq_true hcy]; rfl
 clear hkt hcy
 cases hbf : befT r.fc r.fr c q with
 | false =>
  have hres : pruneF r c q = (r, 0) := by unfold pruneF; rw [if_neg (by rw [hmay]; decide), if_neg (by rw [hkn]; decide), if_pos hbf]
  rw [hres]
  have HBF := Lib.hid hbf
  clear hmay hkn hbf hres
  go_enter Tryz.func47, Tryz.ntmps47
  go_wp2_with fail
  rw [← HW.out]
  refine quiet_held (fun w' => Below w3.heap.size w3 w') (by kernel_rfl) (by kernel_rfl) (Below.refl _ _).drew ?_
  repeat (first
   | go_big_quiet_skip
   | (simp only [hdy])
   | (go_big_quiet_want; go_big_quiet_op; go_big_quiet_on)
   | (go_big_quiet_want; apply Exists.intro; refine ⟨fun wq hq => ?_, ?_⟩; (focus (have r0 := keep_cell hq q0; have r1 := keep_cell hq q1; have r2 := keep_cell hq q2; have r3 := keep_cell hq q3; have r4 := keep_cell hq q4; have r5 := keep_cell hq t0; have r6 := keep_cell hq t1; unfold Oper.quietAt; go_simp; all_goals (first | rfl | exact ⟨rfl, rfl⟩ | (with_reducible refine (rfmay_v HMAY.out OK.out (HA3.out.keep hq)).mono ?_; rintro e w5 ⟨rfl, hbn⟩; exact ⟨rfl, hq.trans (hbn.mono hq.size)⟩) | (with_reducible refine (rtime_v HTB.out _).mono ?_; rintro e w5 ⟨rfl, hbn⟩; exact ⟨rfl, hq.trans (hbn.mono hq.size)⟩) | (with_reducible refine (rkget_k HY.out HVL.out wq (HA3.out.keep hq).v).mono ?_; rintro e w5 ⟨rfl, rfl⟩; exact ⟨rfl, hq⟩)))); simp only [Act.put, List.setIfInBounds_toArray, List.set_cons_zero, List.set_cons_succ]; go_big_quiet_on))
  refine wpQuiet_nil ?_
  intro w5 hb5
  have HI5 := Lib.hid (is_below HI.out hb5 (is_lt HI.out))
  have HM5 := Lib.hid (is_below HM.out hb5 (is_lt HM.out))
  have HZ5 := Lib.hid (is_below HZ.out hb5 (is_lt HZ.out))
  have HB5 := Lib.hid (HB.out.trans (hb5.mono HB.out.size))
  clear q0 q1 q2 q3 q4 t0 t1 hb5
  obtain ⟨⟨q0, q1, q2, q3, q4⟩, -⟩ := cells5 HI5.out
  obtain ⟨t0, t1⟩ := box2 HM5.out
  go_wp2_with fail
  refine (rbef_k HBF.out _).mono ?_
  rintro e w6 ⟨rfl, hb6⟩
  have HI6 := Lib.hid (is_below HI5.out hb6 (is_lt HI5.out))
  have HM6 := Lib.hid (is_below HM5.out hb6 (is_lt HM5.out))
  have HZ6 := Lib.hid (is_below HZ5.out hb6 (is_lt HZ5.out))
  have HB6 := Lib.hid (HB5.out.trans (hb6.mono HB5.out.size))
  clear q0 q1 q2 q3 q4 t0 t1 hb6
  obtain ⟨⟨q0, q1, q2, q3, q4⟩, -⟩ := cells5 HI6.out
  obtain ⟨⟨z0, z1, z2, z3, z4⟩, f0, f1, f2, f3, f4⟩ := cells5 HZ6.out
  have HI9 := Lib.hid (set5_is (a0 := .slice p.A1 r.B.length p.c1) (a1 := .int .i64 r.fc) (a2 := .int .i64 r.fr) (a3 := .slice p.A2 r.L.length p.c2) (a4 := .slice p.A3 r.V.length p.c3) HZ6.out)
  have HB9 := Lib.hid (set5_below (a0 := .slice p.A1 r.B.length p.c1) (a1 := .int .i64 r.fc) (a2 := .int .i64 r.fr) (a3 := .slice p.A2 r.L.length p.c2) (a4 := .slice p.A3 r.V.length p.c3) (G := w.heap.size + 1 + 1) HB6.out (by omega))
  go_wp2_with fail
  clear q0 q1 q2 q3 q4 z0 z1 z2 z3 z4 f0 f1 f2 f3 f4
  obtain ⟨w9, hw9⟩ : ∃ w9, w9 = set5 w6 (w.heap.size + 1 + 1) (.slice p.A1 r.B.length p.c1) (.int .i64 r.fc) (.int .i64 r.fr) (.slice p.A2 r.L.length p.c2) (.slice p.A3 r.V.length p.c3) := ⟨_, rfl⟩
  have hi9 := HI9.out
  have hb9 := HB9.out
  have hk9 : ∀ k, k ≠ w.heap.size + 1 + 1 → w9.heap[k]? = w6.heap[k]? := fun k hk => by rw [hw9, set5_off k hk]
  have hs9 : w9.heap.size = w6.heap.size := by rw [hw9, set5_size]
  rw [← hw9] at hi9 hb9
  unfold set5 at hw9
  rw [← hw9]
  obtain ⟨⟨j0, j1, j2, j3, j4⟩, -⟩ := cells5 hi9
  refine bodyPost_ret (v := .tuple #[.agg #[.slice p.A1 r.B.length p.c1, .int .i64 r.fc, .int .i64 r.fr, .slice p.A2 r.L.length p.c2, .slice p.A3 r.V.length p.c3], .int .i64 0]) (by simp [results, Tryz.f47, go_sem, j0, j1, j2, j3, j4]) rfl ?_
  exact ⟨p, rfl, HA.out.keep hb9, PL.out, ⟨rfl, rfl⟩, hb9⟩
 | true =>
  have hres : pruneF r c q = ({ B := allP r.B (r.L.take (r.L.length - (sinM r.L c q).length)), fc := c, fr := q, L := sinM r.L c q, V := r.V }, 0) := by unfold pruneF; rw [if_neg (by rw [hmay]; decide), if_neg (by rw [hkn]; decide), if_neg (by rw [hbf]; decide)]
  rw [hres]
  have HBF := Lib.hid hbf
  obtain ⟨T, hT⟩ : ∃ T, sinM r.L c q = T := ⟨_, rfl⟩
  have htl : T.length ≤ r.L.length := by rw [← hT]; exact List.length_filter_le _ _
  obtain ⟨k, hk⟩ : ∃ k, r.L.length - T.length = k := ⟨_, rfl⟩
  have hkl : (r.L.take k).length = k := by rw [List.length_take]; omega
  obtain ⟨X, hX⟩ : ∃ X, allP r.B (r.L.take k) = X := ⟨_, rfl⟩
  rw [hT, hk, hX]
  have HT := Lib.hid hT
  have HKL := Lib.hid hkl
  have HX := Lib.hid hX
  have hkc := PL.out.k2
  have hk1 : T.length + k ≤ r.L.length := by omega
  have hk2 : r.L.length ≤ T.length + k := by omega
  clear hT hkl hX hk
  clear hmay hkn hbf hres
  go_enter Tryz.func47, Tryz.ntmps47
  go_wp2_with fail
  rw [← HW.out]
  refine quiet_held (fun w' => Below w3.heap.size w3 w') (by kernel_rfl) (by kernel_rfl) (Below.refl _ _).drew ?_
  repeat (first
   | go_big_quiet_skip
   | (simp only [hdy])
   | (go_big_quiet_want; go_big_quiet_op; go_big_quiet_on)
   | (go_big_quiet_want; apply Exists.intro; refine ⟨fun wq hq => ?_, ?_⟩; (focus (have r0 := keep_cell hq q0; have r1 := keep_cell hq q1; have r2 := keep_cell hq q2; have r3 := keep_cell hq q3; have r4 := keep_cell hq q4; have r5 := keep_cell hq t0; have r6 := keep_cell hq t1; unfold Oper.quietAt; go_simp; all_goals (first | rfl | exact ⟨rfl, rfl⟩ | (with_reducible refine (rfmay_v HMAY.out OK.out (HA3.out.keep hq)).mono ?_; rintro e w5 ⟨rfl, hbn⟩; exact ⟨rfl, hq.trans (hbn.mono hq.size)⟩) | (with_reducible refine (rtime_v HTB.out _).mono ?_; rintro e w5 ⟨rfl, hbn⟩; exact ⟨rfl, hq.trans (hbn.mono hq.size)⟩) | (with_reducible refine (rkget_k HY.out HVL.out wq (HA3.out.keep hq).v).mono ?_; rintro e w5 ⟨rfl, rfl⟩; exact ⟨rfl, hq⟩)))); simp only [Act.put, List.setIfInBounds_toArray, List.set_cons_zero, List.set_cons_succ]; go_big_quiet_on))
  refine wpQuiet_nil ?_
  intro w5 hb5
  have HI5 := Lib.hid (is_below HI.out hb5 (is_lt HI.out))
  have HM5 := Lib.hid (is_below HM.out hb5 (is_lt HM.out))
  have HZ5 := Lib.hid (is_below HZ.out hb5 (is_lt HZ.out))
  have HB5 := Lib.hid (HB.out.trans (hb5.mono HB.out.size))
  clear q0 q1 q2 q3 q4 t0 t1 hb5
  obtain ⟨⟨q0, q1, q2, q3, q4⟩, -⟩ := cells5 HI5.out
  obtain ⟨t0, t1⟩ := box2 HM5.out
  go_wp2_with fail
  refine (rbef_k HBF.out _).mono ?_
  rintro e w6 ⟨rfl, hb6⟩
  have HI6 := Lib.hid (is_below HI5.out hb6 (is_lt HI5.out))
  have HM6 := Lib.hid (is_below HM5.out hb6 (is_lt HM5.out))
  have HZ6 := Lib.hid (is_below HZ5.out hb6 (is_lt HZ5.out))
  have HB6 := Lib.hid (HB5.out.trans (hb6.mono HB5.out.size))
  clear q0 q1 q2 q3 q4 t0 t1 hb6
  obtain ⟨⟨q0, q1, q2, q3, q4⟩, -⟩ := cells5 HI6.out
  obtain ⟨t0, t1⟩ := box2 HM6.out
  go_wp2_with fail
  refine (rmsince_v HT.out (by omega) (HA.out.keep HB6.out).l).mono ?_
  rintro e w7 ⟨A7, c7, rfl, h7, hn7, hc7, hb7⟩
  have HI7 := Lib.hid (is_below HI6.out hb7 (is_lt HI6.out))
  have HM7 := Lib.hid (is_below HM6.out hb7 (is_lt HM6.out))
  have HZ7 := Lib.hid (is_below HZ6.out hb7 (is_lt HZ6.out))
  have HB7 := Lib.hid (HB6.out.trans (hb7.mono HB6.out.size))
  have H7 := Lib.hid h7
  have HN7 := Lib.hid (And.intro hn7 hc7)
  clear q0 q1 q2 q3 q4 t0 t1 hb7 h7 hn7 hc7
  obtain ⟨⟨q0, q1, q2, q3, q4⟩, -⟩ := cells5 HI7.out
  have hsub : (r.L.length : Int) - (T.length : Int) = (k : Int) := by omega
  have hw1 : IntKind.i64.wrap ((r.L.length : Int) - (T.length : Int)) = (k : Int) := by rw [hsub]; exact IntWalk.i64_in _ (by omega)
  have hk0 : (0 : Int) ≤ (k : Int) := by omega
  have hkn : ¬ ((k : Int) < 0) := by omega
  have hkc2 : (k : Int) ≤ (p.c2 : Int) := by omega
  have HALL := Lib.hid fun (h : Below w.heap.size w w7.drew) => rall_v (A := p.A1) (cap := p.c1) (cap2 := p.c2) (A2 := p.A2) HKL.out HX.out (by omega) PL.out.n1 PL.out.k1 (HA.out.keep h).b (by rw [mvs_take]; exact ((HA.out.keep h).l).take _)
  have HB7D := Lib.hid HB7.out.drew
  clear hsub
  go_wp2_with fail
  go_region_with (go_at_call 100; refine (HALL.out HB7D.out).mono ?_; rintro e w8 ⟨A8, c8, rfl, h8, hn8, hc8, hb8⟩; have hi8 := is_below (w := w7.drew) HI7.out hb8 (is_lt HI7.out); obtain ⟨⟨e0, e1⟩, -⟩ := pr2_facts (a0 := .slice A8 X.length c8) (a1 := .int .i64 c) (a2 := .int .i64 q) (a3 := .slice A7 T.length c7) hi8)
  all_goals
   have H8 := Lib.hid h8
   have HN8 := Lib.hid (And.intro hn8 hc8)
   have HI8 := Lib.hid hi8
   have HZ8 := Lib.hid (is_below (w := w7.drew) HZ7.out hb8 (is_lt HZ7.out))
   have hM8 := is_below (w := w7.drew) HM7.out hb8 (is_lt HM7.out)
   have HT8 := Lib.hid ((show At w7.drew w7.drew.heap.size A7 (mvs T) from H7.out).keep hb8)
   have HB8 := Lib.hid (HB7D.out.trans (hb8.mono HB7D.out.size))
   clear e0 e1 q0 q1 q2 q3 q4 hw1
   obtain ⟨-, ⟨e2, e3⟩, ⟨e4, e5, e6, e7⟩, hi4⟩ := pr2_facts (a0 := .slice A8 X.length c8) (a1 := .int .i64 c) (a2 := .int .i64 q) (a3 := .slice A7 T.length c7) hi8
   obtain ⟨t0, t1⟩ := box2 (is_far (is_far hM8 ⟨w.heap.size, 0, none⟩ (by show w.heap.size + 1 ≠ w.heap.size; omega) (.slice A8 X.length c8)) ⟨w.heap.size, 3, none⟩ (by show w.heap.size + 1 ≠ w.heap.size; omega) (.slice A7 T.length c7))
   have hz4 : Is (qset4 w8 w.heap.size (.slice A8 X.length c8) (.int .i64 c) (.int .i64 q) (.slice A7 T.length c7)) (w.heap.size + 1 + 1) 55 [.slice none 0 0, .int .i64 0, .int .i64 0, .slice none 0 0, .slice none 0 0] := (qset4_off _ (by omega)).trans HZ8.out
   have HK10 := Lib.hid (And.intro (fun k hk => qset4_off k hk : ∀ k, k ≠ w.heap.size → (qset4 w8 w.heap.size (.slice A8 X.length c8) (.int .i64 c) (.int .i64 q) (.slice A7 T.length c7)).heap[k]? = w8.heap[k]?) (qset4_size (w := w8) (G := w.heap.size) (a0 := .slice A8 X.length c8) (a1 := .int .i64 c) (a2 := .int .i64 q) (a3 := .slice A7 T.length c7)))
   have HZ10 := Lib.hid hz4
   have HB10 := Lib.hid (qset4_below (a0 := .slice A8 X.length c8) (a1 := .int .i64 c) (a2 := .int .i64 q) (a3 := .slice A7 T.length c7) (G := w.heap.size) HB8.out (Nat.le_refl _))
   unfold qset4 at hz4
   obtain ⟨⟨q0, q1, q2, q3, q4⟩, -⟩ := cells5 hi4
   obtain ⟨⟨z0, z1, z2, z3, z4⟩, f0, f1, f2, f3, f4⟩ := cells5 hz4
   have HI9 := Lib.hid (set5_is (a0 := .slice A8 X.length c8) (a1 := .int .i64 c) (a2 := .int .i64 q) (a3 := .slice A7 T.length c7) (a4 := .slice p.A3 r.V.length p.c3) HZ10.out)
   have HB9 := Lib.hid (set5_below (a0 := .slice A8 X.length c8) (a1 := .int .i64 c) (a2 := .int .i64 q) (a3 := .slice A7 T.length c7) (a4 := .slice p.A3 r.V.length p.c3) (G := w.heap.size + 1 + 1) HB10.out (by omega))
   clear h8 hn8 hc8 hi8 hb8 hM8 hi4 hz4
   go_wp2_with fail
   clear q0 q1 q2 q3 q4 z0 z1 z2 z3 z4 f0 f1 f2 f3 f4 e2 e3 e4 e5 e6 e7 t0 t1
   obtain ⟨w9, hw9⟩ : ∃ w9, w9 = set5 (qset4 w8 w.heap.size (.slice A8 X.length c8) (.int .i64 c) (.int .i64 q) (.slice A7 T.length c7)) (w.heap.size + 1 + 1) (.slice A8 X.length c8) (.int .i64 c) (.int .i64 q) (.slice A7 T.length c7) (.slice p.A3 r.V.length p.c3) := ⟨_, rfl⟩
   have hi9 := HI9.out
   have hb9 := HB9.out
   have hk9 : ∀ k, k ≠ w.heap.size → k ≠ w.heap.size + 1 + 1 → w9.heap[k]? = w8.heap[k]? := fun k h1 h2 => by rw [hw9, set5_off k h2, HK10.out.1 k h1]
   have hs9 : w9.heap.size = w8.heap.size := by rw [hw9, set5_size, HK10.out.2]
   rw [← hw9] at hi9 hb9
   unfold set5 qset4 at hw9
   rw [← hw9]
   obtain ⟨⟨j0, j1, j2, j3, j4⟩, -⟩ := cells5 hi9
   have hatl : At w9 w9.heap.size A7 (mvs T) := by
    refine at_off2 HT8.out ?_ hk9 hs9
    rcases moves_off HI8.out rfl HT8.out with h | h1
    ·exact .inl h
    ·rcases moves_off HZ8.out rfl HT8.out with h | h2
     ·exact .inl h
     ·exact .inr fun a ha => ⟨h1 a ha, h2 a ha⟩
   have hatb : At w9 w9.heap.size A8 (tvs X) := by
    refine at_off2 H8.out ?_ hk9 hs9
    rcases rows_off HI8.out (fun s h => by simp at h) H8.out with h | h1
    ·exact .inl h
    ·rcases rows_off HZ8.out (fun s h => by simp at h) H8.out with h | h2
     ·exact .inl h
     ·exact .inr fun a ha => ⟨h1 a ha, h2 a ha⟩
   refine bodyPost_ret (v := .tuple #[.agg #[.slice A8 X.length c8, .int .i64 c, .int .i64 q, .slice A7 T.length c7, .slice p.A3 r.V.length p.c3], .int .i64 0]) (by simp [results, Tryz.f47, go_sem, j0, j1, j2, j3, j4]) rfl ?_
   exact ⟨⟨A8, c8, A7, c7, p.A3, p.c3⟩, rfl, ⟨hatb, hatl, (HA.out.keep hb9).v⟩, ⟨HN8.out.1, HN8.out.2, HN7.out.1, HN7.out.2, PL.out.n3, PL.out.k3⟩, ⟨rfl, rfl⟩, hb9⟩
end Go.Proofs.YthhckdjagnlgpaaGreat
