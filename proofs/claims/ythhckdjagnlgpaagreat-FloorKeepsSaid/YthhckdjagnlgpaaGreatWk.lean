/-
 The document's May of replicas.
-/
import Derived.Test.YthhckdjagnlgpaaGreatWj
namespace Go.Proofs.YthhckdjagnlgpaaGreat
open Go.RowKit Go.IntWalk Go.Maps
open Gr
set_option maxRecDepth 100000
attribute [local go_sem] Oper.semAt_some
theorem rmay_v {A : Option Addr} {cap : Nat} {l : List Rw} {b : Bool} (h : mayB l = b) (hl : l.length ≤ maxLen) (hn : ∀ r ∈ l, (nm r).length ≤ maxLen) {w : World} (hc : At w w.heap.size A (tvs l)) :
  Calls Tryz.prog 24 #[.slice A l.length cap] w fun e w' => e = .returned (.bool b) ∧ Below w.heap.size w w' := by
 subst h; exact rmay_c A cap l hl hn w hc
theorem rmmay_v {A : Option Addr} {cap : Nat} {l : List Mv} {b : Bool} (h : mayM l = b) (hl : l.length ≤ maxLen) (hn : ∀ m ∈ l, (nm (mw m)).length ≤ maxLen) {w : World} (hc : At w w.heap.size A (mvs l)) :
  Calls Tryz.prog 112 #[.slice A l.length cap] w fun e w' => e = .returned (.bool b) ∧ Below w.heap.size w w' := by
 subst h; exact rmmay_c A cap l hl hn w hc
theorem rkof_v {A : Option Addr} {cap : Nat} {l : List Mv} {O : List Mk} (h : ofK l = O) (hl : l.length ≤ 40000) {w : World} (hc : At w w.heap.size A (mvs l)) :
  Calls Tryz.prog 115 #[.slice A l.length cap] w (ToldK O w) := by
 subst h; exact rkof_c A cap l hl w hc
theorem rkbelow_v {A1 A2 : Option Addr} {c1 c2 : Nat} {a b : List Mk} {q : Bool} (h : belowK a b = q) (ha : a.length ≤ 100000) (hb : b.length ≤ 100000) {w : World} (k1 : At w w.heap.size A1 (kvs a)) (k2 : At w w.heap.size A2 (kvs b)) :
  Calls Tryz.prog 114 #[.slice A1 a.length c1, .slice A2 b.length c2] w fun e w' => e = .returned (.bool q) ∧ Below w.heap.size w w' := by
 subst h; exact rkbelow_c A1 A2 c1 c2 a b ha hb w k1 k2
theorem rtime_v {c r : Int} {q : Bool} (h : timeB c r = q) (w : World) :
  Calls Tryz.prog 97 #[.agg #[.int .i64 c, .int .i64 r]] w fun e w' => e = .returned (.bool q) ∧ Below w.heap.size w w' := by
 subst h; exact rtime_c c r w
/-- the document's order of what is asked -/
theorem mayF_doc (r : Rp) : mayF r = (mayB r.B && (mayM r.L && (mayK r.V && (belowK (ofK r.L) r.V && ((zeroT r.fc r.fr || (timeB r.fc r.fr && decide (r.fc ≤ getK r.V r.fr))) && decide ((sinM r.L r.fc r.fr).length = r.L.length)))))) := by
 unfold mayF
 cases mayB r.B with
 | false => rfl
 | true => cases mayM r.L with
  | false => rfl
  | true => cases hk : mayK r.V with
   | false => rfl
   | true =>
    rw [known_time hk]
    cases belowK (ofK r.L) r.V <;> cases zeroT r.fc r.fr <;> cases timeB r.fc r.fr <;> cases decide (r.fc ≤ getK r.V r.fr) <;> cases decide ((sinM r.L r.fc r.fr).length = r.L.length) <;> rfl
set_option maxHeartbeats 16000000 in
theorem rfmay_c {p : Pl} {r : Rp} (ok : RpOk r) {w : World} (ha : RpAt p r w) :
  Calls Tryz.prog 49 #[.agg #[.slice p.A1 r.B.length p.c1, .int .i64 r.fc, .int .i64 r.fr, .slice p.A2 r.L.length p.c2, .slice p.A3 r.V.length p.c3]] w fun e w' => e = .returned (.bool (mayF r)) ∧ Below w.heap.size w w' := by
 obtain ⟨w0, hw0⟩ : ∃ w0, w0 = w.alloc (.cells #[.slice p.A1 r.B.length p.c1, .int .i64 r.fc, .int .i64 r.fr, .slice p.A2 r.L.length p.c2, .slice p.A3 r.V.length p.c3] 55) := ⟨_, rfl⟩
 have hb0 : Below w.heap.size w w0 := by rw [hw0]; exact (Below.refl w.heap.size w).alloc (Nat.le_refl _) _
 have hI : Is w0 w.heap.size 55 (rpcs p r) := by rw [hw0]; exact is_new w 55 _
 obtain ⟨G, hG⟩ : ∃ G, G = w.heap.size := ⟨_, rfl⟩
 rw [← hG] at hI
 obtain ⟨q0, q1, q2, q3, q4⟩ := box5 hI
 rw [mayF_doc]
 have HL1 := Lib.hid (show r.B.length ≤ maxLen by have := ok.lb; unfold maxLen; omega)
 have HL2 := Lib.hid (show r.L.length ≤ maxLen by have := ok.ll; unfold maxLen; omega)
 have HL3 := Lib.hid (show r.V.length ≤ 100000 by have := ok.lv; omega)
 have HN1 := Lib.hid (fun x hx => (ok.rb x hx).2 : ∀ x ∈ r.B, (nm x).length ≤ maxLen)
 have HN2 := Lib.hid (fun x hx => (ok.rl x hx).2 : ∀ x ∈ r.L, (nm (mw x)).length ≤ maxLen)
 have HA := Lib.hid (ha.keep hb0)
 have OK := Lib.hid ok
 have HB := Lib.hid hb0
 have HW := Lib.hid hw0
 have HG := Lib.hid hG
 have HI := Lib.hid hI
 clear hb0 hI hw0 hG ha ok
 cases h1 : mayB r.B with
 | false =>
  have H1 := Lib.hid h1
  clear h1
  rw [Bool.false_and]
  go_enter Tryz.func49, Tryz.ntmps49
  go_wp2_with fail
  rw [← HW.out, ← HG.out]
  refine quiet_held (fun w' => Below w0.heap.size w0 w') (by kernel_rfl) (by kernel_rfl) (Below.refl _ _).drew ?_
  repeat (first
   | go_big_quiet_skip
   | (go_big_quiet_want; go_big_quiet_op; go_big_quiet_on)
   | (go_big_quiet_want; apply Exists.intro; refine ⟨fun wq hq => ?_, ?_⟩; (focus (have r0 := keep_cell hq q0; have r1 := keep_cell hq q1; have r2 := keep_cell hq q2; have r3 := keep_cell hq q3; have r4 := keep_cell hq q4; unfold Oper.quietAt; go_simp; all_goals (first | rfl | exact ⟨rfl, rfl⟩ | (with_reducible refine (rmay_v H1.out HL1.out HN1.out (HA.out.keep hq).b).mono ?_; rintro e w5 ⟨rfl, hbn⟩; exact ⟨rfl, hq.trans (hbn.mono hq.size)⟩)))); simp only [Act.put, List.setIfInBounds_toArray, List.set_cons_zero, List.set_cons_succ]; go_big_quiet_on))
  refine wpQuiet_nil ?_
  intro wq hq
  go_wp2_with fail
  go_ret
  exact ⟨rfl, HB.out.trans (hq.mono HB.out.size)⟩
 | true =>
 have H1 := Lib.hid h1
 clear h1
 rw [Bool.true_and]
 cases h2 : mayM r.L with
 | false =>
  have H2 := Lib.hid h2
  clear h2
  rw [Bool.false_and]
  go_enter Tryz.func49, Tryz.ntmps49
  go_wp2_with fail
  rw [← HW.out, ← HG.out]
  refine quiet_held (fun w' => Below w0.heap.size w0 w') (by kernel_rfl) (by kernel_rfl) (Below.refl _ _).drew ?_
  repeat (first
   | go_big_quiet_skip
   | (go_big_quiet_want; go_big_quiet_op; go_big_quiet_on)
   | (go_big_quiet_want; apply Exists.intro; refine ⟨fun wq hq => ?_, ?_⟩; (focus (have r0 := keep_cell hq q0; have r1 := keep_cell hq q1; have r2 := keep_cell hq q2; have r3 := keep_cell hq q3; have r4 := keep_cell hq q4; unfold Oper.quietAt; go_simp; all_goals (first | rfl | exact ⟨rfl, rfl⟩ | (with_reducible refine (rmay_v H1.out HL1.out HN1.out (HA.out.keep hq).b).mono ?_; rintro e w5 ⟨rfl, hbn⟩; exact ⟨rfl, hq.trans (hbn.mono hq.size)⟩) | (with_reducible refine (rmmay_v H2.out HL2.out HN2.out (HA.out.keep hq).l).mono ?_; rintro e w5 ⟨rfl, hbn⟩; exact ⟨rfl, hq.trans (hbn.mono hq.size)⟩)))); simp only [Act.put, List.setIfInBounds_toArray, List.set_cons_zero, List.set_cons_succ]; go_big_quiet_on))
  refine wpQuiet_nil ?_
  intro wq hq
  go_wp2_with fail
  go_ret
  exact ⟨rfl, HB.out.trans (hq.mono HB.out.size)⟩
 | true =>
 have H2 := Lib.hid h2
 clear h2
 rw [Bool.true_and]
 cases h3 : mayK r.V with
 | false =>
  have H3 := Lib.hid h3
  clear h3
  rw [Bool.false_and]
  go_enter Tryz.func49, Tryz.ntmps49
  go_wp2_with fail
  rw [← HW.out, ← HG.out]
  refine quiet_held (fun w' => Below w0.heap.size w0 w') (by kernel_rfl) (by kernel_rfl) (Below.refl _ _).drew ?_
  repeat (first
   | go_big_quiet_skip
   | (go_big_quiet_want; go_big_quiet_op; go_big_quiet_on)
   | (go_big_quiet_want; apply Exists.intro; refine ⟨fun wq hq => ?_, ?_⟩; (focus (have r0 := keep_cell hq q0; have r1 := keep_cell hq q1; have r2 := keep_cell hq q2; have r3 := keep_cell hq q3; have r4 := keep_cell hq q4; unfold Oper.quietAt; go_simp; all_goals (first | rfl | exact ⟨rfl, rfl⟩ | (with_reducible refine (rmay_v H1.out HL1.out HN1.out (HA.out.keep hq).b).mono ?_; rintro e w5 ⟨rfl, hbn⟩; exact ⟨rfl, hq.trans (hbn.mono hq.size)⟩) | (with_reducible refine (rmmay_v H2.out HL2.out HN2.out (HA.out.keep hq).l).mono ?_; rintro e w5 ⟨rfl, hbn⟩; exact ⟨rfl, hq.trans (hbn.mono hq.size)⟩) | (with_reducible refine (rkmay_k H3.out HL3.out (HA.out.keep hq).v).mono ?_; rintro e w5 ⟨rfl, hbn⟩; exact ⟨rfl, hq.trans (hbn.mono hq.size)⟩)))); simp only [Act.put, List.setIfInBounds_toArray, List.set_cons_zero, List.set_cons_succ]; go_big_quiet_on))
  refine wpQuiet_nil ?_
  intro wq hq
  go_wp2_with fail
  go_ret
  exact ⟨rfl, HB.out.trans (hq.mono HB.out.size)⟩
 | true =>
 have H3 := Lib.hid h3
 clear h3
 rw [Bool.true_and]
 have hol := ofK_len r.L
 obtain ⟨O, hO⟩ : ∃ O, ofK r.L = O := ⟨_, rfl⟩
 rw [hO] at hol ⊢
 have HO := Lib.hid hO
 have HOL := Lib.hid (show O.length ≤ 100000 by have := OK.out.ll; omega)
 have HLL := Lib.hid (show r.L.length ≤ 40000 by have := OK.out.ll; omega)
 obtain ⟨b4, h4⟩ : ∃ b, belowK O r.V = b := ⟨_, rfl⟩
 rw [h4]
 have H4 := Lib.hid h4
 obtain ⟨fc, hfc⟩ : ∃ x, r.fc = x := ⟨_, rfl⟩
 obtain ⟨fr, hfr⟩ : ∃ x, r.fr = x := ⟨_, rfl⟩
 have hIf := HI.out
 unfold rpcs at hIf
 have hWf := HW.out
 rw [hfc, hfr] at hIf hWf ⊢
 have HW := Lib.hid hWf
 have HIF := Lib.hid hIf
 have HFC := Lib.hid hfc
 have HFR := Lib.hid hfr
 obtain ⟨y, hy⟩ : ∃ y, getK r.V fr = y := ⟨_, rfl⟩
 rw [hy]
 have HY := Lib.hid hy
 obtain ⟨tb, htb⟩ : ∃ b, timeB fc fr = b := ⟨_, rfl⟩
 rw [htb]
 have HTB := Lib.hid htb
 obtain ⟨sb, hsb⟩ : ∃ b, decide ((sinM r.L fc fr).length = r.L.length) = b := ⟨_, rfl⟩
 rw [hsb]
 have HSB := Lib.hid hsb
 obtain ⟨res, hres⟩ : ∃ b, (b4 && ((zeroT fc fr || (tb && decide (fc ≤ y))) && sb)) = b := ⟨_, rfl⟩
 rw [hres]
 have HRES := Lib.hid hres
 have HVL := Lib.hid (show r.V.length ≤ maxLen by have := OK.out.lv; unfold maxLen; omega)
 clear hO hol h4 hfc hfr hIf hWf hy htb hsb hres HI
 go_enter Tryz.func49, Tryz.ntmps49
 go_wp2_with fail
 rw [← HW.out, ← HG.out]
 go_region_held3 (fun w' => w'.cell? ⟨G, 0, none⟩ = some (.slice p.A1 r.B.length p.c1) ∧ w'.cell? ⟨G, 3, none⟩ = some (.slice p.A2 r.L.length p.c2) ∧ w'.cell? ⟨G, 4, none⟩ = some (.slice p.A3 r.V.length p.c3) ∧ Below w0.heap.size w0 w')
  (first
   | (exact hold3k (by assumption) hbn)
   | (exact drew3k (by assumption))
   | (exact start3k q0 q3 q4)
   | go_keep)
  (first
   | (go_at_call 24; refine (rmay_v H1.out HL1.out HN1.out (HA.out.keep (bel3k (by assumption))).b).mono ?_; rintro e wa ⟨rfl, hbn⟩)
   | (go_at_call 112; refine (rmmay_v H2.out HL2.out HN2.out (HA.out.keep (bel3k (by assumption))).l).mono ?_; rintro e wa ⟨rfl, hbn⟩)
   | (go_at_call 113; refine (rkmay_k H3.out HL3.out (HA.out.keep (bel3k (by assumption))).v).mono ?_; rintro e wa ⟨rfl, hbn⟩)
   | (go_at_call 115; refine (rkof_v HO.out HLL.out (HA.out.keep (bel3k (by assumption))).l).mono ?_; rintro e wa ⟨E, fE, rfl, hj1, -, -, hbn⟩)
   | (go_at_call 114; refine (rkbelow_v H4.out HOL.out HL3.out hj1 (HA.out.keep (bel3k (by assumption))).v).mono ?_; rintro e wa ⟨rfl, hbn⟩))
 have hbz : Below w0.heap.size w0 wa := bel3k (by assumption)
 have HBZ := Lib.hid hbz
 clear hbz q0 q1 q2 q3 q4
 have HIa := Lib.hid (is_below HIF.out HBZ.out (is_lt HIF.out))
 clear HIF
 cases b4 with
 | false =>
  go_wp2_with fail
  go_ret
  exact ⟨by rw [← HRES.out]; rfl, HB.out.trans (HBZ.out.mono HB.out.size)⟩
 | true =>
 obtain ⟨⟨q0, q1, q2, q3, q4⟩, -⟩ := cells5 HIa.out
 by_cases e1 : fc = 0
 ·by_cases e2 : fr = 0
  ·subst e1
   subst e2
   go_wp2_with fail
   refine quiet_held (fun w' => Below wa.heap.size wa w') (by kernel_rfl) (by kernel_rfl) (Below.refl _ _).drew ?_
   repeat (first
    | go_big_quiet_skip
    | (go_big_quiet_want; go_big_quiet_op; go_big_quiet_on)
    | (go_big_quiet_want; apply Exists.intro; refine ⟨fun wq hq => ?_, ?_⟩; (focus (have r1 := keep_cell hq q1; have r2 := keep_cell hq q2; have r4 := keep_cell hq q4; unfold Oper.quietAt; go_simp; all_goals (first | rfl | exact ⟨rfl, rfl⟩ | rfl))); simp only [Act.put, List.setIfInBounds_toArray, List.set_cons_zero, List.set_cons_succ]; go_big_quiet_on))
   refine wpQuiet_nil ?_
   intro wq hq
   have HBX := Lib.hid (HBZ.out.trans (hq.mono HBZ.out.size))
   have HIX := Lib.hid (is_below HIa.out hq (is_lt HIa.out))
   clear hq q0 q1 q2 q3 q4
   have HSR : Hid (sb = res) := Lib.hid (by rw [← HRES.out]; simp [zeroT])
   go_wp2_with fail
   go_loopw [3] (fun i wr => ∃ k : Nat, i = .int .i64 (k : Int) ∧ k ≤ r.L.length ∧ (∀ y ∈ r.L.take k, befM 0 0 y = true) ∧ Below wq.heap.size wq wr) (fun i _ => r.L.length - (Go.RowKit.intOf i).toNat)
   case atStart => exact ⟨0, rfl, Nat.zero_le _, (fun y hy => by cases hy), Below.refl _ _⟩
   case round =>
    obtain ⟨k, rfl, hk, hall, hbw⟩ := hrel
    have HALL := Lib.hid hall
    have hir := is_below HIX.out hbw (is_lt HIX.out)
    have hllb := OK.out.ll
    obtain ⟨⟨q0, q1, q2, q3, q4⟩, -⟩ := cells5 hir
    have har := (HA.out.keep HBX.out).keep hbw
    have HAR := Lib.hid har
    clear hall hir
    by_cases hlt : k < r.L.length
    ·obtain ⟨m, hm⟩ := some_at hlt
     obtain ⟨b0, o0, e0, -, x0, x1, -, -, -, -⟩ := move_cells har.l hm
     rw [e0] at q3
     have hk0 : (0 : Int) ≤ (k : Int) := by omega
     have hkl : (k : Int) < (r.L.length : Int) := by omega
     have HTK := Lib.hid (show r.L.take (k + 1) = r.L.take k ++ [m] by rw [List.take_add_one, hm]; rfl)
     have HMEM := Lib.hid (mem_at hm)
     clear hm har e0
     cases hbf : befM 0 0 m with
     | true =>
      have HBF := Lib.hid hbf
      have HBG := Lib.hid (show befT 0 0 (mc m) (mr m) = true from hbf)
      clear hbf
      go_wp2_with fail
      refine quiet_held (fun w' => Below wr.heap.size wr w') (by kernel_rfl) (by kernel_rfl) (Below.refl _ _).drew ?_
      repeat (first
       | go_big_quiet_skip
       | (go_big_quiet_want; go_big_quiet_op; go_big_quiet_on)
       | (go_big_quiet_want; apply Exists.intro; refine ⟨fun wq hq => ?_, ?_⟩; (focus (have r1 := keep_cell hq q1; have r2 := keep_cell hq q2; have r3 := keep_cell hq q3; have r5 := keep_cell hq x0; have r6 := keep_cell hq x1; unfold Oper.quietAt; go_simp; all_goals (first | rfl | exact ⟨rfl, rfl⟩ | (with_reducible refine (rbef_k HBG.out _).mono ?_; rintro e w5 ⟨rfl, hbn⟩; exact ⟨rfl, hq.trans (hbn.mono hq.size)⟩)))); simp only [Act.put, List.setIfInBounds_toArray, List.set_cons_zero, List.set_cons_succ]; go_big_quiet_on))
      refine wpQuiet_nil ?_
      intro wv hbv
      go_wp2_with fail
      go_roundw
      case rel => exact ⟨k + 1, by go_num, by omega, by
       rw [HTK.out]
       intro y hy
       rcases List.mem_append.1 hy with h | h
       ·exact HALL.out y h
       ·rw [List.mem_singleton.1 h]; exact HBF.out, hbw.trans (hbv.mono hbw.size)⟩
      case measure => simp only [Go.RowKit.intOf]; omega
     | false =>
      have HBF := Lib.hid hbf
      have HBG := Lib.hid (show befT 0 0 (mc m) (mr m) = false from hbf)
      clear hbf
      have HNO := Lib.hid (show sb = false from by
       rw [← HSB.out]
       refine decide_eq_false (Nat.ne_of_lt ?_)
       unfold sinM
       exact List.length_filter_lt_length_iff_exists.2 ⟨m, HMEM.out, fun h => by rw [HBF.out] at h; cases h⟩)
      go_wp2_with fail
      refine quiet_held (fun w' => Below wr.heap.size wr w') (by kernel_rfl) (by kernel_rfl) (Below.refl _ _).drew ?_
      repeat (first
       | go_big_quiet_skip
       | (go_big_quiet_want; go_big_quiet_op; go_big_quiet_on)
       | (go_big_quiet_want; apply Exists.intro; refine ⟨fun wq hq => ?_, ?_⟩; (focus (have r1 := keep_cell hq q1; have r2 := keep_cell hq q2; have r3 := keep_cell hq q3; have r5 := keep_cell hq x0; have r6 := keep_cell hq x1; unfold Oper.quietAt; go_simp; all_goals (first | rfl | exact ⟨rfl, rfl⟩ | (with_reducible refine (rbef_k HBG.out _).mono ?_; rintro e w5 ⟨rfl, hbn⟩; exact ⟨rfl, hq.trans (hbn.mono hq.size)⟩)))); simp only [Act.put, List.setIfInBounds_toArray, List.set_cons_zero, List.set_cons_succ]; go_big_quiet_on))
      refine wpQuiet_nil ?_
      intro wv hbv
      go_wp2_with fail
      go_ret
      exact ⟨by rw [← HSR.out, HNO.out]; rfl, HB.out.trans ((HBX.out.trans ((hbw.trans (hbv.mono hbw.size)).mono HBX.out.size)).mono HB.out.size)⟩
    ·obtain rfl : k = r.L.length := by omega
     have HYES := Lib.hid (show sb = true from by
      rw [← HSB.out]
      refine decide_eq_true ?_
      have h := HALL.out
      rw [List.take_length] at h
      unfold sinM
      exact congrArg List.length (List.filter_eq_self.2 h))
     have HCH := Lib.hid (children_c p.A1 p.A2 p.c1 p.c2 r.B r.L 0 (by unfold In64; omega) (by have := OK.out.lb; have := OK.out.ll; omega) (fun x hx => one64 (((mayB_tree r.B).1 H1.out).one x hx)) (fun m hm => one64 (one_row ((mayM_iff.1 H2.out).2.1 m hm))) wr HAR.out.b HAR.out.l)
     clear har hlt
     go_wp2_with fail
     refine HCH.out.mono ?_
     rintro e w9 ⟨z, b, rfl, hz, hb9⟩
     have hzd : decide ((z : Int) ≤ 2000) = true := decide_eq_true (by omega)
     have hzd2 : decide (z ≤ 2000) = true := decide_eq_true (by omega)
     have HB9 := Lib.hid (HB.out.trans ((HBX.out.trans ((hbw.trans (hb9.mono hbw.size)).mono HBX.out.size)).mono HB.out.size))
     clear q0 q1 q2 q3 q4 hb9 hbw
     go_wp2_with fail
     go_ret
     exact ⟨by rw [← HSR.out, HYES.out]; rfl, HB9.out⟩
  ·subst e1
   have HZ := Lib.hid (show zeroT 0 fr = false by unfold zeroT; rw [decide_eq_false e2, Bool.and_false])
   have HE2 := Lib.hid e2
   clear e2
   cases tb with
   | false =>
    go_wp2_with fail
    refine quiet_held (fun w' => Below wa.heap.size wa w') (by kernel_rfl) (by kernel_rfl) (Below.refl _ _).drew ?_
    repeat (first
     | go_big_quiet_skip
     | (go_big_quiet_want; go_big_quiet_op; go_big_quiet_on)
     | (go_big_quiet_want; apply Exists.intro; refine ⟨fun wq hq => ?_, ?_⟩; (focus (have r1 := keep_cell hq q1; have r2 := keep_cell hq q2; have r4 := keep_cell hq q4; unfold Oper.quietAt; go_simp; all_goals (first | rfl | exact ⟨rfl, rfl⟩ | (with_reducible refine (rtime_v HTB.out _).mono ?_; rintro e w5 ⟨rfl, hbn⟩; exact ⟨rfl, hq.trans (hbn.mono hq.size)⟩) | (rw [if_neg HE2.out]; exact ⟨rfl, rfl⟩)))); simp only [Act.put, List.setIfInBounds_toArray, List.set_cons_zero, List.set_cons_succ]; go_big_quiet_on))
    refine wpQuiet_nil ?_
    intro wq hq
    have HRF : Hid (res = false) := Lib.hid (by rw [← HRES.out]; simp [HZ.out])
    go_wp2_with fail
    go_ret
    exact ⟨by rw [HRF.out]; rfl, HB.out.trans ((HBZ.out.trans (hq.mono HBZ.out.size)).mono HB.out.size)⟩
   | true =>
    exfalso
    have h := HTB.out
    unfold timeB at h
    simp at h
 ·have HZ := Lib.hid (show zeroT fc fr = false by unfold zeroT; rw [decide_eq_false e1, Bool.false_and])
  have HE1 := Lib.hid e1
  clear e1
  cases tb with
  | false =>
   go_wp2_with fail
   refine quiet_held (fun w' => Below wa.heap.size wa w') (by kernel_rfl) (by kernel_rfl) (Below.refl _ _).drew ?_
   repeat (first
    | go_big_quiet_skip
    | (go_big_quiet_want; go_big_quiet_op; go_big_quiet_on)
    | (go_big_quiet_want; apply Exists.intro; refine ⟨fun wq hq => ?_, ?_⟩; (focus (have r1 := keep_cell hq q1; have r2 := keep_cell hq q2; have r4 := keep_cell hq q4; unfold Oper.quietAt; go_simp; all_goals (first | rfl | exact ⟨rfl, rfl⟩ | (with_reducible refine (rtime_v HTB.out _).mono ?_; rintro e w5 ⟨rfl, hbn⟩; exact ⟨rfl, hq.trans (hbn.mono hq.size)⟩) | (rw [if_neg HE1.out]; exact ⟨rfl, rfl⟩)))); simp only [Act.put, List.setIfInBounds_toArray, List.set_cons_zero, List.set_cons_succ]; go_big_quiet_on))
   refine wpQuiet_nil ?_
   intro wq hq
   have HRF : Hid (res = false) := Lib.hid (by rw [← HRES.out]; simp [HZ.out])
   go_wp2_with fail
   go_ret
   exact ⟨by rw [HRF.out]; rfl, HB.out.trans ((HBZ.out.trans (hq.mono HBZ.out.size)).mono HB.out.size)⟩
  | true =>
  by_cases hfy : fc ≤ y
  ·have hdy : decide (y < fc) = false := decide_eq_false (by omega)
   have HFY := Lib.hid hfy
   clear hfy
   go_wp2_with fail
   refine quiet_held (fun w' => Below wa.heap.size wa w') (by kernel_rfl) (by kernel_rfl) (Below.refl _ _).drew ?_
   repeat (first
    | go_big_quiet_skip
    | (simp only [hdy])
    | (go_big_quiet_want; go_big_quiet_op; go_big_quiet_on)
    | (go_big_quiet_want; apply Exists.intro; refine ⟨fun wq hq => ?_, ?_⟩; (focus (have r1 := keep_cell hq q1; have r2 := keep_cell hq q2; have r4 := keep_cell hq q4; unfold Oper.quietAt; go_simp; all_goals (first | rfl | exact ⟨rfl, rfl⟩ | (with_reducible refine (rtime_v HTB.out _).mono ?_; rintro e w5 ⟨rfl, hbn⟩; exact ⟨rfl, hq.trans (hbn.mono hq.size)⟩) | (with_reducible refine (rkget_k HY.out HVL.out wq ((HA.out.keep HBZ.out).keep hq).v).mono ?_; rintro e w5 ⟨rfl, rfl⟩; exact ⟨rfl, hq⟩) | (rw [if_neg HE1.out]; exact ⟨rfl, rfl⟩)))); simp only [Act.put, List.setIfInBounds_toArray, List.set_cons_zero, List.set_cons_succ]; go_big_quiet_on))
   refine wpQuiet_nil ?_
   intro wq hq
   have HBX := Lib.hid (HBZ.out.trans (hq.mono HBZ.out.size))
   have HIX := Lib.hid (is_below HIa.out hq (is_lt HIa.out))
   clear hq q0 q1 q2 q3 q4
   have HSR : Hid (sb = res) := Lib.hid (by rw [← HRES.out]; simp [HZ.out, HFY.out])
   go_wp2_with fail
   go_loopw [3] (fun i wr => ∃ k : Nat, i = .int .i64 (k : Int) ∧ k ≤ r.L.length ∧ (∀ y ∈ r.L.take k, befM fc fr y = true) ∧ Below wq.heap.size wq wr) (fun i _ => r.L.length - (Go.RowKit.intOf i).toNat)
   case atStart => exact ⟨0, rfl, Nat.zero_le _, (fun y hy => by cases hy), Below.refl _ _⟩
   case round =>
    obtain ⟨k, rfl, hk, hall, hbw⟩ := hrel
    have HALL := Lib.hid hall
    have hir := is_below HIX.out hbw (is_lt HIX.out)
    have hllb := OK.out.ll
    obtain ⟨⟨q0, q1, q2, q3, q4⟩, -⟩ := cells5 hir
    have har := (HA.out.keep HBX.out).keep hbw
    have HAR := Lib.hid har
    clear hall hir
    by_cases hlt : k < r.L.length
    ·obtain ⟨m, hm⟩ := some_at hlt
     obtain ⟨b0, o0, e0, -, x0, x1, -, -, -, -⟩ := move_cells har.l hm
     rw [e0] at q3
     have hk0 : (0 : Int) ≤ (k : Int) := by omega
     have hkl : (k : Int) < (r.L.length : Int) := by omega
     have HTK := Lib.hid (show r.L.take (k + 1) = r.L.take k ++ [m] by rw [List.take_add_one, hm]; rfl)
     have HMEM := Lib.hid (mem_at hm)
     clear hm har e0
     cases hbf : befM fc fr m with
     | true =>
      have HBF := Lib.hid hbf
      have HBG := Lib.hid (show befT fc fr (mc m) (mr m) = true from hbf)
      clear hbf
      go_wp2_with fail
      refine quiet_held (fun w' => Below wr.heap.size wr w') (by kernel_rfl) (by kernel_rfl) (Below.refl _ _).drew ?_
      repeat (first
       | go_big_quiet_skip
       | (go_big_quiet_want; go_big_quiet_op; go_big_quiet_on)
       | (go_big_quiet_want; apply Exists.intro; refine ⟨fun wq hq => ?_, ?_⟩; (focus (have r1 := keep_cell hq q1; have r2 := keep_cell hq q2; have r3 := keep_cell hq q3; have r5 := keep_cell hq x0; have r6 := keep_cell hq x1; unfold Oper.quietAt; go_simp; all_goals (first | rfl | exact ⟨rfl, rfl⟩ | (with_reducible refine (rbef_k HBG.out _).mono ?_; rintro e w5 ⟨rfl, hbn⟩; exact ⟨rfl, hq.trans (hbn.mono hq.size)⟩)))); simp only [Act.put, List.setIfInBounds_toArray, List.set_cons_zero, List.set_cons_succ]; go_big_quiet_on))
      refine wpQuiet_nil ?_
      intro wv hbv
      go_wp2_with fail
      go_roundw
      case rel => exact ⟨k + 1, by go_num, by omega, by
       rw [HTK.out]
       intro y hy
       rcases List.mem_append.1 hy with h | h
       ·exact HALL.out y h
       ·rw [List.mem_singleton.1 h]; exact HBF.out, hbw.trans (hbv.mono hbw.size)⟩
      case measure => simp only [Go.RowKit.intOf]; omega
     | false =>
      have HBF := Lib.hid hbf
      have HBG := Lib.hid (show befT fc fr (mc m) (mr m) = false from hbf)
      clear hbf
      have HNO := Lib.hid (show sb = false from by
       rw [← HSB.out]
       refine decide_eq_false (Nat.ne_of_lt ?_)
       unfold sinM
       exact List.length_filter_lt_length_iff_exists.2 ⟨m, HMEM.out, fun h => by rw [HBF.out] at h; cases h⟩)
      go_wp2_with fail
      refine quiet_held (fun w' => Below wr.heap.size wr w') (by kernel_rfl) (by kernel_rfl) (Below.refl _ _).drew ?_
      repeat (first
       | go_big_quiet_skip
       | (go_big_quiet_want; go_big_quiet_op; go_big_quiet_on)
       | (go_big_quiet_want; apply Exists.intro; refine ⟨fun wq hq => ?_, ?_⟩; (focus (have r1 := keep_cell hq q1; have r2 := keep_cell hq q2; have r3 := keep_cell hq q3; have r5 := keep_cell hq x0; have r6 := keep_cell hq x1; unfold Oper.quietAt; go_simp; all_goals (first | rfl | exact ⟨rfl, rfl⟩ | (with_reducible refine (rbef_k HBG.out _).mono ?_; rintro e w5 ⟨rfl, hbn⟩; exact ⟨rfl, hq.trans (hbn.mono hq.size)⟩)))); simp only [Act.put, List.setIfInBounds_toArray, List.set_cons_zero, List.set_cons_succ]; go_big_quiet_on))
      refine wpQuiet_nil ?_
      intro wv hbv
      go_wp2_with fail
      go_ret
      exact ⟨by rw [← HSR.out, HNO.out]; rfl, HB.out.trans ((HBX.out.trans ((hbw.trans (hbv.mono hbw.size)).mono HBX.out.size)).mono HB.out.size)⟩
    ·obtain rfl : k = r.L.length := by omega
     have HYES := Lib.hid (show sb = true from by
      rw [← HSB.out]
      refine decide_eq_true ?_
      have h := HALL.out
      rw [List.take_length] at h
      unfold sinM
      exact congrArg List.length (List.filter_eq_self.2 h))
     have HCH := Lib.hid (children_c p.A1 p.A2 p.c1 p.c2 r.B r.L 0 (by unfold In64; omega) (by have := OK.out.lb; have := OK.out.ll; omega) (fun x hx => one64 (((mayB_tree r.B).1 H1.out).one x hx)) (fun m hm => one64 (one_row ((mayM_iff.1 H2.out).2.1 m hm))) wr HAR.out.b HAR.out.l)
     clear har hlt
     go_wp2_with fail
     refine HCH.out.mono ?_
     rintro e w9 ⟨z, b, rfl, hz, hb9⟩
     have hzd : decide ((z : Int) ≤ 2000) = true := decide_eq_true (by omega)
     have hzd2 : decide (z ≤ 2000) = true := decide_eq_true (by omega)
     have HB9 := Lib.hid (HB.out.trans ((HBX.out.trans ((hbw.trans (hb9.mono hbw.size)).mono HBX.out.size)).mono HB.out.size))
     clear q0 q1 q2 q3 q4 hb9 hbw
     go_wp2_with fail
     go_ret
     exact ⟨by rw [← HSR.out, HYES.out]; rfl, HB9.out⟩
  ·have hdy : decide (y < fc) = true := decide_eq_true (by omega)
   have HFY := Lib.hid hfy
   clear hfy
   go_wp2_with fail
   refine quiet_held (fun w' => Below wa.heap.size wa w') (by kernel_rfl) (by kernel_rfl) (Below.refl _ _).drew ?_
   repeat (first
    | go_big_quiet_skip
    | (simp only [hdy])
    | (go_big_quiet_want; go_big_quiet_op; go_big_quiet_on)
    | (go_big_quiet_want; apply Exists.intro; refine ⟨fun wq hq => ?_, ?_⟩; (focus (have r1 := keep_cell hq q1; have r2 := keep_cell hq q2; have r4 := keep_cell hq q4; unfold Oper.quietAt; go_simp; all_goals (first | rfl | exact ⟨rfl, rfl⟩ | (with_reducible refine (rtime_v HTB.out _).mono ?_; rintro e w5 ⟨rfl, hbn⟩; exact ⟨rfl, hq.trans (hbn.mono hq.size)⟩) | (with_reducible refine (rkget_k HY.out HVL.out wq ((HA.out.keep HBZ.out).keep hq).v).mono ?_; rintro e w5 ⟨rfl, rfl⟩; exact ⟨rfl, hq⟩) | (rw [if_neg HE1.out]; exact ⟨rfl, rfl⟩)))); simp only [Act.put, List.setIfInBounds_toArray, List.set_cons_zero, List.set_cons_succ]; go_big_quiet_on))
   refine wpQuiet_nil ?_
   intro wq hq
   have HRF : Hid (res = false) := Lib.hid (by rw [← HRES.out]; rw [decide_eq_false (show ¬ fc ≤ y by have := HFY.out; omega)]; simp [HZ.out])
   go_wp2_with fail
   go_ret
   exact ⟨by rw [HRF.out]; rfl, HB.out.trans ((HBZ.out.trans (hq.mono HBZ.out.size)).mono HB.out.size)⟩
end Go.Proofs.YthhckdjagnlgpaaGreat
