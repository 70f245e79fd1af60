/-
 The document's Tree, Few and Same of replicas.
 The document's Same of replicas.
 The document's Add of replicas.
-/
import Derived.Test.YthhckdjagnlgpaaGreatWk
section
namespace Go.Proofs.YthhckdjagnlgpaaGreat
open Go.RowKit Go.IntWalk Go.Maps
open Gr
set_option maxRecDepth 100000
attribute [local go_sem] Oper.semAt_some
def fewF (r : Rp) : Bool := few r.B && (fewM r.L 60 && decide (r.V.length ≤ 60))
set_option maxHeartbeats 4000000 in
theorem rftree_c {p : Pl} {r : Rp} (ok : RpOk r) (pl : RpPl p r) {w : World} (ha : RpAt p r w) :
  Calls Tryz.prog 51 #[.agg #[.slice p.A1 r.B.length p.c1, .int .i64 r.fc, .int .i64 r.fr, .slice p.A2 r.L.length p.c2, .slice p.A3 r.V.length p.c3]] w fun e w' => ∃ A c, e = .returned (.slice A (treeF r).length c) ∧ At w' w'.heap.size A (tvs (treeF r)) ∧ Below w.heap.size w w' := by
 obtain ⟨w0, hw0⟩ : ∃ w0, w0 = w.alloc (.cells #[.slice p.A1 r.B.length p.c1, .int .i64 r.fc, .int .i64 r.fr, .slice p.A2 r.L.length p.c2, .slice p.A3 r.V.length p.c3] 55) := ⟨_, rfl⟩
 have hb0 : Below w.heap.size w w0 := by rw [hw0]; exact (Below.refl w.heap.size w).alloc (Nat.le_refl _) _
 have hI : Is w0 w.heap.size 55 (rpcs p r) := by rw [hw0]; exact is_new w 55 _
 obtain ⟨G, hG⟩ : ∃ G, G = w.heap.size := ⟨_, rfl⟩
 rw [← hG] at hI
 obtain ⟨q0, q1, q2, q3, q4⟩ := box5 hI
 have hlb := ok.lb
 have hll := ok.ll
 have HC := Lib.hid (rall_c p.A1 p.A2 p.c1 p.c2 r.B r.L (by omega) pl.n1 pl.k1 (allP_rabove (by omega)) w0 (ha.keep hb0).b (ha.keep hb0).l)
 have HB := Lib.hid hb0
 have HW := Lib.hid hw0
 have HG := Lib.hid hG
 clear hb0 hI hw0 hG ha
 go_enter Tryz.func51, Tryz.ntmps51
 go_wp2_with fail
 rw [← HW.out]
 refine HC.out.mono ?_
 rintro e w2 ⟨A, c, rfl, hat, -, -, hb⟩
 go_wp2_with fail
 go_ret
 exact ⟨A, c, rfl, hat, HB.out.trans (hb.mono HB.out.size)⟩
theorem few_v {A : Option Addr} {cap : Nat} {l : List Rw} {b : Bool} (h : few l = b) (hl : l.length ≤ maxLen) {w : World} (hc : At w w.heap.size A (tvs l)) :
  Calls Tryz.prog 17 #[.slice A l.length cap] w fun e w' => e = .returned (.bool b) ∧ w = w' := by
 subst h; exact few_c A cap l hl w hc
theorem fewM_v {A : Option Addr} {cap : Nat} {l : List Mv} {n : Nat} {b : Bool} (h : fewM l n = b) (hl : l.length ≤ maxLen) (hn : n ≤ 1000) {w : World} (hc : At w w.heap.size A (mvs l)) :
  Calls Tryz.prog 54 #[.slice A l.length cap, .int .i64 (n : Int)] w fun e w' => e = .returned (.bool b) ∧ w = w' := by
 subst h; exact rmfew_c A cap l n hl hn w hc
set_option maxHeartbeats 4000000 in
theorem rffew_c {p : Pl} {r : Rp} (h1 : r.B.length ≤ maxLen) (h2 : r.L.length ≤ maxLen) (h3 : r.V.length ≤ maxLen) {w : World} (ha : RpAt p r w) :
  Calls Tryz.prog 42 #[.agg #[.slice p.A1 r.B.length p.c1, .int .i64 r.fc, .int .i64 r.fr, .slice p.A2 r.L.length p.c2, .slice p.A3 r.V.length p.c3]] w fun e w' => e = .returned (.bool (fewF r)) ∧ Below w.heap.size w w' := by
 obtain ⟨w0, hw0⟩ : ∃ w0, w0 = w.alloc (.cells #[.slice p.A1 r.B.length p.c1, .int .i64 r.fc, .int .i64 r.fr, .slice p.A2 r.L.length p.c2, .slice p.A3 r.V.length p.c3] 55) := ⟨_, rfl⟩
 have hb0 : Below w.heap.size w w0 := by rw [hw0]; exact (Below.refl w.heap.size w).alloc (Nat.le_refl _) _
 have hI : Is w0 w.heap.size 55 (rpcs p r) := by rw [hw0]; exact is_new w 55 _
 obtain ⟨G, hG⟩ : ∃ G, G = w.heap.size := ⟨_, rfl⟩
 rw [← hG] at hI
 obtain ⟨q0, q1, q2, q3, q4⟩ := box5 hI
 obtain ⟨x, hx⟩ : ∃ b, few r.B = b := ⟨_, rfl⟩
 obtain ⟨y, hy⟩ : ∃ b, fewM r.L 60 = b := ⟨_, rfl⟩
 have hres : fewF r = (x && (y && decide (r.V.length ≤ 60))) := by unfold fewF; rw [hx, hy]
 rw [hres]
 have HX := Lib.hid (few_v (cap := p.c1) hx h1 (ha.keep hb0).b)
 have HY := Lib.hid (fewM_v (n := 60) (cap := p.c2) hy h2 (by decide) (ha.keep hb0).l)
 have HB := Lib.hid hb0
 have HW := Lib.hid hw0
 have HG := Lib.hid hG
 unfold maxLen at h3
 clear hb0 hI hw0 hG ha hx hy hres h1 h2
 go_enter Tryz.func42, Tryz.ntmps42
 go_wp2_with fail
 rw [← HW.out, ← HG.out]
 refine HX.out.mono ?_
 rintro e w1 ⟨rfl, rfl⟩
 cases x with
 | false =>
  go_wp2_with fail
  go_ret
  exact ⟨rfl, HB.out⟩
 | true =>
 go_wp2_with fail
 refine HY.out.mono ?_
 rintro e w1 ⟨rfl, rfl⟩
 cases y with
 | false =>
  go_wp2_with fail
  go_ret
  exact ⟨rfl, HB.out⟩
 | true =>
 by_cases hv : r.V.length ≤ 60
 ·have hd : decide ((r.V.length : Int) ≤ 60) = true := decide_eq_true (by omega)
  have HD := Lib.hid (show (true && (true && decide (r.V.length ≤ 60))) = true by rw [decide_eq_true hv]; rfl)
  have hd2 : decide (r.V.length ≤ 60) = true := decide_eq_true hv
  go_wp2_with fail
  go_ret
  exact ⟨by rw [HD.out]; rfl, HB.out⟩
 ·have hd : decide ((r.V.length : Int) ≤ 60) = false := decide_eq_false (by omega)
  have HD := Lib.hid (show (true && (true && decide (r.V.length ≤ 60))) = false by rw [decide_eq_false hv]; rfl)
  have hd2 : decide (r.V.length ≤ 60) = false := decide_eq_false hv
  go_wp2_with fail
  go_ret
  exact ⟨by rw [HD.out]; rfl, HB.out⟩
end Go.Proofs.YthhckdjagnlgpaaGreat
end
section
namespace Go.Proofs.YthhckdjagnlgpaaGreat
open Go.RowKit Go.IntWalk Go.Maps
open Gr
set_option maxRecDepth 100000
attribute [local go_sem] Oper.semAt_some
theorem rsame_v {A1 A2 : Option Addr} {c1 c2 : Nat} {xs ys : List Rw} {b : Bool} (h : sameP xs ys = b) (hx : xs.length ≤ maxLen) (hy : ys.length ≤ maxLen) (hwx : Rows_ xs) (hwy : Rows_ ys) {w : World} (h1 : At w w.heap.size A1 (tvs xs)) (h2 : At w w.heap.size A2 (tvs ys)) :
  Calls Tryz.prog 26 #[.slice A1 xs.length c1, .slice A2 ys.length c2] w fun e w' => e = .returned (.bool b) ∧ Below w.heap.size w w' := by
 subst h; exact rsame_c A1 A2 c1 c2 xs ys hx hy hwx hwy w h1 h2
theorem rmsame_v {A1 A2 : Option Addr} {c1 c2 : Nat} {xs ys : List Mv} {b : Bool} (h : sameM xs ys = b) (hx : xs.length ≤ maxLen) (hy : ys.length ≤ maxLen) (hwx : Moves_ xs) (hwy : Moves_ ys) {w : World} (h1 : At w w.heap.size A1 (mvs xs)) (h2 : At w w.heap.size A2 (mvs ys)) :
  Calls Tryz.prog 118 #[.slice A1 xs.length c1, .slice A2 ys.length c2] w fun e w' => e = .returned (.bool b) ∧ Below w.heap.size w w' := by
 subst h; exact rmsame_c A1 A2 c1 c2 xs ys hx hy hwx hwy w h1 h2
theorem sameF_doc (a b : Rp) : sameF a b = (sameP a.B b.B && (decide (a.fc = b.fc ∧ a.fr = b.fr) && (sameM a.L b.L && decide (a.V = b.V)))) := by
 unfold sameF
 cases decide (a.fc = b.fc ∧ a.fr = b.fr) <;> cases decide (a.V = b.V) <;> cases sameP a.B b.B <;> cases sameM a.L b.L <;> rfl
set_option maxHeartbeats 8000000 in
theorem rfsame_c {p1 p2 : Pl} {r1 r2 : Rp} (o1 : RpOk r1) (o2 : RpOk r2) {w : World} (a1 : RpAt p1 r1 w) (a2 : RpAt p2 r2 w) :
  Calls Tryz.prog 53 #[.agg #[.slice p1.A1 r1.B.length p1.c1, .int .i64 r1.fc, .int .i64 r1.fr, .slice p1.A2 r1.L.length p1.c2, .slice p1.A3 r1.V.length p1.c3], .agg #[.slice p2.A1 r2.B.length p2.c1, .int .i64 r2.fc, .int .i64 r2.fr, .slice p2.A2 r2.L.length p2.c2, .slice p2.A3 r2.V.length p2.c3]] w fun e w' => e = .returned (.bool (sameF r1 r2)) ∧ Below w.heap.size w w' := by
 obtain ⟨w2, hw2⟩ : ∃ w2, w2 = (w.alloc (.cells #[.slice p1.A1 r1.B.length p1.c1, .int .i64 r1.fc, .int .i64 r1.fr, .slice p1.A2 r1.L.length p1.c2, .slice p1.A3 r1.V.length p1.c3] 55)).alloc (.cells #[.slice p2.A1 r2.B.length p2.c1, .int .i64 r2.fc, .int .i64 r2.fr, .slice p2.A2 r2.L.length p2.c2, .slice p2.A3 r2.V.length p2.c3] 55) := ⟨_, rfl⟩
 have hI : Is w2 w.heap.size 55 [.slice p1.A1 r1.B.length p1.c1, .int .i64 r1.fc, .int .i64 r1.fr, .slice p1.A2 r1.L.length p1.c2, .slice p1.A3 r1.V.length p1.c3] := by rw [hw2]; exact is_below (is_new w 55 _) ((Below.refl _ _).alloc (Nat.le_refl _) _) (by simp)
 have hJ : Is w2 (w.heap.size + 1) 55 [.slice p2.A1 r2.B.length p2.c1, .int .i64 r2.fc, .int .i64 r2.fr, .slice p2.A2 r2.L.length p2.c2, .slice p2.A3 r2.V.length p2.c3] := by rw [hw2]; exact is_newA w 55 _ _
 have hb2 : Below w.heap.size w w2 := by rw [hw2]; exact ((Below.refl w.heap.size w).alloc (Nat.le_refl _) _).alloc (by simp) _
 have HA1 := Lib.hid a1
 have HA2 := Lib.hid a2
 have O1 := Lib.hid o1
 have O2 := Lib.hid o2
 have l1 := o1.lb
 have l2 := o1.ll
 have l3 := o1.lv
 have l4 := o2.lb
 have l5 := o2.ll
 have l6 := o2.lv
 obtain ⟨x1, hx1⟩ : ∃ x, r1.fc = x := ⟨_, rfl⟩
 obtain ⟨x2, hx2⟩ : ∃ x, r1.fr = x := ⟨_, rfl⟩
 obtain ⟨y1, hy1⟩ : ∃ x, r2.fc = x := ⟨_, rfl⟩
 obtain ⟨y2, hy2⟩ : ∃ x, r2.fr = x := ⟨_, rfl⟩
 obtain ⟨v, hv⟩ : ∃ v, decide (r1.V = r2.V) = v := ⟨_, rfl⟩
 obtain ⟨t, ht⟩ : ∃ v, sameP r1.B r2.B = v := ⟨_, rfl⟩
 obtain ⟨u, hu⟩ : ∃ v, sameM r1.L r2.L = v := ⟨_, rfl⟩
 obtain ⟨f, hf⟩ : ∃ v, decide (x1 = y1 ∧ x2 = y2) = v := ⟨_, rfl⟩
 have hres : sameF r1 r2 = (t && (f && (u && v))) := by rw [sameF_doc, hx1, hx2, hy1, hy2, hv, ht, hu, hf]
 obtain ⟨res, hr⟩ : ∃ b, (t && (f && (u && v))) = b := ⟨_, rfl⟩
 rw [hres, hr]
 rw [hx1, hx2] at hw2 hI ⊢
 rw [hy1, hy2] at hw2 hJ ⊢
 have HV := Lib.hid hv
 have HT := Lib.hid ht
 have HU := Lib.hid hu
 have HF := Lib.hid hf
 have HR := Lib.hid hr
 have HW := Lib.hid hw2
 have HI := Lib.hid hI
 have HJ := Lib.hid hJ
 have HB := Lib.hid hb2
 obtain ⟨⟨q0, -, -, -, -⟩, -⟩ := cells5 hI
 obtain ⟨⟨k0, -, -, -, -⟩, -⟩ := cells5 hJ
 clear a1 a2 o1 o2 hw2 hI hJ hb2 hx1 hx2 hy1 hy2 hv ht hu hf hr hres
 go_enter Tryz.func53, Tryz.ntmps53
 go_wp2_with fail
 rw [← HW.out]
 refine (rsame_v HT.out (by unfold maxLen; omega) (by unfold maxLen; omega) O1.out.rb O2.out.rb (HA1.out.keep HB.out).b (HA2.out.keep HB.out).b).mono ?_
 rintro e w3 ⟨rfl, hb3⟩
 have HB3 := Lib.hid (HB.out.trans (hb3.mono HB.out.size))
 have HI3 := Lib.hid (is_below HI.out hb3 (is_lt HI.out))
 have HJ3 := Lib.hid (is_below HJ.out hb3 (is_lt HJ.out))
 clear q0 k0 hb3
 obtain ⟨⟨-, q1, q2, q3, -⟩, -⟩ := cells5 HI3.out
 obtain ⟨⟨-, k1, k2, k3, -⟩, -⟩ := cells5 HJ3.out
 cases t with
 | false =>
  go_wp2_with fail
  go_ret
  exact ⟨by rw [← HR.out]; rfl, HB3.out⟩
 | true =>
 by_cases e1 : x1 = y1
 case neg =>
  have HFF := Lib.hid (show f = false by rw [← HF.out]; exact decide_eq_false fun h => e1 h.1)
  go_wp2_with fail
  go_ret
  exact ⟨by rw [← HR.out, HFF.out]; rfl, HB3.out⟩
 by_cases e2 : x2 = y2
 case neg =>
  have HFF := Lib.hid (show f = false by rw [← HF.out]; exact decide_eq_false fun h => e2 h.2)
  subst e1
  go_wp2_with fail
  go_ret
  exact ⟨by rw [← HR.out, HFF.out]; rfl, HB3.out⟩
 have HFF := Lib.hid (show f = true by rw [← HF.out]; exact decide_eq_true ⟨e1, e2⟩)
 subst e1
 subst e2
 go_wp2_with fail
 refine (rmsame_v HU.out (by unfold maxLen; omega) (by unfold maxLen; omega) O1.out.rl O2.out.rl (HA1.out.keep HB3.out).l (HA2.out.keep HB3.out).l).mono ?_
 rintro e w4 ⟨rfl, hb4⟩
 have HB4 := Lib.hid (HB3.out.trans (hb4.mono HB3.out.size))
 have HI4 := Lib.hid (is_below HI3.out hb4 (is_lt HI3.out))
 have HJ4 := Lib.hid (is_below HJ3.out hb4 (is_lt HJ3.out))
 clear q1 q2 q3 k1 k2 k3 hb4
 obtain ⟨⟨-, -, -, -, q4⟩, -⟩ := cells5 HI4.out
 obtain ⟨⟨-, -, -, -, k4⟩, -⟩ := cells5 HJ4.out
 cases u with
 | false =>
  go_wp2_with fail
  go_ret
  exact ⟨by rw [← HR.out, HFF.out]; rfl, HB4.out⟩
 | true =>
 go_wp2_with fail
 refine (same17_k HV.out (by omega) (by omega) (HA1.out.keep HB4.out).v (HA2.out.keep HB4.out).v).mono ?_
 rintro e w5 ⟨rfl, hb5⟩
 have HB5 := Lib.hid (HB4.out.trans (hb5.mono HB4.out.size))
 clear q4 k4 hb5
 go_wp2_with fail
 go_ret
 exact ⟨by rw [← HR.out, HFF.out]; rfl, HB5.out⟩
end Go.Proofs.YthhckdjagnlgpaaGreat
end
section
namespace Go.Proofs.YthhckdjagnlgpaaGreat
open Go.RowKit Go.IntWalk Go.Maps
open Gr
set_option maxRecDepth 100000
attribute [local go_sem] Oper.semAt_some
theorem rfmay_v {p : Pl} {r : Rp} {b : Bool} (h : mayF r = b) (ok : RpOk r) {w : World} (ha : RpAt p r w) :
  Calls Tryz.prog 49 #[.agg #[.slice p.A1 r.B.length p.c1, .int .i64 r.fc, .int .i64 r.fr, .slice p.A2 r.L.length p.c2, .slice p.A3 r.V.length p.c3]] w fun e w' => e = .returned (.bool b) ∧ Below w.heap.size w w' := by
 subst h; exact rfmay_c ok ha
theorem rkraise_v {A : Option Addr} {cap : Nat} {l N : List Mk} {c r : Int} (h : raiseK l c r = N) (hl : l.length ≤ 50000) (hA : A = none → cap = 0) (hcap : l.length ≤ cap) {w : World} (hc : At w w.heap.size A (kvs l)) :
  Calls Tryz.prog 92 #[.slice A l.length cap, .agg #[.int .i64 c, .int .i64 r]] w (FreshK N w) := by
 subst h; exact rkraise_c A cap l c r hl hA hcap w hc
set_option maxHeartbeats 16000000 in
theorem rfadd_c {p : Pl} {r : Rp} (ok : RpOk r) (pl : RpPl p r) (m : Mv) (hm1 : rk (mw m) < 18446744073709551616) (hm2 : (nm (mw m)).length ≤ maxLen) {w : World} (ha : RpAt p r w) :
  Calls Tryz.prog 45 #[.agg #[.slice p.A1 r.B.length p.c1, .int .i64 r.fc, .int .i64 r.fr, .slice p.A2 r.L.length p.c2, .slice p.A3 r.V.length p.c3], .agg #[.int .i64 (mc m), .int .i64 (mr m), .int .i64 (pa (mw m)), .int .i64 (ch (mw m)), .string (ba (nm (mw m))), .float .f64 (rk (mw m))]] w (RpTold p r (addF r m).1 #[.bool (addF r m).2.1, .int .i64 (addF r m).2.2] w) := by
 obtain ⟨w3, hw3⟩ : ∃ w3, w3 = ((w.alloc (.cells #[.slice p.A1 r.B.length p.c1, .int .i64 r.fc, .int .i64 r.fr, .slice p.A2 r.L.length p.c2, .slice p.A3 r.V.length p.c3] 55)).alloc (.cells #[.int .i64 (mc m), .int .i64 (mr m), .int .i64 (pa (mw m)), .int .i64 (ch (mw m)), .string (ba (nm (mw m))), .float .f64 (rk (mw m))] 57)).alloc (.cells #[.slice none 0 0, .int .i64 0, .int .i64 0, .slice none 0 0, .slice none 0 0] 55) := ⟨_, rfl⟩
 have hI : Is w3 w.heap.size 55 [.slice p.A1 r.B.length p.c1, .int .i64 r.fc, .int .i64 r.fr, .slice p.A2 r.L.length p.c2, .slice p.A3 r.V.length p.c3] := by
  rw [hw3]
  exact is_below (is_below (is_new w 55 _) ((Below.refl _ _).alloc (Nat.le_refl _) _) (by simp)) ((Below.refl _ _).alloc (Nat.le_refl _) _) (by simp; omega)
 have hM : Is w3 (w.heap.size + 1) 57 [.int .i64 (mc m), .int .i64 (mr m), .int .i64 (pa (mw m)), .int .i64 (ch (mw m)), .string (ba (nm (mw m))), .float .f64 (rk (mw m))] := by
  rw [hw3]
  exact is_below (is_newA w 57 _ _) ((Below.refl _ _).alloc (Nat.le_refl _) _) (by simp)
 have hZ : Is w3 (w.heap.size + 1 + 1) 55 [.slice none 0 0, .int .i64 0, .int .i64 0, .slice none 0 0, .slice none 0 0] := by rw [hw3]; exact is_newB w 55 _ _ _
 have hb3 : Below w.heap.size w w3 := by
  rw [hw3]
  exact (((Below.refl w.heap.size w).alloc (Nat.le_refl _) _).alloc (by simp) _).alloc (by simp; omega) _
 have HA := Lib.hid ha
 have PL := Lib.hid pl
 have OK := Lib.hid ok
 have HW := Lib.hid hw3
 have HI := Lib.hid hI
 have HM := Lib.hid hM
 have HZ := Lib.hid hZ
 have HB := Lib.hid hb3
 have HM1 := Lib.hid hm1
 have HM2 := Lib.hid hm2
 obtain ⟨⟨q0, q1, q2, q3, q4⟩, -⟩ := cells5 hI
 have hlb := ok.lb
 have hll := ok.ll
 have hlv := ok.lv
 clear ha pl ok hw3 hI hM hZ hb3 hm1 hm2
 cases hmay : mayF r with
 | false =>
  have hres : addF r m = (r, false, 1) := by unfold addF; rw [if_pos hmay]
  rw [hres]
  have HMAY := Lib.hid hmay
  clear hmay hres
  go_enter Tryz.func45, Tryz.ntmps45
  go_wp2_with fail
  rw [← HW.out]
  refine (rfmay_v HMAY.out OK.out (HA.out.keep HB.out)).mono ?_
  rintro e w4 ⟨rfl, hb4⟩
  have HI4 := Lib.hid (is_below HI.out hb4 (is_lt HI.out))
  have HM4 := Lib.hid (is_below HM.out hb4 (is_lt HM.out))
  have HZ4 := Lib.hid (is_below HZ.out hb4 (is_lt HZ.out))
  have HB4 := Lib.hid (HB.out.trans (hb4.mono HB.out.size))
  clear q0 q1 q2 q3 q4 hb4
  obtain ⟨⟨q0, q1, q2, q3, q4⟩, -⟩ := cells5 HI4.out
  obtain ⟨⟨z0, z1, z2, z3, z4⟩, f0, f1, f2, f3, f4⟩ := cells5 HZ4.out
  have HI9 := Lib.hid (set5_is (a0 := .slice p.A1 r.B.length p.c1) (a1 := .int .i64 r.fc) (a2 := .int .i64 r.fr) (a3 := .slice p.A2 r.L.length p.c2) (a4 := .slice p.A3 r.V.length p.c3) HZ4.out)
  have HB9 := Lib.hid (set5_below (a0 := .slice p.A1 r.B.length p.c1) (a1 := .int .i64 r.fc) (a2 := .int .i64 r.fr) (a3 := .slice p.A2 r.L.length p.c2) (a4 := .slice p.A3 r.V.length p.c3) (G := w.heap.size + 1 + 1) HB4.out (by omega))
  go_wp2_with fail
  clear q0 q1 q2 q3 q4 z0 z1 z2 z3 z4 f0 f1 f2 f3 f4
  obtain ⟨w9, hw9⟩ : ∃ w9, w9 = set5 w4 (w.heap.size + 1 + 1) (.slice p.A1 r.B.length p.c1) (.int .i64 r.fc) (.int .i64 r.fr) (.slice p.A2 r.L.length p.c2) (.slice p.A3 r.V.length p.c3) := ⟨_, rfl⟩
  have hi9 := HI9.out
  have hb9 := HB9.out
  have hk9 : ∀ k, k ≠ w.heap.size + 1 + 1 → w9.heap[k]? = w4.heap[k]? := fun k hk => by rw [hw9, set5_off k hk]
  have hs9 : w9.heap.size = w4.heap.size := by rw [hw9, set5_size]
  rw [← hw9] at hi9 hb9
  unfold set5 at hw9
  rw [← hw9]
  obtain ⟨⟨j0, j1, j2, j3, j4⟩, -⟩ := cells5 hi9
  refine bodyPost_ret (v := .tuple #[.agg #[.slice p.A1 r.B.length p.c1, .int .i64 r.fc, .int .i64 r.fr, .slice p.A2 r.L.length p.c2, .slice p.A3 r.V.length p.c3], .bool false, .int .i64 1]) (by simp [results, Tryz.f45, go_sem, j0, j1, j2, j3, j4]) rfl ?_
  exact ⟨p, rfl, HA.out.keep hb9, PL.out, ⟨rfl, rfl⟩, .inl ⟨rfl, rfl⟩, hb9, .inl ⟨rfl, rfl⟩⟩
 | true =>
 have hres : addF r m = addG r m := by unfold addF; rw [if_neg (by rw [hmay]; decide)]
 rw [hres]
 have HMAY := Lib.hid hmay
 have HIN := Lib.hid (mayF_in hmay)
 clear hmay hres
 cases hone : oneM m with
 | false =>
  have hres : addG r m = (r, false, 1) := by unfold addG; rw [if_pos hone]
  rw [hres]
  have HON := Lib.hid hone
  clear hone hres
  go_enter Tryz.func45, Tryz.ntmps45
  go_wp2_with fail
  rw [← HW.out]
  refine (rfmay_v HMAY.out OK.out (HA.out.keep HB.out)).mono ?_
  rintro e w4 ⟨rfl, hb4⟩
  have HI4 := Lib.hid (is_below HI.out hb4 (is_lt HI.out))
  have HM4 := Lib.hid (is_below HM.out hb4 (is_lt HM.out))
  have HZ4 := Lib.hid (is_below HZ.out hb4 (is_lt HZ.out))
  have HB4 := Lib.hid (HB.out.trans (hb4.mono HB.out.size))
  clear q0 q1 q2 q3 q4 hb4
  obtain ⟨m0, m1, m2, m3, m4, m5⟩ := box6 (m := m) HM4.out
  go_wp2_with fail
  refine (rmone_k HON.out HM2.out _).mono ?_
  rintro e w5 ⟨rfl, hb5⟩
  have HI5 := Lib.hid (is_below HI4.out hb5 (is_lt HI4.out))
  have HM5 := Lib.hid (is_below HM4.out hb5 (is_lt HM4.out))
  have HZ5 := Lib.hid (is_below HZ4.out hb5 (is_lt HZ4.out))
  have HB5 := Lib.hid (HB4.out.trans (hb5.mono HB4.out.size))
  clear m0 m1 m2 m3 m4 m5 hb5
  obtain ⟨⟨q0, q1, q2, q3, q4⟩, -⟩ := cells5 HI5.out
  obtain ⟨⟨z0, z1, z2, z3, z4⟩, f0, f1, f2, f3, f4⟩ := cells5 HZ5.out
  have HI9 := Lib.hid (set5_is (a0 := .slice p.A1 r.B.length p.c1) (a1 := .int .i64 r.fc) (a2 := .int .i64 r.fr) (a3 := .slice p.A2 r.L.length p.c2) (a4 := .slice p.A3 r.V.length p.c3) HZ5.out)
  have HB9 := Lib.hid (set5_below (a0 := .slice p.A1 r.B.length p.c1) (a1 := .int .i64 r.fc) (a2 := .int .i64 r.fr) (a3 := .slice p.A2 r.L.length p.c2) (a4 := .slice p.A3 r.V.length p.c3) (G := w.heap.size + 1 + 1) HB5.out (by omega))
  go_wp2_with fail
  clear q0 q1 q2 q3 q4 z0 z1 z2 z3 z4 f0 f1 f2 f3 f4
  obtain ⟨w9, hw9⟩ : ∃ w9, w9 = set5 w5 (w.heap.size + 1 + 1) (.slice p.A1 r.B.length p.c1) (.int .i64 r.fc) (.int .i64 r.fr) (.slice p.A2 r.L.length p.c2) (.slice p.A3 r.V.length p.c3) := ⟨_, rfl⟩
  have hi9 := HI9.out
  have hb9 := HB9.out
  have hk9 : ∀ k, k ≠ w.heap.size + 1 + 1 → w9.heap[k]? = w5.heap[k]? := fun k hk => by rw [hw9, set5_off k hk]
  have hs9 : w9.heap.size = w5.heap.size := by rw [hw9, set5_size]
  rw [← hw9] at hi9 hb9
  unfold set5 at hw9
  rw [← hw9]
  obtain ⟨⟨j0, j1, j2, j3, j4⟩, -⟩ := cells5 hi9
  refine bodyPost_ret (v := .tuple #[.agg #[.slice p.A1 r.B.length p.c1, .int .i64 r.fc, .int .i64 r.fr, .slice p.A2 r.L.length p.c2, .slice p.A3 r.V.length p.c3], .bool false, .int .i64 1]) (by simp [results, Tryz.f45, go_sem, j0, j1, j2, j3, j4]) rfl ?_
  exact ⟨p, rfl, HA.out.keep hb9, PL.out, ⟨rfl, rfl⟩, .inl ⟨rfl, rfl⟩, hb9, .inl ⟨rfl, rfl⟩⟩
 | true =>
 have HON := Lib.hid hone
 have H64 := Lib.hid (one64 (one_row hone))
 cases hbf : befT r.fc r.fr (mc m) (mr m) with
 | false =>
  have hres : addG r m = (r, false, 9) := by unfold addG; rw [if_neg (by rw [hone]; decide), if_pos hbf]
  rw [hres]
  have HBF := Lib.hid hbf
  clear hone hbf hres
  go_enter Tryz.func45, Tryz.ntmps45
  go_wp2_with fail
  rw [← HW.out]
  refine (rfmay_v HMAY.out OK.out (HA.out.keep HB.out)).mono ?_
  rintro e w4 ⟨rfl, hb4⟩
  have HI4 := Lib.hid (is_below HI.out hb4 (is_lt HI.out))
  have HM4 := Lib.hid (is_below HM.out hb4 (is_lt HM.out))
  have HZ4 := Lib.hid (is_below HZ.out hb4 (is_lt HZ.out))
  have HB4 := Lib.hid (HB.out.trans (hb4.mono HB.out.size))
  clear q0 q1 q2 q3 q4 hb4
  obtain ⟨m0, m1, m2, m3, m4, m5⟩ := box6 (m := m) HM4.out
  go_wp2_with fail
  refine (rmone_k HON.out HM2.out _).mono ?_
  rintro e w5 ⟨rfl, hb5⟩
  have HI5 := Lib.hid (is_below HI4.out hb5 (is_lt HI4.out))
  have HM5 := Lib.hid (is_below HM4.out hb5 (is_lt HM4.out))
  have HZ5 := Lib.hid (is_below HZ4.out hb5 (is_lt HZ4.out))
  have HB5 := Lib.hid (HB4.out.trans (hb5.mono HB4.out.size))
  clear m0 m1 m2 m3 m4 m5 hb5
  obtain ⟨⟨q0, q1, q2, q3, q4⟩, -⟩ := cells5 HI5.out
  obtain ⟨m0, m1, m2, m3, m4, m5⟩ := box6 (m := m) HM5.out
  go_wp2_with fail
  refine (rbef_k HBF.out _).mono ?_
  rintro e w6 ⟨rfl, hb6⟩
  have HI6 := Lib.hid (is_below HI5.out hb6 (is_lt HI5.out))
  have HM6 := Lib.hid (is_below HM5.out hb6 (is_lt HM5.out))
  have HZ6 := Lib.hid (is_below HZ5.out hb6 (is_lt HZ5.out))
  have HB6 := Lib.hid (HB5.out.trans (hb6.mono HB5.out.size))
  clear q0 q1 q2 q3 q4 m0 m1 m2 m3 m4 m5 hb6
  obtain ⟨⟨q0, q1, q2, q3, q4⟩, -⟩ := cells5 HI6.out
  obtain ⟨⟨z0, z1, z2, z3, z4⟩, f0, f1, f2, f3, f4⟩ := cells5 HZ6.out
  have HI9 := Lib.hid (set5_is (a0 := .slice p.A1 r.B.length p.c1) (a1 := .int .i64 r.fc) (a2 := .int .i64 r.fr) (a3 := .slice p.A2 r.L.length p.c2) (a4 := .slice p.A3 r.V.length p.c3) HZ6.out)
  have HB9 := Lib.hid (set5_below (a0 := .slice p.A1 r.B.length p.c1) (a1 := .int .i64 r.fc) (a2 := .int .i64 r.fr) (a3 := .slice p.A2 r.L.length p.c2) (a4 := .slice p.A3 r.V.length p.c3) (G := w.heap.size + 1 + 1) HB6.out (by omega))
  go_wp2_with fail
  clear q0 q1 q2 q3 q4 z0 z1 z2 z3 z4 f0 f1 f2 f3 f4
  obtain ⟨w9, hw9⟩ : ∃ w9, w9 = set5 w6 (w.heap.size + 1 + 1) (.slice p.A1 r.B.length p.c1) (.int .i64 r.fc) (.int .i64 r.fr) (.slice p.A2 r.L.length p.c2) (.slice p.A3 r.V.length p.c3) := ⟨_, rfl⟩
  have hi9 := HI9.out
  have hb9 := HB9.out
  have hk9 : ∀ k, k ≠ w.heap.size + 1 + 1 → w9.heap[k]? = w6.heap[k]? := fun k hk => by rw [hw9, set5_off k hk]
  have hs9 : w9.heap.size = w6.heap.size := by rw [hw9, set5_size]
  rw [← hw9] at hi9 hb9
  unfold set5 at hw9
  rw [← hw9]
  obtain ⟨⟨j0, j1, j2, j3, j4⟩, -⟩ := cells5 hi9
  refine bodyPost_ret (v := .tuple #[.agg #[.slice p.A1 r.B.length p.c1, .int .i64 r.fc, .int .i64 r.fr, .slice p.A2 r.L.length p.c2, .slice p.A3 r.V.length p.c3], .bool false, .int .i64 9]) (by simp [results, Tryz.f45, go_sem, j0, j1, j2, j3, j4]) rfl ?_
  exact ⟨p, rfl, HA.out.keep hb9, PL.out, ⟨rfl, rfl⟩, .inl ⟨rfl, rfl⟩, hb9, .inl ⟨rfl, rfl⟩⟩
 | true =>
 have HBF := Lib.hid hbf
 have HRES := Lib.hid (show addG r m = if (insM r.L m).2.2 = false then (r, false, 0) else ({ r with L := (insM r.L m).1, V := raiseK r.V (mc m) (mr m) }, true, 0) by unfold addG; rw [if_neg (by rw [hone]; decide), if_neg (by rw [hbf]; decide)])
 rw [HRES.out]
 have hnl := insM_len r.L m
 have HINS := Lib.hid fun (W : World) h => rminsert_c p.A2 p.c2 r.L m (by omega) PL.out.n2 PL.out.k2 W h
 obtain ⟨o, ho⟩ : ∃ o, insM r.L m = o := ⟨_, rfl⟩
 obtain ⟨V, hV⟩ : ∃ V, raiseK r.V (mc m) (mr m) = V := ⟨_, rfl⟩
 have hins := HINS.out
 simp only [ho] at hins
 rw [ho] at hnl ⊢
 rw [hV]
 have HINS2 := Lib.hid hins
 have HV := Lib.hid hV
 clear hone hbf hins ho hV HINS HRES
 obtain ⟨N, at6, fresh⟩ := o
 dsimp only at hnl HINS2 ⊢
 cases fresh with
 | false =>
  rw [if_pos rfl]
  go_enter Tryz.func45, Tryz.ntmps45
  go_wp2_with fail
  rw [← HW.out]
  refine (rfmay_v HMAY.out OK.out (HA.out.keep HB.out)).mono ?_
  rintro e w4 ⟨rfl, hb4⟩
  have HI4 := Lib.hid (is_below HI.out hb4 (is_lt HI.out))
  have HM4 := Lib.hid (is_below HM.out hb4 (is_lt HM.out))
  have HZ4 := Lib.hid (is_below HZ.out hb4 (is_lt HZ.out))
  have HB4 := Lib.hid (HB.out.trans (hb4.mono HB.out.size))
  clear q0 q1 q2 q3 q4 hb4
  obtain ⟨m0, m1, m2, m3, m4, m5⟩ := box6 (m := m) HM4.out
  go_wp2_with fail
  refine (rmone_k HON.out HM2.out _).mono ?_
  rintro e w5 ⟨rfl, hb5⟩
  have HI5 := Lib.hid (is_below HI4.out hb5 (is_lt HI4.out))
  have HM5 := Lib.hid (is_below HM4.out hb5 (is_lt HM4.out))
  have HZ5 := Lib.hid (is_below HZ4.out hb5 (is_lt HZ4.out))
  have HB5 := Lib.hid (HB4.out.trans (hb5.mono HB4.out.size))
  clear m0 m1 m2 m3 m4 m5 hb5
  obtain ⟨⟨q0, q1, q2, q3, q4⟩, -⟩ := cells5 HI5.out
  obtain ⟨m0, m1, m2, m3, m4, m5⟩ := box6 (m := m) HM5.out
  go_wp2_with fail
  refine (rbef_k HBF.out _).mono ?_
  rintro e w6 ⟨rfl, hb6⟩
  have HI6 := Lib.hid (is_below HI5.out hb6 (is_lt HI5.out))
  have HM6 := Lib.hid (is_below HM5.out hb6 (is_lt HM5.out))
  have HZ6 := Lib.hid (is_below HZ5.out hb6 (is_lt HZ5.out))
  have HB6 := Lib.hid (HB5.out.trans (hb6.mono HB5.out.size))
  clear q0 q1 q2 q3 q4 m0 m1 m2 m3 m4 m5 hb6
  obtain ⟨⟨q0, q1, q2, q3, q4⟩, -⟩ := cells5 HI6.out
  obtain ⟨m0, m1, m2, m3, m4, m5⟩ := box6 (m := m) HM6.out
  go_wp2_with fail
  refine (HINS2.out _ (HA.out.l.keep HB6.out)).mono ?_
  rintro e w7 ⟨A6, c6, rfl, h6, hn6, hc6, hb7⟩
  have HI7 := Lib.hid (is_below HI6.out hb7 (is_lt HI6.out))
  have HM7 := Lib.hid (is_below HM6.out hb7 (is_lt HM6.out))
  have HZ7 := Lib.hid (is_below HZ6.out hb7 (is_lt HZ6.out))
  have HB7 := Lib.hid (HB6.out.trans (hb7.mono HB6.out.size))
  clear q0 q1 q2 q3 q4 m0 m1 m2 m3 m4 m5
  clear h6 hn6 hc6 hb7
  obtain ⟨⟨q0, q1, q2, q3, q4⟩, -⟩ := cells5 HI7.out
  obtain ⟨⟨z0, z1, z2, z3, z4⟩, f0, f1, f2, f3, f4⟩ := cells5 HZ7.out
  have HI9 := Lib.hid (set5_is (a0 := .slice p.A1 r.B.length p.c1) (a1 := .int .i64 r.fc) (a2 := .int .i64 r.fr) (a3 := .slice p.A2 r.L.length p.c2) (a4 := .slice p.A3 r.V.length p.c3) HZ7.out)
  have HB9 := Lib.hid (set5_below (a0 := .slice p.A1 r.B.length p.c1) (a1 := .int .i64 r.fc) (a2 := .int .i64 r.fr) (a3 := .slice p.A2 r.L.length p.c2) (a4 := .slice p.A3 r.V.length p.c3) (G := w.heap.size + 1 + 1) HB7.out (by omega))
  go_wp2_with fail
  clear q0 q1 q2 q3 q4 z0 z1 z2 z3 z4 f0 f1 f2 f3 f4
  obtain ⟨w9, hw9⟩ : ∃ w9, w9 = set5 w7 (w.heap.size + 1 + 1) (.slice p.A1 r.B.length p.c1) (.int .i64 r.fc) (.int .i64 r.fr) (.slice p.A2 r.L.length p.c2) (.slice p.A3 r.V.length p.c3) := ⟨_, rfl⟩
  have hi9 := HI9.out
  have hb9 := HB9.out
  have hk9 : ∀ k, k ≠ w.heap.size + 1 + 1 → w9.heap[k]? = w7.heap[k]? := fun k hk => by rw [hw9, set5_off k hk]
  have hs9 : w9.heap.size = w7.heap.size := by rw [hw9, set5_size]
  rw [← hw9] at hi9 hb9
  unfold set5 at hw9
  rw [← hw9]
  obtain ⟨⟨j0, j1, j2, j3, j4⟩, -⟩ := cells5 hi9
  refine bodyPost_ret (v := .tuple #[.agg #[.slice p.A1 r.B.length p.c1, .int .i64 r.fc, .int .i64 r.fr, .slice p.A2 r.L.length p.c2, .slice p.A3 r.V.length p.c3], .bool false, .int .i64 0]) (by simp [results, Tryz.f45, go_sem, j0, j1, j2, j3, j4]) rfl ?_
  exact ⟨p, rfl, HA.out.keep hb9, PL.out, ⟨rfl, rfl⟩, .inl ⟨rfl, rfl⟩, hb9, .inl ⟨rfl, rfl⟩⟩
 | true =>
  rw [if_neg (by decide)]
  go_enter Tryz.func45, Tryz.ntmps45
  go_wp2_with fail
  rw [← HW.out]
  refine (rfmay_v HMAY.out OK.out (HA.out.keep HB.out)).mono ?_
  rintro e w4 ⟨rfl, hb4⟩
  have HI4 := Lib.hid (is_below HI.out hb4 (is_lt HI.out))
  have HM4 := Lib.hid (is_below HM.out hb4 (is_lt HM.out))
  have HZ4 := Lib.hid (is_below HZ.out hb4 (is_lt HZ.out))
  have HB4 := Lib.hid (HB.out.trans (hb4.mono HB.out.size))
  clear q0 q1 q2 q3 q4 hb4
  obtain ⟨m0, m1, m2, m3, m4, m5⟩ := box6 (m := m) HM4.out
  go_wp2_with fail
  refine (rmone_k HON.out HM2.out _).mono ?_
  rintro e w5 ⟨rfl, hb5⟩
  have HI5 := Lib.hid (is_below HI4.out hb5 (is_lt HI4.out))
  have HM5 := Lib.hid (is_below HM4.out hb5 (is_lt HM4.out))
  have HZ5 := Lib.hid (is_below HZ4.out hb5 (is_lt HZ4.out))
  have HB5 := Lib.hid (HB4.out.trans (hb5.mono HB4.out.size))
  clear m0 m1 m2 m3 m4 m5 hb5
  obtain ⟨⟨q0, q1, q2, q3, q4⟩, -⟩ := cells5 HI5.out
  obtain ⟨m0, m1, m2, m3, m4, m5⟩ := box6 (m := m) HM5.out
  go_wp2_with fail
  refine (rbef_k HBF.out _).mono ?_
  rintro e w6 ⟨rfl, hb6⟩
  have HI6 := Lib.hid (is_below HI5.out hb6 (is_lt HI5.out))
  have HM6 := Lib.hid (is_below HM5.out hb6 (is_lt HM5.out))
  have HZ6 := Lib.hid (is_below HZ5.out hb6 (is_lt HZ5.out))
  have HB6 := Lib.hid (HB5.out.trans (hb6.mono HB5.out.size))
  clear q0 q1 q2 q3 q4 m0 m1 m2 m3 m4 m5 hb6
  obtain ⟨⟨q0, q1, q2, q3, q4⟩, -⟩ := cells5 HI6.out
  obtain ⟨m0, m1, m2, m3, m4, m5⟩ := box6 (m := m) HM6.out
  go_wp2_with fail
  refine (HINS2.out _ (HA.out.l.keep HB6.out)).mono ?_
  rintro e w7 ⟨A6, c6, rfl, h6, hn6, hc6, hb7⟩
  have HI7 := Lib.hid (is_below HI6.out hb7 (is_lt HI6.out))
  have HM7 := Lib.hid (is_below HM6.out hb7 (is_lt HM6.out))
  have HZ7 := Lib.hid (is_below HZ6.out hb7 (is_lt HZ6.out))
  have HB7 := Lib.hid (HB6.out.trans (hb7.mono HB6.out.size))
  clear q0 q1 q2 q3 q4 m0 m1 m2 m3 m4 m5
  have H7 := Lib.hid h6
  have HN6 := Lib.hid hn6
  have HF6 : Hid (Fresh w.heap.size A6) := Lib.hid fun a ha => Nat.le_trans HB6.out.size (hn6.2 rfl a ha)
  clear h6 hn6 hb7
  obtain ⟨⟨q0, q1, q2, q3, q4⟩, -⟩ := cells5 HI7.out
  obtain ⟨m0, m1, m2, m3, m4, m5⟩ := box6 (m := m) HM7.out
  go_wp2_with fail
  refine (children_c p.A1 p.A2 p.c1 p.c2 r.B r.L (ch (mw m)) H64.out (by omega) HIN.out.b HIN.out.l _ (HA.out.keep HB7.out).b (HA.out.keep HB7.out).l).mono ?_
  rintro e w8 ⟨z, b, rfl, hz, hb8⟩
  have HI8 := Lib.hid (is_below HI7.out hb8 (is_lt HI7.out))
  have HM8 := Lib.hid (is_below HM7.out hb8 (is_lt HM7.out))
  have HZ8 := Lib.hid (is_below HZ7.out hb8 (is_lt HZ7.out))
  have HB8 := Lib.hid (HB7.out.trans (hb8.mono HB7.out.size))
  have H8 := Lib.hid (H7.out.keep hb8)
  clear q0 q1 q2 q3 q4 m0 m1 m2 m3 m4 m5 hb8 H7
  have hd1 : decide ((2000 : Int) ≤ (r.L.length : Int)) = false := decide_eq_false (by omega)
  have hd2 : decide ((2000 : Int) ≤ (z : Int)) = false := decide_eq_false (by omega)
  have hd3 : decide (2000 ≤ r.L.length) = false := decide_eq_false (by omega)
  have hd4 : decide (2000 ≤ z) = false := decide_eq_false (by omega)
  have HIA := Lib.hid (is_set HI8.out 3 (.slice A6 N.length c6))
  have HZA := Lib.hid (is_far HZ8.out ⟨w.heap.size, 3, none⟩ (by show w.heap.size + 1 + 1 ≠ w.heap.size; omega) (.slice A6 N.length c6))
  have HMA := Lib.hid (is_far HM8.out ⟨w.heap.size, 3, none⟩ (by show w.heap.size + 1 ≠ w.heap.size; omega) (.slice A6 N.length c6))
  have HBA := Lib.hid (HB8.out.setCell (p := ⟨w.heap.size, 3, none⟩) (Nat.le_refl _) (.slice A6 N.length c6))
  obtain ⟨⟨-, -, -, q3, -⟩, -, -, -, f3, -⟩ := cells5 HI8.out
  have hia := HIA.out
  simp only [List.set_cons_zero, List.set_cons_succ] at hia
  obtain ⟨⟨-, -, -, -, g4⟩, -⟩ := cells5 hia
  obtain ⟨m0, m1, m2, m3, m4, m5⟩ := box6 (m := m) HMA.out
  clear hia
  go_wp2_with fail
  clear q3 f3 g4 m0 m1 m2 m3 m4 m5 hd1 hd2 hd3 hd4
  refine (rkraise_v HV.out (by omega) PL.out.n3 PL.out.k3 (HA.out.v.keep HBA.out)).mono ?_
  rintro e w10 ⟨A8, c8, rfl, hown, hb10⟩
  have hk8 := own_atK hown
  have hn8 := own_noneK hown
  have hc8 := own_capK hown
  obtain ⟨A8', c8', e8, -, hfr8, -⟩ := own_at hown
  cases e8
  have hz7 := is_lt HZA.out
  have HFR := Lib.hid (fun a ha => Nat.lt_of_lt_of_le hz7 (hfr8 a ha) : ∀ a, A8 = some a → w.heap.size + 1 + 1 < a.block)
  have hsa : (w8.setCell ⟨w.heap.size, 3, none⟩ (.slice A6 N.length c6)).heap.size = w8.heap.size := by simp
  have h8a : At (w8.setCell ⟨w.heap.size, 3, none⟩ (.slice A6 N.length c6)) (w8.setCell ⟨w.heap.size, 3, none⟩ (.slice A6 N.length c6)).heap.size A6 (mvs N) := at_offG H8.out (moves_off HI8.out rfl H8.out) (fun k hk => Below.heap_setCell _ _ _ _ hk) hsa
  have H10 := Lib.hid (h8a.keep hb10)
  have HK10 := Lib.hid hk8
  have HN8 := Lib.hid (And.intro hn8 hc8)
  have HI10 := Lib.hid (is_below HIA.out hb10 (is_lt HIA.out))
  have HZ10 := Lib.hid (is_below HZA.out hb10 hz7)
  have HB10 := Lib.hid (HBA.out.trans (hb10.mono HBA.out.size))
  clear hown hk8 hn8 hc8 hfr8 hz7 hsa h8a hb10 H8 HIA HZA HMA HBA
  have HIB := Lib.hid (is_set HI10.out 4 (.slice A8 V.length c8))
  have HZB := Lib.hid (is_far HZ10.out ⟨w.heap.size, 4, none⟩ (by show w.heap.size + 1 + 1 ≠ w.heap.size; omega) (.slice A8 V.length c8))
  have HBB := Lib.hid (HB10.out.setCell (p := ⟨w.heap.size, 4, none⟩) (Nat.le_refl _) (.slice A8 V.length c8))
  have hib := HIB.out
  have hi10 := HI10.out
  simp only [List.set_cons_zero, List.set_cons_succ] at hib hi10
  have hx4 := is_free HI10.out 4
  obtain ⟨⟨-, -, -, -, hy4⟩, -⟩ := cells5 hi10
  obtain ⟨⟨q0, q1, q2, q3, q4⟩, -⟩ := cells5 hib
  obtain ⟨⟨z0, z1, z2, z3, z4⟩, f0, f1, f2, f3, f4⟩ := cells5 HZB.out
  have HI9 := Lib.hid (set5_is (a0 := .slice p.A1 r.B.length p.c1) (a1 := .int .i64 r.fc) (a2 := .int .i64 r.fr) (a3 := .slice A6 N.length c6) (a4 := .slice A8 V.length c8) HZB.out)
  have HB9 := Lib.hid (set5_below (a0 := .slice p.A1 r.B.length p.c1) (a1 := .int .i64 r.fc) (a2 := .int .i64 r.fr) (a3 := .slice A6 N.length c6) (a4 := .slice A8 V.length c8) (G := w.heap.size + 1 + 1) HBB.out (by omega))
  clear hib hi10
  go_wp2_with fail
  clear q0 q1 q2 q3 q4 z0 z1 z2 z3 z4 f0 f1 f2 f3 f4 hx4 hy4
  obtain ⟨w9, hw9⟩ : ∃ w9, w9 = set5 (w10.setCell ⟨w.heap.size, 4, none⟩ (.slice A8 V.length c8)) (w.heap.size + 1 + 1) (.slice p.A1 r.B.length p.c1) (.int .i64 r.fc) (.int .i64 r.fr) (.slice A6 N.length c6) (.slice A8 V.length c8) := ⟨_, rfl⟩
  have hi9 := HI9.out
  have hb9 := HB9.out
  have hk9 : ∀ k, k ≠ w.heap.size → k ≠ w.heap.size + 1 + 1 → w9.heap[k]? = w10.heap[k]? := fun k h1 h2 => by
   rw [hw9, set5_off k h2, Below.heap_setCell _ _ _ _ h1]
  have hs9 : w9.heap.size = w10.heap.size := by rw [hw9, set5_size]; simp
  rw [← hw9] at hi9 hb9
  unfold set5 at hw9
  rw [← hw9]
  obtain ⟨⟨j0, j1, j2, j3, j4⟩, -⟩ := cells5 hi9
  have hbl : At w9 w9.heap.size A6 (mvs N) := by
   refine at_off2 H10.out ?_ hk9 hs9
   rcases moves_off HI10.out rfl H10.out with h | h1
   ·exact .inl h
   ·rcases moves_off HZ10.out rfl H10.out with h | h2
    ·exact .inl h
    ·exact .inr fun a ha => ⟨h1 a ha, h2 a ha⟩
  have hbv : At w9 w9.heap.size A8 (kvs V) := at_off2 HK10.out (.inr fun a ha => by have := HFR.out a ha; omega) hk9 hs9
  refine bodyPost_ret (v := .tuple #[.agg #[.slice p.A1 r.B.length p.c1, .int .i64 r.fc, .int .i64 r.fr, .slice A6 N.length c6, .slice A8 V.length c8], .bool true, .int .i64 0]) (by simp [results, Tryz.f45, go_sem, j0, j1, j2, j3, j4]) rfl ?_
  exact ⟨⟨p.A1, p.c1, A6, c6, A8, c8⟩, rfl, ⟨(HA.out.keep hb9).b, hbl, hbv⟩, ⟨PL.out.n1, PL.out.k1, HN6.out.1, hc6, HN8.out.1, HN8.out.2⟩, ⟨rfl, rfl⟩, .inr (fun a ha => by have := HFR.out a ha; omega), hb9, .inr HF6.out⟩
end Go.Proofs.YthhckdjagnlgpaaGreat
end
