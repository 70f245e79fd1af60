/-
  The walk of MarksTells.
-/
import Derived.Test.YtbhejaokkkggjaaXs
import Derived.Deep.RegionHeld3
namespace Go.Proofs.Ytbhejaokkkggjaa
open Go.RowKit Go.IntWalk
set_option maxRecDepth 100000
attribute [local go_sem] Oper.semAt_some
attribute [-go_sem] run_eql_struct
attribute [local go_sem] time_guard eql_times

theorem hold6K {T G1 G2 : Nat} {c r x y : Int} {wk W W' : World} (h : W.cell? ⟨T, 0, none⟩ = some (.int .i64 c) ∧ W.cell? ⟨T, 1, none⟩ = some (.int .i64 r) ∧ W.cell? ⟨G1, 0, none⟩ = some (.int .i64 x) ∧ W.cell? ⟨G1, 1, none⟩ = some (.int .i64 y) ∧ W.cell? ⟨G2, 0, none⟩ = some (.int .i64 x) ∧ W.cell? ⟨G2, 1, none⟩ = some (.int .i64 y) ∧ Below wk.heap.size wk W) (hb : Below W.heap.size W W') : W'.cell? ⟨T, 0, none⟩ = some (.int .i64 c) ∧ W'.cell? ⟨T, 1, none⟩ = some (.int .i64 r) ∧ W'.cell? ⟨G1, 0, none⟩ = some (.int .i64 x) ∧ W'.cell? ⟨G1, 1, none⟩ = some (.int .i64 y) ∧ W'.cell? ⟨G2, 0, none⟩ = some (.int .i64 x) ∧ W'.cell? ⟨G2, 1, none⟩ = some (.int .i64 y) ∧ Below wk.heap.size wk W' := by
  obtain ⟨h0, h1, h2, h3, h4, h5, hB⟩ := h
  exact ⟨keep_cell hb h0, keep_cell hb h1, keep_cell hb h2, keep_cell hb h3, keep_cell hb h4, keep_cell hb h5, hB.trans (hb.mono hB.size)⟩
theorem hold6dK {T G1 G2 : Nat} {c r x y : Int} {wk W : World} (h : W.cell? ⟨T, 0, none⟩ = some (.int .i64 c) ∧ W.cell? ⟨T, 1, none⟩ = some (.int .i64 r) ∧ W.cell? ⟨G1, 0, none⟩ = some (.int .i64 x) ∧ W.cell? ⟨G1, 1, none⟩ = some (.int .i64 y) ∧ W.cell? ⟨G2, 0, none⟩ = some (.int .i64 x) ∧ W.cell? ⟨G2, 1, none⟩ = some (.int .i64 y) ∧ Below wk.heap.size wk W) : W.drew.cell? ⟨T, 0, none⟩ = some (.int .i64 c) ∧ W.drew.cell? ⟨T, 1, none⟩ = some (.int .i64 r) ∧ W.drew.cell? ⟨G1, 0, none⟩ = some (.int .i64 x) ∧ W.drew.cell? ⟨G1, 1, none⟩ = some (.int .i64 y) ∧ W.drew.cell? ⟨G2, 0, none⟩ = some (.int .i64 x) ∧ W.drew.cell? ⟨G2, 1, none⟩ = some (.int .i64 y) ∧ Below wk.heap.size wk W.drew := by
  obtain ⟨h0, h1, h2, h3, h4, h5, hB⟩ := h
  exact ⟨h0, h1, h2, h3, h4, h5, hB.drew⟩
theorem hold6bK {T G1 G2 : Nat} {c r x y : Int} {wk W : World} (h : W.cell? ⟨T, 0, none⟩ = some (.int .i64 c) ∧ W.cell? ⟨T, 1, none⟩ = some (.int .i64 r) ∧ W.cell? ⟨G1, 0, none⟩ = some (.int .i64 x) ∧ W.cell? ⟨G1, 1, none⟩ = some (.int .i64 y) ∧ W.cell? ⟨G2, 0, none⟩ = some (.int .i64 x) ∧ W.cell? ⟨G2, 1, none⟩ = some (.int .i64 y) ∧ Below wk.heap.size wk W) : Below wk.heap.size wk W := h.2.2.2.2.2.2
theorem nextV_form (n r : Int) : ∃ (x y : Int) (z : Bool), nextV n r = .tuple #[.agg #[.int .i64 x, .int .i64 y], .bool z] := by
  unfold nextV
  split
  · exact ⟨_, _, _, rfl⟩
  · exact ⟨_, _, _, rfl⟩
theorem rknext_k {A : Option Addr} {cap : Nat} {v : List Mk} {c r r2 : Int} {u : Value} (h : nextV (nextN v c) r = u) (hl : v.length ≤ 50000) {w : World} (hc : At w w.heap.size A (kvs v)) :
    Calls Try.prog 39 #[.slice A v.length cap, .agg #[.int .i64 c, .int .i64 r2], .int .i64 r] w fun e w' => e = .returned u ∧ Below w.heap.size w w' := by
  subst h; exact rknext_c A cap v c r r2 hl w hc
theorem rkjoin_k {A1 A2 : Option Addr} {c1 c2 : Nat} {a b N : List Mk} (h : joinK a b = N) (hl : a.length + b.length ≤ 40000) (hA : A1 = none → c1 = 0) (hcap : a.length ≤ c1) {w : World} (h1 : At w w.heap.size A1 (kvs a)) (h2 : At w w.heap.size A2 (kvs b)) :
    Calls Try.prog 48 #[.slice A1 a.length c1, .slice A2 b.length c2] w (ToldK N w) := by
  subst h; exact rkjoin_c A1 A2 c1 c2 a b hl hA hcap w h1 h2
theorem rkbelow_k {A1 A2 : Option Addr} {c1 c2 : Nat} {a b : List Mk} {q : Bool} (h : belowK a b = q) (ha : a.length ≤ 100000) (hb : b.length ≤ 100000) {w : World} (k1 : At w w.heap.size A1 (kvs a)) (k2 : At w w.heap.size A2 (kvs b)) :
    Calls Try.prog 50 #[.slice A1 a.length c1, .slice A2 b.length c2] w fun e w' => e = .returned (.bool q) ∧ Below w.heap.size w w' := by
  subst h; exact rkbelow_c A1 A2 c1 c2 a b ha hb w k1 k2
theorem same17_s {A1 A2 : Option Addr} {c1 c2 : Nat} {xs : List Mk} (hx : xs.length ≤ 100000) {w : World} (h1 : At w w.heap.size A1 (kvs xs)) (h2 : At w w.heap.size A2 (kvs xs)) :
    Calls Try.prog 44 #[.slice A1 xs.length c1, .slice A2 xs.length c2] w fun e w' => e = .returned (.bool true) ∧ Below w.heap.size w w' :=
  same17_k (decide_eq_true rfl) hx hx h1 h2
theorem rkget_kb {A : Option Addr} {cap : Nat} {l : List Mk} {c v : Int} (h : getK l c = v) (hl : l.length ≤ maxLen) {w : World} (hc : At w w.heap.size A (kvs l)) :
    Calls Try.prog 43 #[.slice A l.length cap, .int .i64 c] w fun e w' => e = .returned (.int .i64 v) ∧ Below w.heap.size w w' :=
  (rkget_k h hl w hc).mono fun _ _ h => ⟨h.1, h.2 ▸ Below.refl _ _⟩

namespace marksTells
set_option maxHeartbeats 16000000 in
theorem walk (A1 A2 : Option Addr) (c1 c2 : Nat) (v s : List Mk) (c r : Int) (n1 : A1 = none → c1 = 0) (hc1 : v.length ≤ c1) (w : World) (h1 : At w w.heap.size A1 (kvs v)) (h2 : At w w.heap.size A2 (kvs s)) :
    Calls Try.prog 7 #[.slice A1 v.length c1, .slice A2 s.length c2, .agg #[.int .i64 c, .int .i64 r]] w fun e w' => e = .returned (.bool true) ∧ Below w.heap.size w w' := by
  obtain ⟨w0, hw0⟩ : ∃ w0, w0 = w.alloc (.cells #[.int .i64 c, .int .i64 r] 35) := ⟨_, rfl⟩
  have hb0 : Below w.heap.size w w0 := by rw [hw0]; exact (Below.refl _ _).alloc (Nat.le_refl _) _
  have hI0 : Is w0 w.heap.size 35 [.int .i64 c, .int .i64 r] := by rw [hw0]; exact is_new w 35 _
  obtain ⟨T, hT⟩ : ∃ T, T = w.heap.size := ⟨_, rfl⟩
  rw [← hT] at hI0
  have HT := Lib.hid hT
  have HW := Lib.hid hw0
  have HB0 := Lib.hid hb0
  have K1 := Lib.hid (h1.keep hb0)
  have K2 := Lib.hid (h2.keep hb0)
  have I0 := Lib.hid hI0
  have N1 := Lib.hid n1
  have L1 := Lib.hid hc1
  clear h1 h2 n1 hw0 hb0 hI0 hT hc1
  by_cases lv : 60 < v.length
  · have zv : (60 : Int) < (v.length : Int) := by omega
    have dv : decide (60 < v.length) = true := decide_eq_true lv
    go_enter Try.func7, Try.ntmps7
    go_wp2_with fail
    rw [← HW.out]
    refine (live17_c _).mono ?_
    rintro e wz ⟨rfl, hbz⟩
    go_wp2_with fail
    go_ret
    exact ⟨rfl, HB0.out.trans (hbz.mono HB0.out.size)⟩
  have zv : ¬ (60 : Int) < (v.length : Int) := by omega
  have dv : decide (60 < v.length) = false := decide_eq_false lv
  by_cases ls : 60 < s.length
  · have zs : (60 : Int) < (s.length : Int) := by omega
    have ds : decide (60 < s.length) = true := decide_eq_true ls
    go_enter Try.func7, Try.ntmps7
    go_wp2_with fail
    rw [← HW.out]
    refine (live17_c _).mono ?_
    rintro e wz ⟨rfl, hbz⟩
    go_wp2_with fail
    go_ret
    exact ⟨rfl, HB0.out.trans (hbz.mono HB0.out.size)⟩
  have zs : ¬ (60 : Int) < (s.length : Int) := by omega
  have ds : decide (60 < s.length) = false := decide_eq_false ls
  obtain ⟨x, y, z, hz⟩ := nextV_form (nextN v c) r
  have HZ := Lib.hid hz
  clear hz
  obtain ⟨t0, t1⟩ := box2K I0.out
  rw [HW.out, HT.out] at t0 t1
  go_enter Try.func7, Try.ntmps7
  go_wp2_with fail
  rw [← HW.out]
  refine (knext_k HZ.out (by omega) K1.out).mono ?_
  rintro e w1 ⟨rfl, hb1⟩
  have I1 := Lib.hid (is_below I0.out hb1 (is_lt I0.out))
  have K11 := Lib.hid (K1.out.keep hb1)
  have K21 := Lib.hid (K2.out.keep hb1)
  have HB1 := Lib.hid (HB0.out.trans (hb1.mono HB0.out.size))
  clear hb1 t0 t1
  obtain ⟨w2, hw2⟩ : ∃ w2, w2 = w1.alloc (.cells #[.int .i64 x, .int .i64 y] 35) := ⟨_, rfl⟩
  have hb2 : Below w1.heap.size w1 w2 := by rw [hw2]; exact (Below.refl _ _).alloc (Nat.le_refl _) _
  obtain ⟨G1, hG1⟩ : ∃ G1, G1 = w1.heap.size := ⟨_, rfl⟩
  have J2 := Lib.hid (show Is w2 G1 35 [.int .i64 x, .int .i64 y] by rw [hG1, hw2]; exact is_new w1 35 _)
  have I2 := Lib.hid (is_below I1.out hb2 (is_lt I1.out))
  have K12 := Lib.hid (K11.out.keep hb2)
  have K22 := Lib.hid (K21.out.keep hb2)
  have HB2 := Lib.hid (HB1.out.trans (hb2.mono HB1.out.size))
  have HW2 := Lib.hid hw2
  have HG1 := Lib.hid hG1
  clear hb2 hw2 hG1
  obtain ⟨t0, t1⟩ := box2K I2.out
  rw [HW2.out] at t0 t1
  rw [← HT.out]
  go_wp2_with fail
  rw [← HW2.out, ← HG1.out]
  refine (rknext_k HZ.out (by omega) K12.out).mono ?_
  rintro e w3 ⟨rfl, hb3⟩
  have I3 := Lib.hid (is_below I2.out hb3 (is_lt I2.out))
  have J3 := Lib.hid (is_below J2.out hb3 (is_lt J2.out))
  have K13 := Lib.hid (K12.out.keep hb3)
  have K23 := Lib.hid (K22.out.keep hb3)
  have HB3 := Lib.hid (HB2.out.trans (hb3.mono HB2.out.size))
  clear hb3 t0 t1
  obtain ⟨wk, hw4⟩ : ∃ wk, wk = w3.alloc (.cells #[.int .i64 x, .int .i64 y] 35) := ⟨_, rfl⟩
  have hb4 : Below w3.heap.size w3 wk := by rw [hw4]; exact (Below.refl _ _).alloc (Nat.le_refl _) _
  obtain ⟨G2, hG2⟩ : ∃ G2, G2 = w3.heap.size := ⟨_, rfl⟩
  have L4 := Lib.hid (show Is wk G2 35 [.int .i64 x, .int .i64 y] by rw [hG2, hw4]; exact is_new w3 35 _)
  have I4 := Lib.hid (is_below I3.out hb4 (is_lt I3.out))
  have J4 := Lib.hid (is_below J3.out hb4 (is_lt J3.out))
  have QV := Lib.hid (K13.out.keep hb4)
  have QX := Lib.hid (K23.out.keep hb4)
  have HBk := Lib.hid (HB3.out.trans (hb4.mono HB3.out.size))
  have HW4 := Lib.hid hw4
  have HG2 := Lib.hid hG2
  clear hb4 hw4 hG2 K13 K23 K12 K22 K11 K21 I0 I1 I2 I3 J2 J3
  obtain ⟨M, hM⟩ : ∃ M, mayK v = M := ⟨_, rfl⟩
  obtain ⟨g, hg⟩ : ∃ g, getK v r = g := ⟨_, rfl⟩
  obtain ⟨R, hR⟩ : ∃ R, raiseK v c r = R := ⟨_, rfl⟩
  obtain ⟨J, hJ⟩ : ∃ J, joinK v s = J := ⟨_, rfl⟩
  obtain ⟨b, hbl⟩ : ∃ b, belowK v s = b := ⟨_, rfl⟩
  have hrl := raiseK_len v c r
  have hjl := joinK_len v s
  rw [hR] at hrl
  rw [hJ] at hjl
  have HM := Lib.hid hM
  have HG := Lib.hid hg
  have HR := Lib.hid hR
  have HJ := Lib.hid hJ
  have HBL := Lib.hid hbl
  have HL1 := Lib.hid (show v.length ≤ 100000 by omega)
  have HL2 := Lib.hid (show v.length ≤ maxLen by unfold maxLen; omega)
  have HL3 := Lib.hid (show v.length ≤ 50000 by omega)
  have HL4 := Lib.hid (show v.length + s.length ≤ 40000 by omega)
  have HX1 := Lib.hid (show s.length ≤ 100000 by omega)
  have HRL := Lib.hid (show R.length ≤ 100000 by omega)
  have HJL := Lib.hid (show J.length ≤ 100000 by omega)
  have hMM : (M == M) = true := by cases M <;> rfl
  have hbb : (b == b) = true := by cases b <;> rfl
  have hzz : (z == z) = true := by cases z <;> rfl
  clear hM hg hR hJ hbl hrl hjl
  obtain ⟨p0, p1⟩ := box2K I4.out
  obtain ⟨p2, p3⟩ := box2K J4.out
  obtain ⟨p4, p5⟩ := box2K L4.out
  clear I4 J4 L4
  go_wp2_with fail
  rw [← HW4.out, ← HG2.out]
  go_region_held3 (fun w' => w'.cell? ⟨T, 0, none⟩ = some (.int .i64 c) ∧ w'.cell? ⟨T, 1, none⟩ = some (.int .i64 r) ∧ w'.cell? ⟨G1, 0, none⟩ = some (.int .i64 x) ∧ w'.cell? ⟨G1, 1, none⟩ = some (.int .i64 y) ∧ w'.cell? ⟨G2, 0, none⟩ = some (.int .i64 x) ∧ w'.cell? ⟨G2, 1, none⟩ = some (.int .i64 y) ∧ Below wk.heap.size wk w')
    (first
      | (exact hold6K (by assumption) hbn)
      | (exact hold6dK (by assumption))
      | (exact ⟨p0, p1, p2, p3, p4, p5, (Below.refl _ _).drew⟩)
      | go_keep)
    (first
      | (go_at_call 40; refine (kmay_k HM.out HL1.out (QV.out.keep (hold6bK (by assumption)))).mono ?_; rintro e wa ⟨rfl, hbn⟩)
      | (go_at_call 41; refine (rkmay_k HM.out HL1.out (QV.out.keep (hold6bK (by assumption)))).mono ?_; rintro e wa ⟨rfl, hbn⟩)
      | (go_at_call 42; refine (kget_k HG.out HL2.out _ (QV.out.keep (hold6bK (by assumption)))).mono ?_; rintro e wa ⟨rfl, hbn⟩)
      | (go_at_call 43; refine (rkget_kb HG.out HL2.out (QV.out.keep (hold6bK (by assumption)))).mono ?_; rintro e wa ⟨rfl, hbn⟩)
      | (go_at_call 45; refine (kRaise_k HR.out HL3.out N1.out (QV.out.keep (hold6bK (by assumption)))).mono ?_; rintro e wa ⟨E1, f1, rfl, hown1, hbn⟩; have hr1 := own_atK hown1)
      | (go_at_call 46; refine (rkraise_k HR.out HL3.out N1.out L1.out (QV.out.keep (hold6bK (by assumption)))).mono ?_; rintro e wa ⟨E2, f2, rfl, hr2, -, -, hbn⟩; have hr1b := At.keep (by exact hr1) hbn)
      | (go_at_call 44; refine (same17_s (by first | exact HRL.out | exact HJL.out) (by first | exact hr1b | exact hj1b) (by first | exact hr2 | exact hj2)).mono ?_; rintro e wa ⟨rfl, hbn⟩)
      | (go_at_call 47; refine (kjoin_k HJ.out HL4.out N1.out (QV.out.keep (hold6bK (by assumption))) (QX.out.keep (hold6bK (by assumption)))).mono ?_; rintro e wa ⟨E3, f3, rfl, hown3, hbn⟩; have hj1 := own_atK hown3)
      | (go_at_call 48; refine (rkjoin_k HJ.out HL4.out N1.out L1.out (QV.out.keep (hold6bK (by assumption))) (QX.out.keep (hold6bK (by assumption)))).mono ?_; rintro e wa ⟨E4, f4, rfl, hj2, -, -, hbn⟩; have hj1b := At.keep (by exact hj1) hbn)
      | (go_at_call 49; refine (kbelow_k HBL.out HL1.out HX1.out (QV.out.keep (hold6bK (by assumption))) (QX.out.keep (hold6bK (by assumption)))).mono ?_; rintro e wa ⟨rfl, hbn⟩)
      | (go_at_call 50; refine (rkbelow_k HBL.out HL1.out HX1.out (QV.out.keep (hold6bK (by assumption))) (QX.out.keep (hold6bK (by assumption)))).mono ?_; rintro e wa ⟨rfl, hbn⟩)
      | (go_at_call 37; refine (live17_c _).mono ?_; rintro e wa ⟨rfl, hbn⟩))
  have HZZ := Lib.hid (HBk.out.trans ((hold6bK (by assumption) : Below wk.heap.size wk wa).mono HBk.out.size))
  go_wp2_with fail
  go_ret
  exact ⟨rfl, HZZ.out⟩
end marksTells
end Go.Proofs.Ytbhejaokkkggjaa
