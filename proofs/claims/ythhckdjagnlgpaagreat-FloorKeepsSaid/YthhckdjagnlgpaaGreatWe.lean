/-
 Marks that lie beside one another, kept through a walk; what joined marks are: plain.
 A move that is added to a replica.
-/
import Derived.Test.YthhckdjagnlgpaaGreatAl
import Derived.Test.YthhckdjagnlgpaaGreatUh
import Derived.Test.YthhckdjagnlgpaaGreatWd
import Derived.Test.YthhckdjagnlgpaaGreatUf
import Derived.Test.YthhckdjagnlgpaaGreatHc
section
namespace Go.Proofs.YthhckdjagnlgpaaGreat
open Go.RowKit Go.IntWalk
set_option maxRecDepth 100000
theorem own_capK {w : World} {B n size : Nat} {e : TypeId} {A : Option Addr} {cap : Nat} {xs : List Value} (h : w.ownsRow B e size (.slice A n cap) n xs) : n ≤ cap := by
 obtain ⟨A', c', hv, _, _, hc⟩ := own_at h
 cases hv; exact hc
theorem kjoin_k {A1 A2 : Option Addr} {c1 c2 : Nat} {a b N : List Mk} (h : joinK a b = N) (hl : a.length + b.length ≤ 40000) (hA : A1 = none → c1 = 0) {w : World} (h1 : At w w.heap.size A1 (kvs a)) (h2 : At w w.heap.size A2 (kvs b)) :
  Calls Tryz.prog 63 #[.slice A1 a.length c1, .slice A2 b.length c2] w (FreshK N w) := by
 subst h; exact kjoin_c A1 A2 c1 c2 a b hl hA w h1 h2
theorem rkmay_k {A : Option Addr} {cap : Nat} {l : List Mk} {q : Bool} (h : mayK l = q) (hl : l.length ≤ 100000) {w : World} (hc : At w w.heap.size A (kvs l)) :
  Calls Tryz.prog 113 #[.slice A l.length cap] w fun e w' => e = .returned (.bool q) ∧ Below w.heap.size w w' := by
 subst h; exact rkmay_c A cap l (by unfold maxLen; omega) w hc
end Go.Proofs.YthhckdjagnlgpaaGreat
end
section
namespace Go.Proofs.YthhckdjagnlgpaaGreat
open Go.RowKit Go.IntWalk Go.Maps
open Gr
set_option maxRecDepth 100000
attribute [local go_sem] Oper.semAt_some
def set5 (w : World) (G : Nat) (a0 a1 a2 a3 a4 : Value) : World := (((((w.setCell ⟨G, 0, none⟩ a0).setCell ⟨G, 1, none⟩ a1).setCell ⟨G, 2, none⟩ a2).setCell ⟨G, 3, none⟩ a3).setCell ⟨G, 4, none⟩ a4)
theorem set5_is {w : World} {G : Nat} {t : TypeId} {x0 x1 x2 x3 x4 a0 a1 a2 a3 a4 : Value} (h : Is w G t [x0, x1, x2, x3, x4]) : Is (set5 w G a0 a1 a2 a3 a4) G t [a0, a1, a2, a3, a4] :=
 is_set (is_set (is_set (is_set (is_set h 0 _) 1 _) 2 _) 3 _) 4 _
theorem set5_below {w W : World} {N G : Nat} {a0 a1 a2 a3 a4 : Value} (h : Below N w W) (hg : N ≤ G) : Below N w (set5 W G a0 a1 a2 a3 a4) :=
 (((((h.setCell (p := ⟨G, 0, none⟩) hg _).setCell (p := ⟨G, 1, none⟩) hg _).setCell (p := ⟨G, 2, none⟩) hg _).setCell (p := ⟨G, 3, none⟩) hg _).setCell (p := ⟨G, 4, none⟩) hg _)
theorem set5_off {w : World} {G : Nat} {a0 a1 a2 a3 a4 : Value} (k : Nat) (h : k ≠ G) : (set5 w G a0 a1 a2 a3 a4).heap[k]? = w.heap[k]? := by
 unfold set5
 iterate 5 rw [Below.heap_setCell _ _ _ _ h]
theorem set5_size {w : World} {G : Nat} {a0 a1 a2 a3 a4 : Value} : (set5 w G a0 a1 a2 a3 a4).heap.size = w.heap.size := by simp [set5]
theorem far_is {w : World} {G K : Nat} {t : TypeId} {l : List Value} {a0 a1 a2 a3 a4 : Value} (h : Is w K t l) (hne : K ≠ G) : Is (set5 w G a0 a1 a2 a3 a4) K t l := (set5_off K hne).trans h
theorem cells5 {W : World} {G : Nat} {t : TypeId} {a0 a1 a2 a3 a4 : Value} (h : Is W G t [a0, a1, a2, a3, a4]) : (W.cell? ⟨G, 0, none⟩ = some a0 ∧ W.cell? ⟨G, 1, none⟩ = some a1 ∧ W.cell? ⟨G, 2, none⟩ = some a2 ∧ W.cell? ⟨G, 3, none⟩ = some a3 ∧ W.cell? ⟨G, 4, none⟩ = some a4) ∧ (W.frozen? ⟨G, 0, none⟩ = false ∧ W.frozen? ⟨G, 1, none⟩ = false ∧ W.frozen? ⟨G, 2, none⟩ = false ∧ W.frozen? ⟨G, 3, none⟩ = false ∧ W.frozen? ⟨G, 4, none⟩ = false) :=
 ⟨⟨is_cell h 0, is_cell h 1, is_cell h 2, is_cell h 3, is_cell h 4⟩, is_free h 0, is_free h 1, is_free h 2, is_free h 3, is_free h 4⟩
/-- told: a replica, and something else -/
def RpTold (p0 : Pl) (r0 r : Rp) (x : Array Value) (w : World) (e : Ending) (w' : World) : Prop :=
 ∃ p : Pl, e = .returned (.tuple (#[.agg #[.slice p.A1 r.B.length p.c1, .int .i64 r.fc, .int .i64 r.fr, .slice p.A2 r.L.length p.c2, .slice p.A3 r.V.length p.c3]] ++ x)) ∧ RpAt p r w' ∧ RpPl p r ∧ (p.A1 = p0.A1 ∧ r.B = r0.B) ∧ ((p.A3 = p0.A3 ∧ r.V = r0.V) ∨ Fresh w.heap.size p.A3) ∧ Below w.heap.size w w' ∧ ((p.A2 = p0.A2 ∧ r.L = r0.L) ∨ Fresh w.heap.size p.A2)
theorem at_off2 {w w' : World} {A : Option Addr} {xs : List Value} {G R : Nat} (h : At w w.heap.size A xs) (hA : xs = [] ∨ ∀ a, A = some a → a.block ≠ G ∧ a.block ≠ R) (hk : ∀ k, k ≠ G → k ≠ R → w'.heap[k]? = w.heap[k]?) (hs : w'.heap.size = w.heap.size) : At w' w'.heap.size A xs := by
 rcases hA with rfl | hA
 ·exact At.nil _ _ _
 ·intro i v hv
  obtain ⟨b, off, hA', hlt, hc⟩ := h i v hv
  exact ⟨b, off, hA', by rw [hs]; exact hlt, (cell_same (hk b (hA _ hA').1 (hA _ hA').2) _).trans hc⟩
theorem marks_off {w : World} {A A1 : Option Addr} {l l1 : List Mk} {G N : Nat} (hc : At w w.heap.size A (kvs l)) (hd : (A1 = A ∧ l1 = l) ∨ Fresh N A1) (hG : w.heap.size ≤ G) (hN : G < N) : kvs l1 = [] ∨ ∀ a, A1 = some a → a.block ≠ G := by
 rcases hd with ⟨rfl, rfl⟩ | h
 ·cases hl : kvs l1 with
  | nil => exact .inl rfl
  | cons x t =>
   right
   intro a ha hg
   obtain ⟨b, off, hA, hlt, _⟩ := hc 0 x (by rw [hl]; rfl)
   rw [ha] at hA
   cases hA
   simp only at hg
   omega
 ·exact .inr fun a ha => by have := h a ha; omega
theorem rows_same {w : World} {A : Option Addr} {l : List Rw} {G : Nat} (hc : At w w.heap.size A (tvs l)) (hG : w.heap.size ≤ G) : tvs l = [] ∨ ∀ a, A = some a → a.block ≠ G := by
 cases hl : tvs l with
 | nil => exact .inl rfl
 | cons x t =>
  right
  intro a ha hg
  obtain ⟨b, off, hA, hlt, _⟩ := hc 0 x (by rw [hl]; rfl)
  rw [ha] at hA
  cases hA
  simp only at hg
  omega
structure RpIn (r : Rp) : Prop where
 b : ∀ x ∈ r.B, In64 (ch x)
 l : ∀ m ∈ r.L, In64 (ch (mw m))
theorem mayF_in {r : Rp} (h : mayF r = true) : RpIn r := by
 obtain ⟨h0, h1, -⟩ := mayF_iff.1 h
 exact ⟨fun x hx => one64 (((mayB_tree r.B).1 h0).one x hx), fun m hm => one64 (one_row ((mayM_iff.1 h1).2.1 m hm))⟩
set_option maxHeartbeats 16000000 in
theorem add_c {p : Pl} {r : Rp} (ok : RpOk r) (pl : RpPl p r) (hin : RpIn r) (m : Mv) (hm1 : rk (mw m) < 18446744073709551616) (hm2 : (nm (mw m)).length ≤ maxLen) {w : World} (ha : RpAt p r w) :
  Calls Tryz.prog 89 #[.agg #[.slice p.A1 r.B.length p.c1, .int .i64 r.fc, .int .i64 r.fr, .slice p.A2 r.L.length p.c2, .slice p.A3 r.V.length p.c3], .agg #[.int .i64 (mc m), .int .i64 (mr m), .int .i64 (pa (mw m)), .int .i64 (ch (mw m)), .string (ba (nm (mw m))), .float .f64 (rk (mw m))]] w (RpTold p r (addG r m).1 #[.bool (addG r m).2.1, .int .i64 (addG r m).2.2] w) := by
 obtain ⟨w3, hw3⟩ : ∃ w3, w3 = ((w.alloc (.cells #[.slice p.A1 r.B.length p.c1, .int .i64 r.fc, .int .i64 r.fr, .slice p.A2 r.L.length p.c2, .slice p.A3 r.V.length p.c3] 55)).alloc (.cells #[.int .i64 (mc m), .int .i64 (mr m), .int .i64 (pa (mw m)), .int .i64 (ch (mw m)), .string (ba (nm (mw m))), .float .f64 (rk (mw m))] 57)).alloc (.cells #[.slice none 0 0, .int .i64 0, .int .i64 0, .slice none 0 0, .slice none 0 0] 55) := ⟨_, rfl⟩
 have hI : Is w3 w.heap.size 55 [.slice p.A1 r.B.length p.c1, .int .i64 r.fc, .int .i64 r.fr, .slice p.A2 r.L.length p.c2, .slice p.A3 r.V.length p.c3] := by
  rw [hw3]
  exact is_below (is_below (is_new w 55 _) ((Below.refl _ _).alloc (Nat.le_refl _) _) (by simp)) ((Below.refl _ _).alloc (Nat.le_refl _) _) (by simp; omega)
 have hM : Is w3 (w.heap.size + 1) 57 [.int .i64 (mc m), .int .i64 (mr m), .int .i64 (pa (mw m)), .int .i64 (ch (mw m)), .string (ba (nm (mw m))), .float .f64 (rk (mw m))] := by
  rw [hw3]
  exact is_below (is_newA w 57 _ _) ((Below.refl _ _).alloc (Nat.le_refl _) _) (by simp)
 have hZ : Is w3 (w.heap.size + 1 + 1) 55 [.slice none 0 0, .int .i64 0, .int .i64 0, .slice none 0 0, .slice none 0 0] := by rw [hw3]; exact is_newB w 55 _ _ _
 have hb3 : Below w.heap.size w w3 := by
  rw [hw3]
  exact (((Below.refl w.heap.size w).alloc (Nat.le_refl _) _).alloc (by simp) _).alloc (by simp; omega) _
 have hs3 : w3.heap.size = w.heap.size + 3 := by rw [hw3]; simp
 have HA := Lib.hid ha
 have PL := Lib.hid pl
 have OK := Lib.hid ok
 have HIN := Lib.hid hin
 have HM1 := Lib.hid hm1
 have HM2 := Lib.hid hm2
 have HW := Lib.hid hw3
 have HI := Lib.hid hI
 have HM := Lib.hid hM
 have HZ := Lib.hid hZ
 have HB := Lib.hid hb3
 have HS := Lib.hid hs3
 have hlb := ok.lb
 have hll := ok.ll
 have hlv := ok.lv
 obtain ⟨m0, m1, m2, m3, m4, m5⟩ := box6 (m := m) hM
 clear ha pl ok hin hm1 hm2 hw3 hI hM hZ hb3 hs3
 cases hone : oneM m with
 | false =>
  have hres : addG r m = (r, false, 1) := by unfold addG; rw [if_pos hone]
  rw [hres]
  have HON := Lib.hid hone
  clear hone hres
  go_enter Tryz.func89, Tryz.ntmps89
  go_wp2_with fail
  rw [← HW.out]
  refine (mone_k HON.out HM2.out _).mono ?_
  rintro e w4 ⟨rfl, hb4⟩
  have hs4 := HS.out
  have HB4 := Lib.hid (HB.out.trans (hb4.mono HB.out.size))
  have HI4 := Lib.hid (is_below HI.out hb4 (by omega))
  have HZ4 := Lib.hid (is_below HZ.out hb4 (by omega))
  clear m0 m1 m2 m3 m4 m5 hb4 hs4
  obtain ⟨⟨q0, q1, q2, q3, q4⟩, -⟩ := cells5 HI4.out
  obtain ⟨⟨z0, z1, z2, z3, z4⟩, f0, f1, f2, f3, f4⟩ := cells5 HZ4.out
  have HI9 := Lib.hid (set5_is (a0 := .slice p.A1 r.B.length p.c1) (a1 := .int .i64 r.fc) (a2 := .int .i64 r.fr) (a3 := .slice p.A2 r.L.length p.c2) (a4 := .slice p.A3 r.V.length p.c3) HZ4.out)
  have HB9 := Lib.hid (set5_below (a0 := .slice p.A1 r.B.length p.c1) (a1 := .int .i64 r.fc) (a2 := .int .i64 r.fr) (a3 := .slice p.A2 r.L.length p.c2) (a4 := .slice p.A3 r.V.length p.c3) (G := w.heap.size + 1 + 1) HB4.out (by omega))
  go_wp2_with fail
  clear q0 q1 q2 q3 q4 z0 z1 z2 z3 z4 f0 f1 f2 f3 f4
  obtain ⟨w9, hw9⟩ : ∃ w9, w9 = set5 w4 (w.heap.size + 1 + 1) (.slice p.A1 r.B.length p.c1) (.int .i64 r.fc) (.int .i64 r.fr) (.slice p.A2 r.L.length p.c2) (.slice p.A3 r.V.length p.c3) := ⟨_, rfl⟩
  have hi9 := HI9.out
  have hb9 := HB9.out
  rw [← hw9] at hi9 hb9
  unfold set5 at hw9
  rw [← hw9]
  obtain ⟨⟨j0, j1, j2, j3, j4⟩, -⟩ := cells5 hi9
  refine bodyPost_ret (v := .tuple #[.agg #[.slice p.A1 r.B.length p.c1, .int .i64 r.fc, .int .i64 r.fr, .slice p.A2 r.L.length p.c2, .slice p.A3 r.V.length p.c3], .bool false, .int .i64 1]) (by simp [results, Tryz.f89, go_sem, j0, j1, j2, j3, j4]) rfl ?_
  exact ⟨p, rfl, HA.out.keep hb9, PL.out, ⟨rfl, rfl⟩, .inl ⟨rfl, rfl⟩, hb9, .inl ⟨rfl, rfl⟩⟩
 | true =>
  have HON := Lib.hid hone
  have h64 := one64 (one_row hone)
  cases hbf : befT r.fc r.fr (mc m) (mr m) with
  | false =>
   have hres : addG r m = (r, false, 9) := by unfold addG; rw [if_neg (by rw [hone]; decide), if_pos hbf]
   rw [hres]
   have HBF := Lib.hid hbf
   clear hone hbf hres h64
   go_enter Tryz.func89, Tryz.ntmps89
   go_wp2_with fail
   rw [← HW.out]
   refine (mone_k HON.out HM2.out _).mono ?_
   rintro e w4 ⟨rfl, hb4⟩
   have HI4 := Lib.hid (is_below HI.out hb4 (is_lt HI.out))
   have HM4 := Lib.hid (is_below HM.out hb4 (is_lt HM.out))
   have HZ4 := Lib.hid (is_below HZ.out hb4 (is_lt HZ.out))
   have HB4 := Lib.hid (HB.out.trans (hb4.mono HB.out.size))
   clear m0 m1 m2 m3 m4 m5 hb4
   obtain ⟨⟨q0, q1, q2, q3, q4⟩, -⟩ := cells5 HI4.out
   obtain ⟨m0, m1, m2, m3, m4, m5⟩ := box6 (m := m) HM4.out
   go_wp2_with fail
   refine (bef_k HBF.out _).mono ?_
   rintro e w5 ⟨rfl, hb5⟩
   have HI5 := Lib.hid (is_below HI4.out hb5 (is_lt HI4.out))
   have HM5 := Lib.hid (is_below HM4.out hb5 (is_lt HM4.out))
   have HZ5 := Lib.hid (is_below HZ4.out hb5 (is_lt HZ4.out))
   have HB5 := Lib.hid (HB4.out.trans (hb5.mono HB4.out.size))
   clear q0 q1 q2 q3 q4 m0 m1 m2 m3 m4 m5 hb5
   obtain ⟨⟨q0, q1, q2, q3, q4⟩, -⟩ := cells5 HI5.out
   obtain ⟨⟨z0, z1, z2, z3, z4⟩, f0, f1, f2, f3, f4⟩ := cells5 HZ5.out
   have HI9 := Lib.hid (set5_is (a0 := .slice p.A1 r.B.length p.c1) (a1 := .int .i64 r.fc) (a2 := .int .i64 r.fr) (a3 := .slice p.A2 r.L.length p.c2) (a4 := .slice p.A3 r.V.length p.c3) HZ5.out)
   have HB9 := Lib.hid (set5_below (a0 := .slice p.A1 r.B.length p.c1) (a1 := .int .i64 r.fc) (a2 := .int .i64 r.fr) (a3 := .slice p.A2 r.L.length p.c2) (a4 := .slice p.A3 r.V.length p.c3) (G := w.heap.size + 1 + 1) HB5.out (by omega))
   go_wp2_with fail
   clear q0 q1 q2 q3 q4 z0 z1 z2 z3 z4 f0 f1 f2 f3 f4
   obtain ⟨w9, hw9⟩ : ∃ w9, w9 = set5 w5 (w.heap.size + 1 + 1) (.slice p.A1 r.B.length p.c1) (.int .i64 r.fc) (.int .i64 r.fr) (.slice p.A2 r.L.length p.c2) (.slice p.A3 r.V.length p.c3) := ⟨_, rfl⟩
   have hi9 := HI9.out
   have hb9 := HB9.out
   rw [← hw9] at hi9 hb9
   unfold set5 at hw9
   rw [← hw9]
   obtain ⟨⟨j0, j1, j2, j3, j4⟩, -⟩ := cells5 hi9
   refine bodyPost_ret (v := .tuple #[.agg #[.slice p.A1 r.B.length p.c1, .int .i64 r.fc, .int .i64 r.fr, .slice p.A2 r.L.length p.c2, .slice p.A3 r.V.length p.c3], .bool false, .int .i64 9]) (by simp [results, Tryz.f89, go_sem, j0, j1, j2, j3, j4]) rfl ?_
   exact ⟨p, rfl, HA.out.keep hb9, PL.out, ⟨rfl, rfl⟩, .inl ⟨rfl, rfl⟩, hb9, .inl ⟨rfl, rfl⟩⟩
  | true =>
   have HBF := Lib.hid hbf
   have HRES := Lib.hid (show addG r m = if (insM r.L m).2.2 = false then (r, false, 0) else ({ r with L := (insM r.L m).1, V := raiseK r.V (mc m) (mr m) }, true, 0) by unfold addG; rw [if_neg (by rw [hone]; decide), if_neg (by rw [hbf]; decide)])
   rw [HRES.out]
   have hnl := insM_len r.L m
   have hn64 : ∀ x ∈ (insM r.L m).1, In64 (ch (mw x)) := fun x hx => by
    rcases insM_mem hx with h | h
    ·exact HIN.out.l x h
    ·rw [h]; exact h64
   have HINS := Lib.hid fun (W : World) h => minsert_c p.A2 p.c2 r.L m (by omega) PL.out.n2 PL.out.k2 W h
   obtain ⟨o, ho⟩ : ∃ o, insM r.L m = o := ⟨_, rfl⟩
   obtain ⟨V, hV⟩ : ∃ V, raiseK r.V (mc m) (mr m) = V := ⟨_, rfl⟩
   have hins := HINS.out
   simp only [ho] at hins
   rw [ho] at hnl hn64 ⊢
   rw [hV]
   have HINS2 := Lib.hid hins
   have HN64 := Lib.hid hn64
   have HV := Lib.hid hV
   clear hone hbf hn64 h64 hins ho hV HINS HRES
   obtain ⟨N, at6, fresh⟩ := o
   dsimp only at hnl HN64 HINS2 ⊢
   cases fresh with
   | false =>
    rw [if_pos rfl]
    go_enter Tryz.func89, Tryz.ntmps89
    go_wp2_with fail
    rw [← HW.out]
    refine (mone_k HON.out HM2.out _).mono ?_
    rintro e w4 ⟨rfl, hb4⟩
    have HI4 := Lib.hid (is_below HI.out hb4 (is_lt HI.out))
    have HM4 := Lib.hid (is_below HM.out hb4 (is_lt HM.out))
    have HZ4 := Lib.hid (is_below HZ.out hb4 (is_lt HZ.out))
    have HB4 := Lib.hid (HB.out.trans (hb4.mono HB.out.size))
    clear m0 m1 m2 m3 m4 m5 hb4
    obtain ⟨⟨q0, q1, q2, q3, q4⟩, -⟩ := cells5 HI4.out
    obtain ⟨m0, m1, m2, m3, m4, m5⟩ := box6 (m := m) HM4.out
    go_wp2_with fail
    refine (bef_k HBF.out _).mono ?_
    rintro e w5 ⟨rfl, hb5⟩
    have HI5 := Lib.hid (is_below HI4.out hb5 (is_lt HI4.out))
    have HM5 := Lib.hid (is_below HM4.out hb5 (is_lt HM4.out))
    have HZ5 := Lib.hid (is_below HZ4.out hb5 (is_lt HZ4.out))
    have HB5 := Lib.hid (HB4.out.trans (hb5.mono HB4.out.size))
    clear q0 q1 q2 q3 q4 m0 m1 m2 m3 m4 m5 hb5
    obtain ⟨⟨q0, q1, q2, q3, q4⟩, -⟩ := cells5 HI5.out
    obtain ⟨m0, m1, m2, m3, m4, m5⟩ := box6 (m := m) HM5.out
    go_wp2_with fail
    refine (HINS2.out _ (HA.out.l.keep HB5.out)).mono ?_
    rintro e w6 ⟨A6, c6, rfl, h6, hn6, hc6, hb6⟩
    have HI6 := Lib.hid (is_below HI5.out hb6 (is_lt HI5.out))
    have HM6 := Lib.hid (is_below HM5.out hb6 (is_lt HM5.out))
    have HZ6 := Lib.hid (is_below HZ5.out hb6 (is_lt HZ5.out))
    have HB6 := Lib.hid (HB5.out.trans (hb6.mono HB5.out.size))
    clear q0 q1 q2 q3 q4 m0 m1 m2 m3 m4 m5 hb6
    clear h6 hn6 hc6
    obtain ⟨⟨q0, q1, q2, q3, q4⟩, -⟩ := cells5 HI6.out
    obtain ⟨⟨z0, z1, z2, z3, z4⟩, f0, f1, f2, f3, f4⟩ := cells5 HZ6.out
    have HI9 := Lib.hid (set5_is (a0 := .slice p.A1 r.B.length p.c1) (a1 := .int .i64 r.fc) (a2 := .int .i64 r.fr) (a3 := .slice p.A2 r.L.length p.c2) (a4 := .slice p.A3 r.V.length p.c3) HZ6.out)
    have HB9 := Lib.hid (set5_below (a0 := .slice p.A1 r.B.length p.c1) (a1 := .int .i64 r.fc) (a2 := .int .i64 r.fr) (a3 := .slice p.A2 r.L.length p.c2) (a4 := .slice p.A3 r.V.length p.c3) (G := w.heap.size + 1 + 1) HB6.out (by omega))
    go_wp2_with fail
    clear q0 q1 q2 q3 q4 z0 z1 z2 z3 z4 f0 f1 f2 f3 f4
    obtain ⟨w9, hw9⟩ : ∃ w9, w9 = set5 w6 (w.heap.size + 1 + 1) (.slice p.A1 r.B.length p.c1) (.int .i64 r.fc) (.int .i64 r.fr) (.slice p.A2 r.L.length p.c2) (.slice p.A3 r.V.length p.c3) := ⟨_, rfl⟩
    have hi9 := HI9.out
    have hb9 := HB9.out
    rw [← hw9] at hi9 hb9
    unfold set5 at hw9
    rw [← hw9]
    obtain ⟨⟨j0, j1, j2, j3, j4⟩, -⟩ := cells5 hi9
    refine bodyPost_ret (v := .tuple #[.agg #[.slice p.A1 r.B.length p.c1, .int .i64 r.fc, .int .i64 r.fr, .slice p.A2 r.L.length p.c2, .slice p.A3 r.V.length p.c3], .bool false, .int .i64 0]) (by simp [results, Tryz.f89, go_sem, j0, j1, j2, j3, j4]) rfl ?_
    exact ⟨p, rfl, HA.out.keep hb9, PL.out, ⟨rfl, rfl⟩, .inl ⟨rfl, rfl⟩, hb9, .inl ⟨rfl, rfl⟩⟩
   | true =>
    rw [if_neg (by decide)]
    go_enter Tryz.func89, Tryz.ntmps89
    go_wp2_with fail
    rw [← HW.out]
    refine (mone_k HON.out HM2.out _).mono ?_
    rintro e w4 ⟨rfl, hb4⟩
    have HI4 := Lib.hid (is_below HI.out hb4 (is_lt HI.out))
    have HM4 := Lib.hid (is_below HM.out hb4 (is_lt HM.out))
    have HZ4 := Lib.hid (is_below HZ.out hb4 (is_lt HZ.out))
    have HB4 := Lib.hid (HB.out.trans (hb4.mono HB.out.size))
    clear m0 m1 m2 m3 m4 m5 hb4
    obtain ⟨⟨q0, q1, q2, q3, q4⟩, -⟩ := cells5 HI4.out
    obtain ⟨m0, m1, m2, m3, m4, m5⟩ := box6 (m := m) HM4.out
    go_wp2_with fail
    refine (bef_k HBF.out _).mono ?_
    rintro e w5 ⟨rfl, hb5⟩
    have HI5 := Lib.hid (is_below HI4.out hb5 (is_lt HI4.out))
    have HM5 := Lib.hid (is_below HM4.out hb5 (is_lt HM4.out))
    have HZ5 := Lib.hid (is_below HZ4.out hb5 (is_lt HZ4.out))
    have HB5 := Lib.hid (HB4.out.trans (hb5.mono HB4.out.size))
    clear q0 q1 q2 q3 q4 m0 m1 m2 m3 m4 m5 hb5
    obtain ⟨⟨q0, q1, q2, q3, q4⟩, -⟩ := cells5 HI5.out
    obtain ⟨m0, m1, m2, m3, m4, m5⟩ := box6 (m := m) HM5.out
    go_wp2_with fail
    refine (HINS2.out _ (HA.out.l.keep HB5.out)).mono ?_
    rintro e w6 ⟨A6, c6, rfl, h6, hn6, hc6, hb6⟩
    have HI6 := Lib.hid (is_below HI5.out hb6 (is_lt HI5.out))
    have HM6 := Lib.hid (is_below HM5.out hb6 (is_lt HM5.out))
    have HZ6 := Lib.hid (is_below HZ5.out hb6 (is_lt HZ5.out))
    have HB6 := Lib.hid (HB5.out.trans (hb6.mono HB5.out.size))
    clear q0 q1 q2 q3 q4 m0 m1 m2 m3 m4 m5 hb6
    have H6 := Lib.hid h6
    have HN6 := Lib.hid hn6
    have HF6 : Hid (Fresh w.heap.size A6) := Lib.hid fun a ha => Nat.le_trans HB5.out.size (hn6.2 rfl a ha)
    clear h6 hn6
    obtain ⟨⟨q0, q1, q2, q3, q4⟩, -⟩ := cells5 HI6.out
    go_wp2_with fail
    refine (fits_c p.A1 A6 p.c1 c6 r.B N (by omega) HIN.out.b HN64.out _ (HA.out.b.keep HB6.out) H6.out).mono ?_
    rintro e w7 ⟨rfl, hb7⟩
    have HI7 := Lib.hid (is_below HI6.out hb7 (is_lt HI6.out))
    have HM7 := Lib.hid (is_below HM6.out hb7 (is_lt HM6.out))
    have HZ7 := Lib.hid (is_below HZ6.out hb7 (is_lt HZ6.out))
    have HB7 := Lib.hid (HB6.out.trans (hb7.mono HB6.out.size))
    have H7 := Lib.hid (H6.out.keep hb7)
    clear q0 q1 q2 q3 q4 hb7 H6
    obtain ⟨⟨q0, q1, q2, q3, q4⟩, -⟩ := cells5 HI7.out
    obtain ⟨m0, m1, m2, m3, m4, m5⟩ := box6 (m := m) HM7.out
    go_wp2_with fail
    refine (kRaise_k HV.out (by omega) PL.out.n3 (HA.out.v.keep HB7.out)).mono ?_
    rintro e w8 ⟨A8, c8, rfl, hown, hb8⟩
    have HI8 := Lib.hid (is_below HI7.out hb8 (is_lt HI7.out))
    have HM8 := Lib.hid (is_below HM7.out hb8 (is_lt HM7.out))
    have HZ8 := Lib.hid (is_below HZ7.out hb8 (is_lt HZ7.out))
    have HB8 := Lib.hid (HB7.out.trans (hb8.mono HB7.out.size))
    have hk8 := own_atK hown
    have hn8 := own_noneK hown
    have hc8 := own_capK hown
    obtain ⟨A8', c8', e8, -, hfr8, -⟩ := own_at hown
    cases e8
    have hz7 := is_lt HZ7.out
    have H8 := Lib.hid (H7.out.keep hb8)
    have HK8 := Lib.hid hk8
    have HN8 := Lib.hid (And.intro hn8 hc8)
    have HFR := Lib.hid (fun a ha => Nat.lt_of_lt_of_le hz7 (hfr8 a ha) : ∀ a, A8 = some a → w.heap.size + 1 + 1 < a.block)
    clear q0 q1 q2 q3 q4 m0 m1 m2 m3 m4 m5 hb8 H7 hown hk8 hn8 hc8 hfr8 hz7
    have HIA := Lib.hid (is_set HI8.out 3 (.slice A6 N.length c6))
    have HIB := Lib.hid (is_set HIA.out 4 (.slice A8 V.length c8))
    have HZA := Lib.hid (is_far HZ8.out ⟨w.heap.size, 3, none⟩ (by show w.heap.size + 1 + 1 ≠ w.heap.size; omega) (.slice A6 N.length c6))
    have HZB := Lib.hid (is_far HZA.out ⟨w.heap.size, 4, none⟩ (by show w.heap.size + 1 + 1 ≠ w.heap.size; omega) (.slice A8 V.length c8))
    have HBB := Lib.hid ((HB8.out.setCell (p := ⟨w.heap.size, 3, none⟩) (Nat.le_refl _) (.slice A6 N.length c6)).setCell (p := ⟨w.heap.size, 4, none⟩) (Nat.le_refl _) (.slice A8 V.length c8))
    have hib := HIB.out
    simp only [List.set_cons_zero, List.set_cons_succ] at hib
    have hx3 := is_free HI8.out 3
    have hx4 := is_free HIA.out 4
    obtain ⟨⟨-, -, -, hy3, -⟩, -⟩ := cells5 HI8.out
    have hia := HIA.out
    simp only [List.set_cons_zero, List.set_cons_succ] at hia
    obtain ⟨⟨-, -, -, -, hy4⟩, -⟩ := cells5 hia
    clear hia
    obtain ⟨⟨q0, q1, q2, q3, q4⟩, -⟩ := cells5 hib
    obtain ⟨⟨z0, z1, z2, z3, z4⟩, f0, f1, f2, f3, f4⟩ := cells5 HZB.out
    have HI9 := Lib.hid (set5_is (a0 := .slice p.A1 r.B.length p.c1) (a1 := .int .i64 r.fc) (a2 := .int .i64 r.fr) (a3 := .slice A6 N.length c6) (a4 := .slice A8 V.length c8) HZB.out)
    have HB9 := Lib.hid (set5_below (a0 := .slice p.A1 r.B.length p.c1) (a1 := .int .i64 r.fc) (a2 := .int .i64 r.fr) (a3 := .slice A6 N.length c6) (a4 := .slice A8 V.length c8) (G := w.heap.size + 1 + 1) HBB.out (by omega))
    clear hib
    go_wp2_with fail
    clear q0 q1 q2 q3 q4 z0 z1 z2 z3 z4 f0 f1 f2 f3 f4 hx3 hx4 hy3 hy4
    obtain ⟨w9, hw9⟩ : ∃ w9, w9 = set5 ((w8.setCell ⟨w.heap.size, 3, none⟩ (.slice A6 N.length c6)).setCell ⟨w.heap.size, 4, none⟩ (.slice A8 V.length c8)) (w.heap.size + 1 + 1) (.slice p.A1 r.B.length p.c1) (.int .i64 r.fc) (.int .i64 r.fr) (.slice A6 N.length c6) (.slice A8 V.length c8) := ⟨_, rfl⟩
    have hi9 := HI9.out
    have hb9 := HB9.out
    have hk9 : ∀ k, k ≠ w.heap.size → k ≠ w.heap.size + 1 + 1 → w9.heap[k]? = w8.heap[k]? := fun k h1 h2 => by
     rw [hw9, set5_off k h2, Below.heap_setCell _ _ _ _ h1, Below.heap_setCell _ _ _ _ h1]
    have hs9 : w9.heap.size = w8.heap.size := by rw [hw9, set5_size]; simp
    rw [← hw9] at hi9 hb9
    unfold set5 at hw9
    rw [← hw9]
    obtain ⟨⟨j0, j1, j2, j3, j4⟩, -⟩ := cells5 hi9
    have hbl : At w9 w9.heap.size A6 (mvs N) := by
     refine at_off2 H8.out ?_ hk9 hs9
     rcases moves_off HI8.out rfl H8.out with h | h1
     ·exact .inl h
     ·rcases moves_off HZ8.out rfl H8.out with h | h2
      ·exact .inl h
      ·exact .inr fun a ha => ⟨h1 a ha, h2 a ha⟩
    have hbv : At w9 w9.heap.size A8 (kvs V) := at_off2 HK8.out (.inr fun a ha => by have := HFR.out a ha; omega) hk9 hs9
    refine bodyPost_ret (v := .tuple #[.agg #[.slice p.A1 r.B.length p.c1, .int .i64 r.fc, .int .i64 r.fr, .slice A6 N.length c6, .slice A8 V.length c8], .bool true, .int .i64 0]) (by simp [results, Tryz.f89, go_sem, j0, j1, j2, j3, j4]) rfl ?_
    exact ⟨⟨p.A1, p.c1, A6, c6, A8, c8⟩, rfl, ⟨(HA.out.keep hb9).b, hbl, hbv⟩, ⟨PL.out.n1, PL.out.k1, HN6.out.1, hc6, HN8.out.1, HN8.out.2⟩, ⟨rfl, rfl⟩, .inr (fun a ha => by have := HFR.out a ha; omega), hb9, .inr HF6.out⟩
end Go.Proofs.YthhckdjagnlgpaaGreat
end
