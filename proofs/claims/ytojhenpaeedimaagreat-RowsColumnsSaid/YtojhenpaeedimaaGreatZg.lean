/-
 A move that is read: the program's.
-/
import Derived.Test.YtojhenpaeedimaaGreatZf
import Derived.Test.YtojhenpaeedimaaGreatNe
import Derived.Test.YtojhenpaeedimaaGreatNi
import Derived.Test.YtojhenpaeedimaaGreatUg
namespace Go.Proofs.YtojhenpaeedimaaGreat
open Go.RowKit Go.IntWalk
open Pk Rf Fl Wd
set_option maxRecDepth 100000
attribute [local go_sem] Oper.semAt_some
def zeros6 : List Value := [.int .i64 0, .int .i64 0, .int .i64 0, .int .i64 0, .string ⟨#[]⟩, .float .f64 0]
/-- a reader that reads a move: its box, the box of what it tells, and the Reader -/
structure MvAt (w : World) (f : List UInt8) (g : Nat) (W : World) (s : St) : Prop where
 box : Is W w.heap.size 120 [.pointer (some ⟨g, 0, none⟩), .string (ba f)]
 out : Is W (w.heap.size + 1) 51 zeros6
 rdr : Rdr W g s
 own : w.grownBy W (some g)
 lt : g < w.heap.size
theorem MvAt.grow {w W W' : World} {f : List UInt8} {g : Nat} {s s' : St} (h : MvAt w f g W s) (k : W.grownBy W' (some g)) (r : Rdr W' g s') : MvAt w f g W' s' :=
 ⟨is_grown h.box k (by have := h.lt; intro e; injection e; omega), is_grown h.out k (by have := h.lt; intro e; injection e; omega), r, grown_thenG h.own k, h.lt⟩
theorem MvAt.below {w W W' : World} {f : List UInt8} {g : Nat} {s : St} (h : MvAt w f g W s) (k : Below W.heap.size W W') : MvAt w f g W' s :=
 h.grow (only_below k g) (rdr_keep h.rdr k)
theorem MvAt.cell0 {w W : World} {f : List UInt8} {g : Nat} {s : St} (h : MvAt w f g W s) : W.cell? ⟨w.heap.size, 0, none⟩ = some (.pointer (some ⟨g, 0, none⟩)) := is_cell h.box 0
theorem MvAt.cell1 {w W : World} {f : List UInt8} {g : Nat} {s : St} (h : MvAt w f g W s) : W.cell? ⟨w.heap.size, 1, none⟩ = some (.string (ba f)) := is_cell h.box 1
theorem box_go {w W w' : World} {f : List UInt8} {g : Nat} {s s' : St} (_ : MvAt w f g W s) (k : MvAt w f g w' s') (hk : W.grownBy w' (some g)) :
  w'.cell? ⟨w.heap.size, 0, none⟩ = some (.pointer (some ⟨g, 0, none⟩)) ∧ W.grownBy w' (some g) := ⟨k.cell0, hk⟩
theorem set6_is {w : World} {G : Nat} {t : TypeId} {x0 x1 x2 x3 x4 x5 a b c d e f : Value} (h : Is w G t [x0, x1, x2, x3, x4, x5]) :
  Is ((((((w.setCell ⟨G, 0, none⟩ a).setCell ⟨G, 1, none⟩ b).setCell ⟨G, 2, none⟩ c).setCell ⟨G, 3, none⟩ d).setCell ⟨G, 4, none⟩ e).setCell ⟨G, 5, none⟩ f) G t [a, b, c, d, e, f] :=
 is_set (is_set (is_set (is_set (is_set (is_set h 0 a) 1 b) 2 c) 3 d) 4 e) 5 f
theorem set1_grown {w W : World} {g G i : Nat} {a : Value} (h : w.grownBy W (some g)) (hG : w.heap.size ≤ G) : w.grownBy (W.setCell ⟨G, i, none⟩ a) (some g) :=
 ⟨h.os, h.tape, h.output, by simpa [World.setCell] using h.size, fun k hk hne => (heap_setCell_other W ⟨G, i, none⟩ k a (by simp only; omega)).trans (h.block k hk hne)⟩
/-- what a move's box is given last -/
theorem MvAt.done {w W : World} {f : List UInt8} {g : Nat} {s : St} (h : MvAt w f g W s) (a b c d e x : Value) :
  Is ((((((W.setCell ⟨w.heap.size + 1, 0, none⟩ a).setCell ⟨w.heap.size + 1, 1, none⟩ b).setCell ⟨w.heap.size + 1, 2, none⟩ c).setCell ⟨w.heap.size + 1, 3, none⟩ d).setCell ⟨w.heap.size + 1, 4, none⟩ e).setCell ⟨w.heap.size + 1, 5, none⟩ x) (w.heap.size + 1) 51 [a, b, c, d, e, x] ∧
  Rdr ((((((W.setCell ⟨w.heap.size + 1, 0, none⟩ a).setCell ⟨w.heap.size + 1, 1, none⟩ b).setCell ⟨w.heap.size + 1, 2, none⟩ c).setCell ⟨w.heap.size + 1, 3, none⟩ d).setCell ⟨w.heap.size + 1, 4, none⟩ e).setCell ⟨w.heap.size + 1, 5, none⟩ x) g s ∧
  w.grownBy ((((((W.setCell ⟨w.heap.size + 1, 0, none⟩ a).setCell ⟨w.heap.size + 1, 1, none⟩ b).setCell ⟨w.heap.size + 1, 2, none⟩ c).setCell ⟨w.heap.size + 1, 3, none⟩ d).setCell ⟨w.heap.size + 1, 4, none⟩ e).setCell ⟨w.heap.size + 1, 5, none⟩ x) (some g) := by
 have hlt := h.lt
 have hne : g ≠ w.heap.size + 1 := by omega
 refine ⟨set6_is h.out, ?_, ?_⟩
 ·exact is_far (is_far (is_far (is_far (is_far (is_far h.rdr _ hne _) _ hne _) _ hne _) _ hne _) _ hne _) _ hne _
 ·have hs : w.heap.size ≤ w.heap.size + 1 := by omega
  exact set1_grown (set1_grown (set1_grown (set1_grown (set1_grown (set1_grown h.own hs) hs) hs) hs) hs) hs
theorem i64_wrap {n : Nat} (h : n < 18446744073709551616) : IntKind.i64.wrap (n : Int) = i64 n := by
 rw [IntKind.wrap_i64]; unfold i64; split <;> omega
theorem tk_len (l : List UInt8) (a m : Int) : (tk l a m).1.length ≤ l.length := by
 have h := numS_le ⟨l.drop a.toNat, 0⟩
 simp only [List.length_drop] at h
 unfold tk
 repeat' split
 all_goals simp
 omega
theorem namR_len (f : List UInt8) (s : St) : (namR f s).1.length ≤ f.length := by
 have h := tk_len f ((f.length : Int) - (s.l.length : Int)) 64
 unfold namR
 split
 ·simp
 ·exact h
theorem rdM_nam (f : List UInt8) (s s1 s2 s3 s4 s5 s6 : St) (nn : List UInt8) (ne : Int) (h1 : numS s = s1) (h2 : numS s1 = s2) (h3 : numS s2 = s3) (h4 : numS s3 = s4) (hn : namR f s4 = (nn, ne, s5)) (h6 : fixS s5 = s6) :
  rdM f s = if s4.e ≠ 0 then (zM, s4.e, s4) else if ne ≠ 0 then (zM, ne, s5) else if s6.e ≠ 0 then (zM, s6.e, s6) else
   if cn (fixV s5) && oneM (i64 (numV s), i64 (numV s1), i64 (numV s3), i64 (numV s2), nn, fl (fixV s5)) then ((i64 (numV s), i64 (numV s1), i64 (numV s3), i64 (numV s2), nn, fl (fixV s5)), 0, s6) else (zM, 5, s6) := by
 subst h1 h2 h3 h4 h6
 unfold rdM
 unfold namR at hn
 simp only
 split
 ·rfl
 ·split at hn
  ·rename_i h0 ht
   injection hn with a b
   injection b with b c
   subst a b c
   rw [if_pos ht, if_pos ht]
  ·rename_i h0 ht
   injection hn with a b
   injection b with b c
   subst a b c
   rw [if_neg ht, if_neg (show ¬ ((0 : Int) ≠ 0) by simp)]
set_option maxHeartbeats 4000000 in
theorem move_c (g : Nat) (f : List UInt8) (s : St) (hf : f.length ≤ 100000000) (hs : s.l.length ≤ f.length) (w : World) (h : Rdr w g s) :
  Calls Tryz.prog 154 #[.agg #[.pointer (some ⟨g, 0, none⟩), .string (ba f)]] w fun e w' =>
   e = .returned (.tuple #[mv (rdM f s).1, .int .i64 (rdM f s).2.1]) ∧ Rdr w' g (rdM f s).2.2 ∧ w.grownBy w' (some g) := by
 have hg := is_lt h
 obtain ⟨W1, hW1⟩ : ∃ W1, W1 = (w.alloc (.cells #[.pointer (some ⟨g, 0, none⟩), .string (ba f)] 120)).alloc (.cells #[.int .i64 0, .int .i64 0, .int .i64 0, .int .i64 0, .string ⟨#[]⟩, .float .f64 0] 51) := ⟨_, rfl⟩
 have b1 : Below w.heap.size w W1 := by rw [hW1]; exact ((Below.refl _ _).alloc (Nat.le_refl _) _).alloc (by rw [size_alloc]; omega) _
 have m1 : MvAt w f g W1 s := by
  refine ⟨?_, ?_, rdr_keep h b1, only_below b1 g, hg⟩
  ·rw [hW1]; exact is_alloc (is_new w 120 [.pointer (some ⟨g, 0, none⟩), .string (ba f)]) _
  ·rw [hW1]
   have := is_new (w.alloc (.cells #[.pointer (some ⟨g, 0, none⟩), .string (ba f)] 120)) 51 zeros6
   rw [size_alloc] at this
   exact this
 obtain ⟨s1, hs1⟩ : ∃ s1, numS s = s1 := ⟨_, rfl⟩
 obtain ⟨s2, hs2⟩ : ∃ s2, numS s1 = s2 := ⟨_, rfl⟩
 obtain ⟨s3, hs3⟩ : ∃ s3, numS s2 = s3 := ⟨_, rfl⟩
 obtain ⟨s4, hs4⟩ : ∃ s4, numS s3 = s4 := ⟨_, rfl⟩
 have hl4 : s4.l.length ≤ f.length := by
  have a1 := numS_le s
  have a2 := numS_le s1
  have a3 := numS_le s2
  have a4 := numS_le s3
  rw [hs1] at a1; rw [hs2] at a2; rw [hs3] at a3; rw [hs4] at a4
  omega
 have HS1 := Lib.hid hs1
 have HS2 := Lib.hid hs2
 have HS3 := Lib.hid hs3
 have HS4 := Lib.hid hs4
 have HM1 := Lib.hid m1
 have HW := Lib.hid hW1
 clear h hW1 m1 b1 hs1 hs2 hs3 hs4
 go_enter Tryz.func154, Tryz.ntmps154
 go_wp2_with fail
 rw [← HW.out]
 go_region_held3 (fun w' => w'.cell? ⟨w.heap.size, 0, none⟩ = some (.pointer (some ⟨g, 0, none⟩)) ∧ W1.grownBy w' (some g))
  (first
   | assumption
   | (exact box_go HM1.out m5 g5)
   | (exact box_go HM1.out m4 g4)
   | (exact box_go HM1.out m3 g3)
   | (exact box_go HM1.out m2 g2)
   | (exact box_go HM1.out (HM1.out.below (Below.refl _ _).drew) (only_below (Below.refl _ _).drew g))
   | go_keep)
  (first
   | (go_at_call 52; refine (num_m g _ _ m4.rdr).mono ?_; rintro e w5 ⟨rfl, hr5, hk5⟩; have m5 := m4.grow hk5 hr5; have g5 := grown_thenG g4 hk5; clear hr5 hk5)
   | (go_at_call 52; refine (num_m g _ _ m3.rdr).mono ?_; rintro e w4 ⟨rfl, hr4, hk4⟩; have m4 := m3.grow hk4 hr4; have g4 := grown_thenG g3 hk4; clear hr4 hk4)
   | (go_at_call 52; refine (num_m g _ _ m2.rdr).mono ?_; rintro e w3 ⟨rfl, hr3, hk3⟩; have m3 := m2.grow hk3 hr3; have g3 := grown_thenG g2 hk3; clear hr3 hk3)
   | (go_at_call 52; refine (num_m g _ _ (HM1.out.below (Below.refl _ _).drew).rdr).mono ?_; rintro e w2 ⟨rfl, hr2, hk2⟩; have m2 := (HM1.out.below (Below.refl _ _).drew).grow hk2 hr2; have g2 := below_thenG (Below.refl _ _).drew hk2; clear hr2 hk2))
 rw [HS1.out, HS2.out, HS3.out, HS4.out] at m5
 have M5 := Lib.hid m5
 have y0 := m5.cell0
 obtain ⟨⟨nn, ne, s5⟩, hnam⟩ : ∃ n, namR f s4 = n := ⟨_, rfl⟩
 obtain ⟨s6, hs6⟩ : ∃ s6, fixS s5 = s6 := ⟨_, rfl⟩
 have hnl := namR_len f s4
 rw [hnam] at hnl
 simp only at hnl
 have hrd := rdM_nam f s s1 s2 s3 s4 s5 s6 nn ne HS1.out HS2.out HS3.out HS4.out hnam hs6
 have HNAM := Lib.hid hnam
 have HS6 := Lib.hid hs6
 have HRD0 := Lib.hid hrd
 clear hrd hnam hs6 m2 m3 m4 m5 g2 g3 g4 g5
 rw [HS1.out, HS2.out, HS3.out]
 go_wp2_with fail
 refine (err_c g s4 _ M5.out.rdr).mono ?_
 rintro e w6 ⟨rfl, rfl⟩
 by_cases he4 : s4.e = 0
 ·have hrd := HRD0.out
  rw [if_neg (by rw [he4]; simp)] at hrd
  have HRD1 := Lib.hid hrd
  clear hrd
  have hq1 : (s4.e != 0) = false := by rw [he4]; rfl
  have hq2 : (s4.e == 0) = true := by rw [he4]; rfl
  have y1 := M5.out.cell1
  go_wp2_with fail
  refine (name_c g f s4 hf hl4 _ M5.out.rdr).mono ?_
  rintro e w6 ⟨rfl, hr6, hk6⟩
  rw [HNAM.out] at hr6
  rw [HNAM.out]
  simp only at hr6
  have M6 := Lib.hid (M5.out.grow hk6 hr6)
  have y0 := M6.out.cell0
  clear hr6 hk6 hq1 hq2 y1
  by_cases hne : ne = 0
  ·have hrd := HRD1.out
   rw [if_neg (by rw [hne]; simp)] at hrd
   have HRD2 := Lib.hid hrd
   clear hrd
   subst hne
   go_wp2_with fail
   refine (fix_m g s5 _ M6.out.rdr).mono ?_
   rintro e w7 ⟨rfl, hr7, hk7⟩
   rw [HS6.out] at hr7
   have M7 := Lib.hid (M6.out.grow hk7 hr7)
   have y0 := M7.out.cell0
   clear hr7 hk7
   go_wp2_with fail
   refine (err_c g s6 _ M7.out.rdr).mono ?_
   rintro e w8 ⟨rfl, rfl⟩
   by_cases he6 : s6.e = 0
   ·have hrd := HRD2.out
    rw [if_neg (by rw [he6]; simp)] at hrd
    have HRD3 := Lib.hid hrd
    clear hrd
    have hq1 : (s6.e != 0) = false := by rw [he6]; rfl
    have hq2 : (s6.e == 0) = true := by rw [he6]; rfl
    have z1 := i64_wrap (numV_lt s)
    have z2 := i64_wrap (numV_lt s1)
    have z3 := i64_wrap (numV_lt s2)
    have z4 := i64_wrap (numV_lt s3)
    go_wp2_with fail
    refine (float_c (fixV s5) (fixV_lt s5) _).mono ?_
    rintro e w9 ⟨rfl, hb9⟩
    have M9 := Lib.hid (M7.out.below hb9)
    clear hb9 y0 hq1 hq2
    go_wp2_with fail
    refine (canon_c (fixV s5) (fixV_lt s5) _).mono ?_
    rintro e W10 ⟨rfl, hW10⟩
    have hI10 : Is W10 w9.heap.size 51 [.int .i64 (i64 (numV s)), .int .i64 (i64 (numV s1)), .int .i64 (i64 (numV s2)), .int .i64 (i64 (numV s3)), .string (ba nn), .float .f64 (fl (fixV s5))] := by
     rw [← hW10]; exact is_new w9 51 [.int .i64 (i64 (numV s)), .int .i64 (i64 (numV s1)), .int .i64 (i64 (numV s2)), .int .i64 (i64 (numV s3)), .string (ba nn), .float .f64 (fl (fixV s5))]
    have m10 : MvAt w f g W10 s6 := by
     rw [← hW10]; exact M9.out.below ((Below.refl _ _).alloc (Nat.le_refl _) _)
    obtain ⟨G, hG0⟩ : ∃ G, w9.heap.size = G := ⟨_, rfl⟩
    rw [hG0] at hI10
    rw [hG0]
    have M10 := Lib.hid m10
    have I10 := Lib.hid hI10
    have c0 := is_cell hI10 0
    have c1 := is_cell hI10 1
    have c2 := is_cell hI10 2
    have c3 := is_cell hI10 3
    have c4 := is_cell hI10 4
    have c5 := is_cell hI10 5
    simp only [List.getElem?_cons_zero, List.getElem?_cons_succ] at c0 c1 c2 c3 c4 c5
    clear hI10 m10 hW10 z1 z2 z3 z4
    have hmone : ∀ W, Calls Tryz.prog 92 #[.agg #[.int .i64 (i64 (numV s)), .int .i64 (i64 (numV s1)), .int .i64 (i64 (numV s2)), .int .i64 (i64 (numV s3)), .string (ba nn), .float .f64 (fl (fixV s5))]] W fun e w' => e = .returned (.bool (oneM (i64 (numV s), i64 (numV s1), i64 (numV s3), i64 (numV s2), nn, fl (fixV s5)))) ∧ Below W.heap.size W w' :=
     fun W => mone_c (i64 (numV s), i64 (numV s1), i64 (numV s3), i64 (numV s2), nn, fl (fixV s5)) (by show nn.length ≤ maxLen; unfold maxLen; omega) W
    have HMONE := Lib.hid hmone
    clear hmone
    by_cases hcn : cn (fixV s5) = true
    ·rw [hcn]
     obtain ⟨q, hq⟩ : ∃ q, oneM (i64 (numV s), i64 (numV s1), i64 (numV s3), i64 (numV s2), nn, fl (fixV s5)) = q := ⟨_, rfl⟩
     have hrd := HRD3.out
     rw [hcn, hq, Bool.true_and] at hrd
     have hm := HMONE.out
     rw [hq] at hm
     have HM := Lib.hid hm
     have HRD4 := Lib.hid hrd
     clear hm hrd hq hcn
     go_wp2_with fail
     refine (HM.out _).mono ?_
     rintro e w11 ⟨rfl, hb11⟩
     have M11 := Lib.hid (M10.out.below hb11)
     have I11 := Lib.hid (is_below I10.out hb11 (is_lt I10.out))
     clear hb11 c0 c1 c2 c3 c4 c5
     cases q
     ·have hrd := HRD4.out
      rw [if_neg (by simp)] at hrd
      have HRD := Lib.hid hrd
      clear hrd
      have k0 := is_cell M11.out.out 0
      have k1 := is_cell M11.out.out 1
      have k2 := is_cell M11.out.out 2
      have k3 := is_cell M11.out.out 3
      have k4 := is_cell M11.out.out 4
      have k5 := is_cell M11.out.out 5
      have f0 := is_free M11.out.out 0
      have f1 := is_free M11.out.out 1
      have f2 := is_free M11.out.out 2
      have f3 := is_free M11.out.out 3
      have f4 := is_free M11.out.out 4
      have f5 := is_free M11.out.out 5
      unfold zeros6 at k0 k1 k2 k3 k4 k5
      simp only [List.getElem?_cons_zero, List.getElem?_cons_succ] at k0 k1 k2 k3 k4 k5
      go_wp2_with fail
      obtain ⟨hI, hR, hG⟩ := M11.out.done (.int .i64 0) (.int .i64 0) (.int .i64 0) (.int .i64 0) (.string ⟨#[]⟩) (.float .f64 0)
      have j0 := is_cell hI 0
      have j1 := is_cell hI 1
      have j2 := is_cell hI 2
      have j3 := is_cell hI 3
      have j4 := is_cell hI 4
      have j5 := is_cell hI 5
      simp only [List.getElem?_cons_zero, List.getElem?_cons_succ] at j0 j1 j2 j3 j4 j5
      refine bodyPost_ret (v := .tuple #[.agg #[.int .i64 0, .int .i64 0, .int .i64 0, .int .i64 0, .string ⟨#[]⟩, .float .f64 0], .int .i64 5]) (by simp [results, Tryz.f154, go_sem, j0, j1, j2, j3, j4, j5]) rfl ?_
      rw [HRD.out]
      exact ⟨rfl, hR, hG⟩
     ·have hrd := HRD4.out
      rw [if_pos rfl] at hrd
      have HRD := Lib.hid hrd
      clear hrd
      have k0 := is_cell M11.out.out 0
      have k1 := is_cell M11.out.out 1
      have k2 := is_cell M11.out.out 2
      have k3 := is_cell M11.out.out 3
      have k4 := is_cell M11.out.out 4
      have k5 := is_cell M11.out.out 5
      have f0 := is_free M11.out.out 0
      have f1 := is_free M11.out.out 1
      have f2 := is_free M11.out.out 2
      have f3 := is_free M11.out.out 3
      have f4 := is_free M11.out.out 4
      have f5 := is_free M11.out.out 5
      unfold zeros6 at k0 k1 k2 k3 k4 k5
      simp only [List.getElem?_cons_zero, List.getElem?_cons_succ] at k0 k1 k2 k3 k4 k5
      have c0 := is_cell I11.out 0
      have c1 := is_cell I11.out 1
      have c2 := is_cell I11.out 2
      have c3 := is_cell I11.out 3
      have c4 := is_cell I11.out 4
      have c5 := is_cell I11.out 5
      simp only [List.getElem?_cons_zero, List.getElem?_cons_succ] at c0 c1 c2 c3 c4 c5
      go_wp2_with fail
      obtain ⟨hI, hR, hG⟩ := M11.out.done (.int .i64 (i64 (numV s))) (.int .i64 (i64 (numV s1))) (.int .i64 (i64 (numV s2))) (.int .i64 (i64 (numV s3))) (.string (ba nn)) (.float .f64 (fl (fixV s5)))
      have j0 := is_cell hI 0
      have j1 := is_cell hI 1
      have j2 := is_cell hI 2
      have j3 := is_cell hI 3
      have j4 := is_cell hI 4
      have j5 := is_cell hI 5
      simp only [List.getElem?_cons_zero, List.getElem?_cons_succ] at j0 j1 j2 j3 j4 j5
      refine bodyPost_ret (v := .tuple #[.agg #[.int .i64 (i64 (numV s)), .int .i64 (i64 (numV s1)), .int .i64 (i64 (numV s2)), .int .i64 (i64 (numV s3)), .string (ba nn), .float .f64 (fl (fixV s5))], .int .i64 0]) (by simp [results, Tryz.f154, go_sem, j0, j1, j2, j3, j4, j5]) rfl ?_
      rw [HRD.out]
      exact ⟨rfl, hR, hG⟩
    ·have hcf : cn (fixV s5) = false := by simpa using hcn
     have hrd := HRD3.out
     rw [hcf, Bool.false_and, if_neg (by simp)] at hrd
     have HRD := Lib.hid hrd
     rw [hcf]
     clear hrd hcf hcn c0 c1 c2 c3 c4 c5
     have k0 := is_cell M10.out.out 0
     have k1 := is_cell M10.out.out 1
     have k2 := is_cell M10.out.out 2
     have k3 := is_cell M10.out.out 3
     have k4 := is_cell M10.out.out 4
     have k5 := is_cell M10.out.out 5
     have f0 := is_free M10.out.out 0
     have f1 := is_free M10.out.out 1
     have f2 := is_free M10.out.out 2
     have f3 := is_free M10.out.out 3
     have f4 := is_free M10.out.out 4
     have f5 := is_free M10.out.out 5
     unfold zeros6 at k0 k1 k2 k3 k4 k5
     simp only [List.getElem?_cons_zero, List.getElem?_cons_succ] at k0 k1 k2 k3 k4 k5
     go_wp2_with fail
     obtain ⟨hI, hR, hG⟩ := M10.out.done (.int .i64 0) (.int .i64 0) (.int .i64 0) (.int .i64 0) (.string ⟨#[]⟩) (.float .f64 0)
     have j0 := is_cell hI 0
     have j1 := is_cell hI 1
     have j2 := is_cell hI 2
     have j3 := is_cell hI 3
     have j4 := is_cell hI 4
     have j5 := is_cell hI 5
     simp only [List.getElem?_cons_zero, List.getElem?_cons_succ] at j0 j1 j2 j3 j4 j5
     refine bodyPost_ret (v := .tuple #[.agg #[.int .i64 0, .int .i64 0, .int .i64 0, .int .i64 0, .string ⟨#[]⟩, .float .f64 0], .int .i64 5]) (by simp [results, Tryz.f154, go_sem, j0, j1, j2, j3, j4, j5]) rfl ?_
     rw [HRD.out]
     exact ⟨rfl, hR, hG⟩
   ·have hrd := HRD2.out
    rw [if_pos he6] at hrd
    have HRD := Lib.hid hrd
    have hq1 : (s6.e != 0) = true := by simpa using he6
    have hq2 : (s6.e == 0) = false := by simpa using he6
    clear hrd he6
    have k0 := is_cell M7.out.out 0
    have k1 := is_cell M7.out.out 1
    have k2 := is_cell M7.out.out 2
    have k3 := is_cell M7.out.out 3
    have k4 := is_cell M7.out.out 4
    have k5 := is_cell M7.out.out 5
    have f0 := is_free M7.out.out 0
    have f1 := is_free M7.out.out 1
    have f2 := is_free M7.out.out 2
    have f3 := is_free M7.out.out 3
    have f4 := is_free M7.out.out 4
    have f5 := is_free M7.out.out 5
    unfold zeros6 at k0 k1 k2 k3 k4 k5
    simp only [List.getElem?_cons_zero, List.getElem?_cons_succ] at k0 k1 k2 k3 k4 k5
    go_wp2_with fail
    obtain ⟨hI, hR, hG⟩ := M7.out.done (.int .i64 0) (.int .i64 0) (.int .i64 0) (.int .i64 0) (.string ⟨#[]⟩) (.float .f64 0)
    have j0 := is_cell hI 0
    have j1 := is_cell hI 1
    have j2 := is_cell hI 2
    have j3 := is_cell hI 3
    have j4 := is_cell hI 4
    have j5 := is_cell hI 5
    simp only [List.getElem?_cons_zero, List.getElem?_cons_succ] at j0 j1 j2 j3 j4 j5
    refine bodyPost_ret (v := .tuple #[.agg #[.int .i64 0, .int .i64 0, .int .i64 0, .int .i64 0, .string ⟨#[]⟩, .float .f64 0], .int .i64 s6.e]) (by simp [results, Tryz.f154, go_sem, j0, j1, j2, j3, j4, j5]) rfl ?_
    rw [HRD.out]
    exact ⟨rfl, hR, hG⟩
  ·have hrd := HRD1.out
   rw [if_pos hne] at hrd
   have HRD := Lib.hid hrd
   have hq1 : (ne != 0) = true := by simpa using hne
   have hq2 : (ne == 0) = false := by simpa using hne
   clear hrd hne
   have k0 := is_cell M6.out.out 0
   have k1 := is_cell M6.out.out 1
   have k2 := is_cell M6.out.out 2
   have k3 := is_cell M6.out.out 3
   have k4 := is_cell M6.out.out 4
   have k5 := is_cell M6.out.out 5
   have f0 := is_free M6.out.out 0
   have f1 := is_free M6.out.out 1
   have f2 := is_free M6.out.out 2
   have f3 := is_free M6.out.out 3
   have f4 := is_free M6.out.out 4
   have f5 := is_free M6.out.out 5
   unfold zeros6 at k0 k1 k2 k3 k4 k5
   simp only [List.getElem?_cons_zero, List.getElem?_cons_succ] at k0 k1 k2 k3 k4 k5
   go_wp2_with fail
   obtain ⟨hI, hR, hG⟩ := M6.out.done (.int .i64 0) (.int .i64 0) (.int .i64 0) (.int .i64 0) (.string ⟨#[]⟩) (.float .f64 0)
   have j0 := is_cell hI 0
   have j1 := is_cell hI 1
   have j2 := is_cell hI 2
   have j3 := is_cell hI 3
   have j4 := is_cell hI 4
   have j5 := is_cell hI 5
   simp only [List.getElem?_cons_zero, List.getElem?_cons_succ] at j0 j1 j2 j3 j4 j5
   refine bodyPost_ret (v := .tuple #[.agg #[.int .i64 0, .int .i64 0, .int .i64 0, .int .i64 0, .string ⟨#[]⟩, .float .f64 0], .int .i64 ne]) (by simp [results, Tryz.f154, go_sem, j0, j1, j2, j3, j4, j5]) rfl ?_
   rw [HRD.out]
   exact ⟨rfl, hR, hG⟩
 ·have hrd := HRD0.out
  rw [if_pos he4] at hrd
  have HRD := Lib.hid hrd
  have hq1 : (s4.e != 0) = true := by simpa using he4
  have hq2 : (s4.e == 0) = false := by simpa using he4
  clear hrd he4
  have k0 := is_cell M5.out.out 0
  have k1 := is_cell M5.out.out 1
  have k2 := is_cell M5.out.out 2
  have k3 := is_cell M5.out.out 3
  have k4 := is_cell M5.out.out 4
  have k5 := is_cell M5.out.out 5
  have f0 := is_free M5.out.out 0
  have f1 := is_free M5.out.out 1
  have f2 := is_free M5.out.out 2
  have f3 := is_free M5.out.out 3
  have f4 := is_free M5.out.out 4
  have f5 := is_free M5.out.out 5
  unfold zeros6 at k0 k1 k2 k3 k4 k5
  simp only [List.getElem?_cons_zero, List.getElem?_cons_succ] at k0 k1 k2 k3 k4 k5
  go_wp2_with fail
  obtain ⟨hI, hR, hG⟩ := M5.out.done (.int .i64 0) (.int .i64 0) (.int .i64 0) (.int .i64 0) (.string ⟨#[]⟩) (.float .f64 0)
  have j0 := is_cell hI 0
  have j1 := is_cell hI 1
  have j2 := is_cell hI 2
  have j3 := is_cell hI 3
  have j4 := is_cell hI 4
  have j5 := is_cell hI 5
  simp only [List.getElem?_cons_zero, List.getElem?_cons_succ] at j0 j1 j2 j3 j4 j5
  refine bodyPost_ret (v := .tuple #[.agg #[.int .i64 0, .int .i64 0, .int .i64 0, .int .i64 0, .string ⟨#[]⟩, .float .f64 0], .int .i64 s4.e]) (by simp [results, Tryz.f154, go_sem, j0, j1, j2, j3, j4, j5]) rfl ?_
  rw [HRD.out]
  exact ⟨rfl, hR, hG⟩
end Go.Proofs.YtojhenpaeedimaaGreat
