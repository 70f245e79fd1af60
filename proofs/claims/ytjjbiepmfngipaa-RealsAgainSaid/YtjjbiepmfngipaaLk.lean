/-
  The walk of RealsAgain.
-/
import Derived.Test.YtjjbiepmfngipaaLl
import Derived.Deep.RegionHeldLaw
namespace Go.Proofs.Ytjjbiepmfngipaa
open Go.RowKit Go.IntWalk
open Pk Fl Re
set_option maxRecDepth 100000
attribute [local go_sem] Oper.semAt_some

theorem sBelow {B : Nat} {p : Addr} {v : Value} {w w' : World} (h : w'.cell? p = some v ∧ Below B w w') : Below B w w' := h.2
theorem sKeep {B : Nat} {p : Addr} {v : Value} {w w1 w2 : World} (hp : p.block < B) (h : w1.cell? p = some v ∧ Below B w w1) (hb : Below B w1 w2) : w2.cell? p = some v ∧ Below B w w2 :=
  ⟨(hb.cell hp).trans h.1, h.2.trans hb⟩
theorem sAlloc {B : Nat} {p : Addr} {v : Value} {w w1 : World} (hp : p.block < B) (hB : B ≤ w.heap.size) (h : w1.cell? p = some v ∧ Below B w w1) (o : Obj) : (w1.alloc o).cell? p = some v ∧ Below B w (w1.alloc o) :=
  sKeep hp h ((Below.refl _ _).alloc (Nat.le_trans hB h.2.size) o)
theorem sAllocD {B : Nat} {p : Addr} {v : Value} {w w1 : World} (hp : p.block < B) (hB : B ≤ w.heap.size) (h : w1.drew.cell? p = some v ∧ Below B w w1.drew) (o : Obj) : (w1.alloc o).drew.cell? p = some v ∧ Below B w (w1.alloc o).drew :=
  sAlloc (w1 := w1.drew) hp hB h o
theorem sSize {B : Nat} {p : Addr} {v : Value} {w w1 : World} (hB : B ≤ w.heap.size) (h : w1.cell? p = some v ∧ Below B w w1) : B ≤ w1.heap.size := Nat.le_trans hB h.2.size
theorem cell_kept {w1 w2 : World} {g : Nat} {v : Value} {row : Option Nat} (h : w1.cell? ⟨g, 0, none⟩ = some v) (hg : w1.grownBy w2 row) (hne : some g ≠ row) : w2.cell? ⟨g, 0, none⟩ = some v :=
  (World.cell?_of_block (hg.block g (World.block_lt_of_cell? _ _ h) hne)).trans h
theorem cell_new1 (w : World) (v : Value) (t : TypeId) : ((w.alloc (.cells #[v] t)).alloc (.cells #[] t)).drew.cell? ⟨w.heap.size, 0, none⟩ = some v := by
  have h : ((w.alloc (.cells #[v] t)).alloc (.cells #[] t)).heap[w.heap.size]? = some (.cells #[v] t) := heap_alloc2_old _ _ _
  rw [show ((w.alloc (.cells #[v] t)).alloc (.cells #[] t)).drew.cell? ⟨w.heap.size, 0, none⟩ = ((w.alloc (.cells #[v] t)).alloc (.cells #[] t)).cell? ⟨w.heap.size, 0, none⟩ from rfl, cell_of_row _ _ 0 _ _ _ h]
  rfl
theorem cell_new2 (w : World) (v : Value) (t : TypeId) : ((w.alloc (.cells #[] t)).alloc (.cells #[v] t)).drew.cell? ⟨w.heap.size + 1, 0, none⟩ = some v := by
  have h : ((w.alloc (.cells #[] t)).alloc (.cells #[v] t)).heap[w.heap.size + 1]? = some (.cells #[v] t) := heap_alloc2_new _ _ _
  rw [show ((w.alloc (.cells #[] t)).alloc (.cells #[v] t)).drew.cell? ⟨w.heap.size + 1, 0, none⟩ = ((w.alloc (.cells #[] t)).alloc (.cells #[v] t)).cell? ⟨w.heap.size + 1, 0, none⟩ from rfl, cell_of_row _ _ 0 _ _ _ h]
  rfl
theorem one_news {w : World} {g : Nat} {v : Value} (h : w.cell? ⟨g, 0, none⟩ = some v) : ∀ j u, [v][j]? = some u → w.cell? ((⟨g, 0, none⟩ : Addr).add j) = some u := by
  intro j u hj
  match j, hj with
  | 0, hj =>
    simp at hj
    subst hj
    simpa [Addr.add] using h
  | j + 1, hj => simp at hj
theorem made (B : Nat) (W : World) (h : B ≤ W.heap.size) : (W.alloc (.cells #[] 33)).ownsRow B 33 1 (.slice (some ⟨W.heap.size, 0, none⟩) 0 0) 0 [] :=
  World.ownsRow_made (base := B) (e := 33) (size := 1) W #[] 0 h (by unfold maxLen; omega) rfl

theorem made1 (B : Nat) (w : World) (o : Obj) (h : B ≤ w.heap.size) : ((w.alloc o).alloc (.cells #[] 33)).drew.ownsRow B 33 1 (.slice (some ⟨w.heap.size + 1, 0, none⟩) 0 0) 0 [] := by
  have := made B (w.alloc o) (by rw [World.size_alloc]; omega)
  rw [World.size_alloc] at this
  exact this

theorem own_head {w : World} {B : Nat} {e : TypeId} {v : Value} {n m : Nat} {xs ys : List Value} (h : w.ownsRow B e 1 v n xs) (hn : n = m) (hx : xs = ys) : w.ownsRow B e 1 v m ys := by subst hn; subst hx; exact h

namespace realsAgain
theorem live (A : Option Addr) (cap n : Nat) (i : Int) (hn : n ≤ 9223372036854775807) (h : 100 < n ∨ i < 0 ∨ (n : Int) ≤ i) (w : World) :
    Calls Try.prog 6 #[.slice A n cap, .int .i64 i] w fun e w' => e = .returned (.bool true) ∧ Below w.heap.size w w' := by
  by_cases h1 : 100 < n
  · clear h
    go_enter Try.func6, Try.ntmps6
    go_wp2_with fail
    refine (live9_c _).mono ?_
    rintro e w1 ⟨rfl, hb1⟩
    go_wp2
    go_ret
    exact ⟨rfl, hb1⟩
  · by_cases h2 : i < 0
    · clear h
      go_enter Try.func6, Try.ntmps6
      go_wp2_with fail
      refine (live9_c _).mono ?_
      rintro e w1 ⟨rfl, hb1⟩
      go_wp2
      go_ret
      exact ⟨rfl, hb1⟩
    · have h3 : (n : Int) ≤ i := by omega
      clear h
      go_enter Try.func6, Try.ntmps6
      go_wp2_with fail
      refine (live9_c _).mono ?_
      rintro e w1 ⟨rfl, hb1⟩
      go_wp2
      go_ret
      exact ⟨rfl, hb1⟩

set_option maxHeartbeats 16000000 in
theorem walk_in (b1 o1 cap n a x : Nat) (xs : List Nat) (hxl : n = xs.length) (hn : n ≤ 100) (ha : a < n) (_hcap : n ≤ cap) (hgt : a + 1 < cap) (hxa : xs[a]? = some x) (hxw : Words xs) (w : World) (ha1 : At w w.heap.size (some ⟨b1, o1, none⟩) (fvs xs)) :
    Calls Try.prog 6 #[.slice (some ⟨b1, o1, none⟩) n cap, .int .i64 (a : Int)] w fun e w' => e = .returned (.bool true) ∧ Below w.heap.size w w' := by
  obtain ⟨i0, hi, hz0, hz1, hz2⟩ := info_parts Try.info33
  obtain ⟨b1', o1', e0, hlt1, hcx⟩ := ha1 a _ (fvs_at hxa)
  cases e0
  have HX := Lib.hid ha1
  have HXL := Lib.hid hxl
  have HXW := Lib.hid hxw
  have HXA := Lib.hid hxa
  have hw1 : IntKind.i64.wrap ((a : Int) + 1) = (a : Int) + 1 := by rw [i64_left]; exact wrap64_in _ (by omega)
  have hi0 : (0 : Int) ≤ (a : Int) + 1 := by omega
  have hi1 : (a : Int) + 1 ≤ (cap : Int) := by omega
  have hi2 : (a : Int) + 1 ≤ (n : Int) := by omega
  have hi3 : (0 : Int) ≤ (a : Int) := by omega
  have hi4 : (a : Int) < (n : Int) := by omega
  have hc0 : ¬ cap = a + 1 := by omega
  obtain ⟨P, hP⟩ : ∃ P, P = xs.take (a + 1) := ⟨_, rfl⟩
  obtain ⟨D, hD⟩ : ∃ D, D = xs.drop (a + 1) := ⟨_, rfl⟩
  have hxs : xs = P ++ D := by rw [hP, hD, List.take_append_drop]
  have hPl : P.length = a + 1 := by rw [hP, List.length_take]; omega
  have hDl : D.length = n - (a + 1) := by rw [hD, List.length_drop, hxl]
  have hPw : Words P := by rw [hP]; exact words_take hxw _
  have hDw : Words D := fun u hu => hxw u (by rw [hD] at hu; exact List.mem_of_mem_drop hu)
  have hx64 := words_at hxw hxa
  have hlp : lst 0 (cbs P) = cb x := by rw [hP]; exact lst_take hxa
  obtain ⟨E, hE⟩ : ∃ E, E = encS (dx (cb x) (cbs D)) := ⟨_, rfl⟩
  obtain ⟨H, hH⟩ : ∃ H, encR (cbs P) = H := ⟨_, rfl⟩
  obtain ⟨S, hS⟩ : ∃ S, S = H ++ E := ⟨_, rfl⟩
  obtain ⟨T, hT⟩ : ∃ T, T = H ++ ((0 : UInt8) :: E) := ⟨_, rfl⟩
  have hse : encR (cbs xs) = S := by rw [hxs, cbs_app, encR, dx_app, encS_app, hlp, ← hE, hS, ← hH]; rfl
  have hte : encR (cbs (P ++ ([x] ++ D))) = T := by
    have h0 : put (sw (cb x ^^^ cb x)) = [0] := by rw [Nat.xor_self, sw_zero, put_lo (by omega)]; rfl
    rw [cbs_app, encR, dx_app, encS_app, hlp, cbs_app, show cbs [x] ++ cbs D = cb x :: cbs D from rfl, dx, encS_cons, h0, ← hE, hT, ← hH]; rfl
  have hsH := ba_size H
  have hsS := ba_size S
  have hsT := ba_size T
  have hTS : T.length = S.length + 1 := by rw [hT, hS]; simp; omega
  have hHS : H.length ≤ S.length := by rw [hS]; simp
  have hSl : S.length ≤ 2000 := by rw [← hse]; have := (encR_len (cbs xs)).2; rw [cbs_len] at this; omega
  have hx1 : (ba S).extract H.length S.length = ba E := by rw [extract_drop, hS, List.drop_left]
  have hx2 : (ba T).extract (H.length + 1) T.length = ba E := by
    rw [extract_drop, hT]
    congr 1
    rw [List.drop_append, List.drop_of_length_le (by omega), show H.length + 1 - H.length = 1 by omega]; rfl
  have hx3 : (ba S).extract 0 H.length = ba H := by rw [extract_take, hS, List.take_left]
  have hx4 : (ba T).extract 0 H.length = ba H := by rw [extract_take, hT, List.take_left]
  have hix := fun wx => index_ba (l := T) (k := H.length) (b := 0) (by rw [hT, List.getElem?_append_right (Nat.le_refl _), Nat.sub_self]; rfl) (H.length : Int) rfl wx
  have he1 : ((ba H).toList == (ba H).toList) = true := by simp
  have he2 : ((ba E).toList == (ba E).toList) = true := by simp
  have hne : ((T.length : Int) != (S.length : Int) + 1) = false := by rw [hTS]; simp
  have hgt2 : decide ((S.length : Int) < (H.length : Int)) = false := by simp; omega
  have hw2 : IntKind.i64.wrap ((S.length : Int) + 1) = (S.length : Int) + 1 := by rw [i64_left]; exact wrap64_in _ (by omega)
  have hw3 : IntKind.i64.wrap ((H.length : Int) + 1) = (H.length : Int) + 1 := by rw [i64_left]; exact wrap64_in _ (by omega)
  have hI1 : (H.length : Int) ≤ (S.length : Int) := by omega
  have hI2 : (H.length : Int) ≤ (T.length : Int) := by omega
  have hI3 : (H.length : Int) + 1 ≤ (T.length : Int) := by omega
  have hTl : T.length ≤ 2001 := by omega
  have FACTS := Lib.hid (And.intro hx1 (And.intro hx2 (And.intro hx3 (And.intro hx4 (And.intro hix (And.intro he1 (And.intro he2 (And.intro hne (And.intro hgt2 (And.intro hw2 (And.intro hw3 (And.intro hsH (And.intro hsS (And.intro hsT (And.intro hTS (And.intro hHS (And.intro hSl (And.intro hI1 (And.intro hI2 (And.intro hI3 hTl))))))))))))))))))))
  have HYL := Lib.hid (show n + 1 = (P ++ ([x] ++ D)).length by rw [List.length_append, List.length_append, hPl, hDl, List.length_singleton]; omega)
  have HYW := Lib.hid (words_app hPw (words_app (show Words [x] from fun u hu => by rw [List.mem_singleton.1 hu]; exact hx64) hDw))
  have HPW := Lib.hid hPw
  have HPL := Lib.hid hPl
  have HSE := Lib.hid hse
  have HTE := Lib.hid hte
  have HH := Lib.hid hH
  have HPD := Lib.hid (And.intro hP hD)
  clear hxs hPl hDl hPw hDw hlp hE hH hS hT hse hte hx1 hx2 hx3 hx4 hix he1 he2 hne hgt2 hw2 hw3 hTS hHS hSl hI1 hI2 hI3 hTl hsH hsS hsT hP hD hx64
  clear ha1 hxl hxw hxa
  go_enter Try.func6, Try.ntmps6
  go_wp2_with fail
  go_region_held_law (fun w' => w'.cell? ⟨b1, o1 + a, none⟩ = some (.float .f64 x) ∧ Below w.heap.size w w')
    (first
      | (exact sKeep hlt1 (by assumption) hbn)
      | (exact sAlloc hlt1 (Nat.le_refl _) (by assumption) _)
      | (exact sAllocD hlt1 (Nat.le_refl _) (by assumption) _)
      | (exact ⟨hcx, (Below.refl _ _).drew⟩)
      | go_keep)
    (first
      | (refine step_append_own rfl _ _ 22 rfl w.heap.size 33 i0 (.float .f64 0) 1 8 Try.underlying22 hi hz0 hz1 hz2 rfl (by decide) (.slice (some ⟨w.heap.size, 0, none⟩) 0 0) 0 [] rfl (own_drew (made w.heap.size w (Nat.le_refl _))) ⟨b1, o1, none⟩ (a + 1) cap (fvs (xs.take (a + 1))) rfl (by rw [fvs_len, List.length_take, ← HXL.out]; omega) (at_news (by have h := (HX.out.below (sBelow (by assumption))).take (a + 1); rw [fvs, ← List.map_take] at h; exact h)) (fvs_one _) (by unfold maxLen; omega) (by omega) (by simp <;> omega) ?_; intro v1 w1 hown1 hgrow1; have hbn := below_own2 (Below.refl _ _) (by simp <;> omega) (own_drew (made w.heap.size w (Nat.le_refl _))) hgrow1)
      | (refine step_append_own rfl _ _ 22 rfl w.heap.size 33 i0 (.float .f64 0) 1 8 Try.underlying22 hi hz0 hz1 hz2 rfl (by decide) (.slice (some ⟨w.heap.size, 0, none⟩) 0 0) 0 [] rfl (own_drew ((made w.heap.size w (Nat.le_refl _)).alloc (.cells #[.float .f64 x] 33))) ⟨b1, o1, none⟩ (a + 1) cap (fvs (xs.take (a + 1))) rfl (by rw [fvs_len, List.length_take, ← HXL.out]; omega) (at_news (by have h := (HX.out.below (sBelow (by assumption))).take (a + 1); rw [fvs, ← List.map_take] at h; exact h)) (fvs_one _) (by unfold maxLen; omega) (by omega) (by simp <;> omega) ?_; intro v1 w1 hown1 hgrow1; have hbn := below_own2 (Below.refl _ _) (by simp <;> omega) (own_drew ((made w.heap.size w (Nat.le_refl _)).alloc (.cells #[.float .f64 x] 33))) hgrow1; have hcx2 : w1.cell? ⟨w.heap.size + 1, 0, none⟩ = some (.float .f64 x) := cell_kept (cell_new2 w _ _) hgrow1 (by simp [Value.ownBlock]))
      | (refine step_append_own rfl _ _ 22 rfl w.heap.size 33 i0 (.float .f64 0) 1 8 Try.underlying22 hi hz0 hz1 hz2 rfl (by decide) (.slice (some ⟨w.heap.size + 1, 0, none⟩) 0 0) 0 [] rfl (made1 w.heap.size w (.cells #[.float .f64 x] 33) (Nat.le_refl _)) ⟨b1, o1, none⟩ (a + 1) cap (fvs (xs.take (a + 1))) rfl (by rw [fvs_len, List.length_take, ← HXL.out]; omega) (at_news (by have h := (HX.out.below (sBelow (by assumption))).take (a + 1); rw [fvs, ← List.map_take] at h; exact h)) (fvs_one _) (by unfold maxLen; omega) (by omega) (by simp <;> omega) ?_; intro v1 w1 hown1 hgrow1; have hbn := below_own2 (Below.refl _ _) (by simp <;> omega) (made1 w.heap.size w (.cells #[.float .f64 x] 33) (Nat.le_refl _)) hgrow1; have hcx3 : w1.cell? ⟨w.heap.size, 0, none⟩ = some (.float .f64 x) := cell_kept (cell_new1 w _ _) hgrow1 (by simp [Value.ownBlock]))
      | (refine step_append_own rfl _ _ 22 rfl w.heap.size 33 i0 (.float .f64 0) 1 8 Try.underlying22 hi hz0 hz1 hz2 rfl (by decide) _ _ _ rfl (hown1.alloc (.cells #[.float .f64 x] 33)) ⟨w1.heap.size, 0, none⟩ 1 1 [.float .f64 x] rfl rfl (cell_one_new w1 _ _) (by simp [Value.oneCell']) (by unfold maxLen; omega) (by omega) (sSize (Nat.le_refl _) (by assumption)) ?_; intro v2 w2 hown2 hgrow2; have hbn := below_own2 (Below.refl _ _) (sSize (Nat.le_refl _) (by assumption)) (hown1.alloc (.cells #[.float .f64 x] 33)) hgrow2)
      | (refine step_append_own rfl _ _ 22 rfl w.heap.size 33 i0 (.float .f64 0) 1 8 Try.underlying22 hi hz0 hz1 hz2 rfl (by decide) _ _ _ rfl (hown1) ⟨w.heap.size + 1, 0, none⟩ 1 1 [.float .f64 x] rfl rfl (one_news hcx2) (by simp [Value.oneCell']) (by unfold maxLen; omega) (by omega) (sSize (Nat.le_refl _) (by assumption)) ?_; intro v2 w2 hown2 hgrow2; have hbn := below_own2 (Below.refl _ _) (sSize (Nat.le_refl _) (by assumption)) (hown1) hgrow2)
      | (refine step_append_own rfl _ _ 22 rfl w.heap.size 33 i0 (.float .f64 0) 1 8 Try.underlying22 hi hz0 hz1 hz2 rfl (by decide) _ _ _ rfl (hown1) ⟨w.heap.size, 0, none⟩ 1 1 [.float .f64 x] rfl rfl (one_news hcx3) (by simp [Value.oneCell']) (by unfold maxLen; omega) (by omega) (sSize (Nat.le_refl _) (by assumption)) ?_; intro v2 w2 hown2 hgrow2; have hbn := below_own2 (Below.refl _ _) (sSize (Nat.le_refl _) (by assumption)) (hown1) hgrow2)
      | (refine step_append_own rfl _ _ 22 rfl w.heap.size 33 i0 (.float .f64 0) 1 8 Try.underlying22 hi hz0 hz1 hz2 rfl (by decide) _ _ _ rfl hown2 ⟨b1, o1 + (a + 1), none⟩ _ _ (fvs (xs.drop (a + 1))) rfl (by rw [fvs_len, List.length_drop, ← HXL.out]; omega) (at_news (by have h := (HX.out.below (sBelow (by assumption))).drop (a + 1); rw [fvs, ← List.map_drop] at h; exact h)) (fvs_one _) (by unfold maxLen; omega) (by omega) (sSize (Nat.le_refl _) (by assumption)) ?_; intro v3 w3 hown3 hgrow3; have hbn := below_own2 (Below.refl _ _) (sSize (Nat.le_refl _) (by assumption)) hown2 hgrow3)
)
  all_goals
    have hb3 : Below w.heap.size w w3 := sBelow (by assumption)
    have hown := own_head (m := n + 1) (ys := fvs (P ++ ([x] ++ D))) hown3 (by omega) (by rw [HPD.out.1, HPD.out.2]; simp [fvs])
    obtain ⟨A3, c3, rfl, hat3, -, -⟩ := own_at hown
    have HAT := Lib.hid hat3
    clear hown hat3 hown1 hown2 hown3 hgrow1 hgrow2 hgrow3
    obtain ⟨hx1, hx2, hx3, hx4, hix, he1, he2, hne, hgt2, hw2, hw3, hsH, hsS, hsT, -, hHS, hSl, hI1, hI2, hI3, hTl⟩ := FACTS.out
    have hI4 : (0 : Int) ≤ (H.length : Int) + 1 := by omega
    have hI5 : (0 : Int) ≤ (H.length : Int) := by omega
    have hI6 : (H.length : Int) < (T.length : Int) := by omega
    try clear hcx2
    try clear hcx3
    go_wp2_with fail
    refine (encodeR_n (n := n) xs S HXL.out HSE.out (by omega) HXW.out (HX.out.keep hb3)).mono ?_
    rintro e w4 ⟨rfl, hm4⟩
    have HAT4 := Lib.hid (HAT.out.keep hm4)
    have hb4 := hb3.trans (hm4.mono hb3.size)
    clear hm4
    go_wp2_with fail
    refine (encodeR_n (n := n + 1) (P ++ ([x] ++ D)) T HYL.out HTE.out (by omega) HYW.out HAT4.out).mono ?_
    rintro e w5 ⟨rfl, hm5⟩
    have hb5 := hb4.trans (hm5.mono hb4.size)
    clear hm5 HAT4
    have hpat : At w5 w5.heap.size (some ⟨b1, o1, none⟩) (fvs P) := by
      have h := (HX.out.keep hb5).take (a + 1)
      rw [fvs, ← List.map_take, ← HPD.out.1] at h
      exact h
    have HPAT := Lib.hid hpat
    clear hpat
    go_wp2_with fail
    refine (encodeR_n (n := a + 1) P H HPL.out.symm HH.out (by omega) HPW.out HPAT.out).mono ?_
    rintro e w6 ⟨rfl, hm6⟩
    have hb6 := hb5.trans (hm6.mono hb5.size)
    clear hm6 HPAT
    go_wp2_with fail
    go_region_held3 (fun w' => Below w.heap.size w w')
      (first
        | (exact Below.trans (by assumption) (hbl.mono (Below.size (by assumption))))
        | (exact Below.drew (by assumption))
        | go_keep)
      (first | (go_at_call 13; refine (live9_c _).mono ?_; rintro e w7 ⟨rfl, hbl⟩))
    go_wp2
    go_ret
    exact ⟨rfl, by assumption⟩
set_option maxHeartbeats 16000000 in
theorem walk_end (b1 o1 a x : Nat) (xs : List Nat) (hxl : (a + 1) = xs.length) (hn : (a + 1) ≤ 100) (_ha : a < (a + 1)) (hxa : xs[a]? = some x) (hxw : Words xs) (w : World) (ha1 : At w w.heap.size (some ⟨b1, o1, none⟩) (fvs xs)) :
    Calls Try.prog 6 #[.slice (some ⟨b1, o1, none⟩) (a + 1) (a + 1), .int .i64 (a : Int)] w fun e w' => e = .returned (.bool true) ∧ Below w.heap.size w w' := by
  obtain ⟨i0, hi, hz0, hz1, hz2⟩ := info_parts Try.info33
  obtain ⟨b1', o1', e0, hlt1, hcx⟩ := ha1 a _ (fvs_at hxa)
  cases e0
  have HX := Lib.hid ha1
  have HXL := Lib.hid hxl
  have HXW := Lib.hid hxw
  have HXA := Lib.hid hxa
  have hw1 : IntKind.i64.wrap ((a : Int) + 1) = (a : Int) + 1 := by rw [i64_left]; exact wrap64_in _ (by omega)
  have hi0 : (0 : Int) ≤ (a : Int) + 1 := by omega
  have hi1 : (a : Int) + 1 ≤ ((a + 1) : Int) := by omega
  have hi2 : (a : Int) + 1 ≤ ((a + 1) : Int) := by omega
  have hi3 : (0 : Int) ≤ (a : Int) := by omega
  have hi4 : (a : Int) < ((a + 1) : Int) := by omega
  obtain ⟨P, hP⟩ : ∃ P, P = xs.take (a + 1) := ⟨_, rfl⟩
  obtain ⟨D, hD⟩ : ∃ D, D = xs.drop (a + 1) := ⟨_, rfl⟩
  have hxs : xs = P ++ D := by rw [hP, hD, List.take_append_drop]
  have hPl : P.length = a + 1 := by rw [hP, List.length_take]; omega
  have hDl : D.length = (a + 1) - (a + 1) := by rw [hD, List.length_drop, hxl]
  have hPw : Words P := by rw [hP]; exact words_take hxw _
  have hDw : Words D := fun u hu => hxw u (by rw [hD] at hu; exact List.mem_of_mem_drop hu)
  have hx64 := words_at hxw hxa
  have hlp : lst 0 (cbs P) = cb x := by rw [hP]; exact lst_take hxa
  obtain ⟨E, hE⟩ : ∃ E, E = encS (dx (cb x) (cbs D)) := ⟨_, rfl⟩
  obtain ⟨H, hH⟩ : ∃ H, encR (cbs P) = H := ⟨_, rfl⟩
  obtain ⟨S, hS⟩ : ∃ S, S = H ++ E := ⟨_, rfl⟩
  obtain ⟨T, hT⟩ : ∃ T, T = H ++ ((0 : UInt8) :: E) := ⟨_, rfl⟩
  have hse : encR (cbs xs) = S := by rw [hxs, cbs_app, encR, dx_app, encS_app, hlp, ← hE, hS, ← hH]; rfl
  have hte : encR (cbs (P ++ ([x] ++ D))) = T := by
    have h0 : put (sw (cb x ^^^ cb x)) = [0] := by rw [Nat.xor_self, sw_zero, put_lo (by omega)]; rfl
    rw [cbs_app, encR, dx_app, encS_app, hlp, cbs_app, show cbs [x] ++ cbs D = cb x :: cbs D from rfl, dx, encS_cons, h0, ← hE, hT, ← hH]; rfl
  have hsH := ba_size H
  have hsS := ba_size S
  have hsT := ba_size T
  have hTS : T.length = S.length + 1 := by rw [hT, hS]; simp; omega
  have hHS : H.length ≤ S.length := by rw [hS]; simp
  have hSl : S.length ≤ 2000 := by rw [← hse]; have := (encR_len (cbs xs)).2; rw [cbs_len] at this; omega
  have hx1 : (ba S).extract H.length S.length = ba E := by rw [extract_drop, hS, List.drop_left]
  have hx2 : (ba T).extract (H.length + 1) T.length = ba E := by
    rw [extract_drop, hT]
    congr 1
    rw [List.drop_append, List.drop_of_length_le (by omega), show H.length + 1 - H.length = 1 by omega]; rfl
  have hx3 : (ba S).extract 0 H.length = ba H := by rw [extract_take, hS, List.take_left]
  have hx4 : (ba T).extract 0 H.length = ba H := by rw [extract_take, hT, List.take_left]
  have hix := fun wx => index_ba (l := T) (k := H.length) (b := 0) (by rw [hT, List.getElem?_append_right (Nat.le_refl _), Nat.sub_self]; rfl) (H.length : Int) rfl wx
  have he1 : ((ba H).toList == (ba H).toList) = true := by simp
  have he2 : ((ba E).toList == (ba E).toList) = true := by simp
  have hne : ((T.length : Int) != (S.length : Int) + 1) = false := by rw [hTS]; simp
  have hgt2 : decide ((S.length : Int) < (H.length : Int)) = false := by simp; omega
  have hw2 : IntKind.i64.wrap ((S.length : Int) + 1) = (S.length : Int) + 1 := by rw [i64_left]; exact wrap64_in _ (by omega)
  have hw3 : IntKind.i64.wrap ((H.length : Int) + 1) = (H.length : Int) + 1 := by rw [i64_left]; exact wrap64_in _ (by omega)
  have hI1 : (H.length : Int) ≤ (S.length : Int) := by omega
  have hI2 : (H.length : Int) ≤ (T.length : Int) := by omega
  have hI3 : (H.length : Int) + 1 ≤ (T.length : Int) := by omega
  have hTl : T.length ≤ 2001 := by omega
  have FACTS := Lib.hid (And.intro hx1 (And.intro hx2 (And.intro hx3 (And.intro hx4 (And.intro hix (And.intro he1 (And.intro he2 (And.intro hne (And.intro hgt2 (And.intro hw2 (And.intro hw3 (And.intro hsH (And.intro hsS (And.intro hsT (And.intro hTS (And.intro hHS (And.intro hSl (And.intro hI1 (And.intro hI2 (And.intro hI3 hTl))))))))))))))))))))
  have HYL := Lib.hid (show (a + 1) + 1 = (P ++ ([x] ++ D)).length by rw [List.length_append, List.length_append, hPl, hDl, List.length_singleton]; omega)
  have HYW := Lib.hid (words_app hPw (words_app (show Words [x] from fun u hu => by rw [List.mem_singleton.1 hu]; exact hx64) hDw))
  have HPW := Lib.hid hPw
  have HPL := Lib.hid hPl
  have HSE := Lib.hid hse
  have HTE := Lib.hid hte
  have HH := Lib.hid hH
  have HPD := Lib.hid (And.intro hP hD)
  clear hxs hPl hDl hPw hDw hlp hE hH hS hT hse hte hx1 hx2 hx3 hx4 hix he1 he2 hne hgt2 hw2 hw3 hTS hHS hSl hI1 hI2 hI3 hTl hsH hsS hsT hP hD hx64
  clear ha1 hxl hxw hxa
  go_enter Try.func6, Try.ntmps6
  go_wp2_with fail
  go_region_held_law (fun w' => w'.cell? ⟨b1, o1 + a, none⟩ = some (.float .f64 x) ∧ Below w.heap.size w w')
    (first
      | (exact sKeep hlt1 (by assumption) hbn)
      | (exact sAlloc hlt1 (Nat.le_refl _) (by assumption) _)
      | (exact sAllocD hlt1 (Nat.le_refl _) (by assumption) _)
      | (exact ⟨hcx, (Below.refl _ _).drew⟩)
      | go_keep)
    (first
      | (refine step_append_own rfl _ _ 22 rfl w.heap.size 33 i0 (.float .f64 0) 1 8 Try.underlying22 hi hz0 hz1 hz2 rfl (by decide) (.slice (some ⟨w.heap.size, 0, none⟩) 0 0) 0 [] rfl (own_drew (made w.heap.size w (Nat.le_refl _))) ⟨b1, o1, none⟩ (a + 1) (a + 1) (fvs (xs.take (a + 1))) rfl (by rw [fvs_len, List.length_take, ← HXL.out]; omega) (at_news (by have h := (HX.out.below (sBelow (by assumption))).take (a + 1); rw [fvs, ← List.map_take] at h; exact h)) (fvs_one _) (by unfold maxLen; omega) (by omega) (by simp <;> omega) ?_; intro v1 w1 hown1 hgrow1; have hbn := below_own2 (Below.refl _ _) (by simp <;> omega) (own_drew (made w.heap.size w (Nat.le_refl _))) hgrow1)
      | (refine step_append_own rfl _ _ 22 rfl w.heap.size 33 i0 (.float .f64 0) 1 8 Try.underlying22 hi hz0 hz1 hz2 rfl (by decide) (.slice (some ⟨w.heap.size, 0, none⟩) 0 0) 0 [] rfl (own_drew ((made w.heap.size w (Nat.le_refl _)).alloc (.cells #[.float .f64 x] 33))) ⟨b1, o1, none⟩ (a + 1) (a + 1) (fvs (xs.take (a + 1))) rfl (by rw [fvs_len, List.length_take, ← HXL.out]; omega) (at_news (by have h := (HX.out.below (sBelow (by assumption))).take (a + 1); rw [fvs, ← List.map_take] at h; exact h)) (fvs_one _) (by unfold maxLen; omega) (by omega) (by simp <;> omega) ?_; intro v1 w1 hown1 hgrow1; have hbn := below_own2 (Below.refl _ _) (by simp <;> omega) (own_drew ((made w.heap.size w (Nat.le_refl _)).alloc (.cells #[.float .f64 x] 33))) hgrow1; have hcx2 : w1.cell? ⟨w.heap.size + 1, 0, none⟩ = some (.float .f64 x) := cell_kept (cell_new2 w _ _) hgrow1 (by simp [Value.ownBlock]))
      | (refine step_append_own rfl _ _ 22 rfl w.heap.size 33 i0 (.float .f64 0) 1 8 Try.underlying22 hi hz0 hz1 hz2 rfl (by decide) (.slice (some ⟨w.heap.size + 1, 0, none⟩) 0 0) 0 [] rfl (made1 w.heap.size w (.cells #[.float .f64 x] 33) (Nat.le_refl _)) ⟨b1, o1, none⟩ (a + 1) (a + 1) (fvs (xs.take (a + 1))) rfl (by rw [fvs_len, List.length_take, ← HXL.out]; omega) (at_news (by have h := (HX.out.below (sBelow (by assumption))).take (a + 1); rw [fvs, ← List.map_take] at h; exact h)) (fvs_one _) (by unfold maxLen; omega) (by omega) (by simp <;> omega) ?_; intro v1 w1 hown1 hgrow1; have hbn := below_own2 (Below.refl _ _) (by simp <;> omega) (made1 w.heap.size w (.cells #[.float .f64 x] 33) (Nat.le_refl _)) hgrow1; have hcx3 : w1.cell? ⟨w.heap.size, 0, none⟩ = some (.float .f64 x) := cell_kept (cell_new1 w _ _) hgrow1 (by simp [Value.ownBlock]))
      | (refine step_append_own rfl _ _ 22 rfl w.heap.size 33 i0 (.float .f64 0) 1 8 Try.underlying22 hi hz0 hz1 hz2 rfl (by decide) _ _ _ rfl (hown1.alloc (.cells #[.float .f64 x] 33)) ⟨w1.heap.size, 0, none⟩ 1 1 [.float .f64 x] rfl rfl (cell_one_new w1 _ _) (by simp [Value.oneCell']) (by unfold maxLen; omega) (by omega) (sSize (Nat.le_refl _) (by assumption)) ?_; intro v2 w2 hown2 hgrow2; have hbn := below_own2 (Below.refl _ _) (sSize (Nat.le_refl _) (by assumption)) (hown1.alloc (.cells #[.float .f64 x] 33)) hgrow2)
      | (refine step_append_own rfl _ _ 22 rfl w.heap.size 33 i0 (.float .f64 0) 1 8 Try.underlying22 hi hz0 hz1 hz2 rfl (by decide) _ _ _ rfl (hown1) ⟨w.heap.size + 1, 0, none⟩ 1 1 [.float .f64 x] rfl rfl (one_news hcx2) (by simp [Value.oneCell']) (by unfold maxLen; omega) (by omega) (sSize (Nat.le_refl _) (by assumption)) ?_; intro v2 w2 hown2 hgrow2; have hbn := below_own2 (Below.refl _ _) (sSize (Nat.le_refl _) (by assumption)) (hown1) hgrow2)
      | (refine step_append_own rfl _ _ 22 rfl w.heap.size 33 i0 (.float .f64 0) 1 8 Try.underlying22 hi hz0 hz1 hz2 rfl (by decide) _ _ _ rfl (hown1) ⟨w.heap.size, 0, none⟩ 1 1 [.float .f64 x] rfl rfl (one_news hcx3) (by simp [Value.oneCell']) (by unfold maxLen; omega) (by omega) (sSize (Nat.le_refl _) (by assumption)) ?_; intro v2 w2 hown2 hgrow2; have hbn := below_own2 (Below.refl _ _) (sSize (Nat.le_refl _) (by assumption)) (hown1) hgrow2)
      | (refine step_append_own rfl _ _ 22 rfl w.heap.size 33 i0 (.float .f64 0) 1 8 Try.underlying22 hi hz0 hz1 hz2 rfl (by decide) _ _ _ rfl hown2 _ _ _ [] rfl (by simp) (fun j u hu => by simp at hu) (fun u hu => by simp at hu) (by unfold maxLen; omega) (by omega) (sSize (Nat.le_refl _) (by assumption)) ?_; intro v3 w3 hown3 hgrow3; have hbn := below_own2 (Below.refl _ _) (sSize (Nat.le_refl _) (by assumption)) hown2 hgrow3)
)
  all_goals
    have hb3 : Below w.heap.size w w3 := sBelow (by assumption)
    have hown := own_head (m := a + 1 + 1) (ys := fvs (P ++ ([x] ++ D))) hown3 (by omega) (by rw [HPD.out.1, show D = [] from List.eq_nil_of_length_eq_zero (by rw [HPD.out.2, List.length_drop, ← HXL.out]; omega)]; simp [fvs])
    obtain ⟨A3, c3, rfl, hat3, -, -⟩ := own_at hown
    have HAT := Lib.hid hat3
    clear hown hat3 hown1 hown2 hown3 hgrow1 hgrow2 hgrow3
    obtain ⟨hx1, hx2, hx3, hx4, hix, he1, he2, hne, hgt2, hw2, hw3, hsH, hsS, hsT, -, hHS, hSl, hI1, hI2, hI3, hTl⟩ := FACTS.out
    have hI4 : (0 : Int) ≤ (H.length : Int) + 1 := by omega
    have hI5 : (0 : Int) ≤ (H.length : Int) := by omega
    have hI6 : (H.length : Int) < (T.length : Int) := by omega
    try clear hcx2
    try clear hcx3
    go_wp2_with fail
    refine (encodeR_n (n := a + 1) xs S HXL.out HSE.out (by omega) HXW.out (HX.out.keep hb3)).mono ?_
    rintro e w4 ⟨rfl, hm4⟩
    have HAT4 := Lib.hid (HAT.out.keep hm4)
    have hb4 := hb3.trans (hm4.mono hb3.size)
    clear hm4
    go_wp2_with fail
    refine (encodeR_n (n := a + 1 + 1) (P ++ ([x] ++ D)) T HYL.out HTE.out (by omega) HYW.out HAT4.out).mono ?_
    rintro e w5 ⟨rfl, hm5⟩
    have hb5 := hb4.trans (hm5.mono hb4.size)
    clear hm5 HAT4
    have hpat : At w5 w5.heap.size (some ⟨b1, o1, none⟩) (fvs P) := by
      have h := (HX.out.keep hb5).take (a + 1)
      rw [fvs, ← List.map_take, ← HPD.out.1] at h
      exact h
    have HPAT := Lib.hid hpat
    clear hpat
    go_wp2_with fail
    refine (encodeR_n (n := a + 1) P H HPL.out.symm HH.out (by omega) HPW.out HPAT.out).mono ?_
    rintro e w6 ⟨rfl, hm6⟩
    have hb6 := hb5.trans (hm6.mono hb5.size)
    clear hm6 HPAT
    go_wp2_with fail
    go_region_held3 (fun w' => Below w.heap.size w w')
      (first
        | (exact Below.trans (by assumption) (hbl.mono (Below.size (by assumption))))
        | (exact Below.drew (by assumption))
        | go_keep)
      (first | (go_at_call 13; refine (live9_c _).mono ?_; rintro e w7 ⟨rfl, hbl⟩))
    go_wp2
    go_ret
    exact ⟨rfl, by assumption⟩

theorem walk (A : Option Addr) (cap : Nat) (xs : List Nat) (i : Int) (_hn : A = none → cap = 0) (hk : xs.length ≤ cap) (hz : xs.length ≤ maxLen) (hw : Words xs) (_hwf : (Lit.int .i64 i).wf = true) (w : World) (hc : At w w.heap.size A (fvs xs)) :
    Calls Try.prog 6 #[.slice A xs.length cap, .int .i64 i] w fun e w' => e = .returned (.bool true) ∧ Below w.heap.size w w' := by
  unfold maxLen at hz
  by_cases h : 100 < xs.length ∨ i < 0 ∨ (xs.length : Int) ≤ i
  · exact live A cap _ i (by omega) h w
  · obtain ⟨a, rfl⟩ := Int.eq_ofNat_of_zero_le (show 0 ≤ i by omega)
    have ha : a < xs.length := by omega
    obtain ⟨x, hx⟩ := some_at ha
    obtain ⟨b1, o1, rfl, _, _⟩ := hc a _ (fvs_at hx)
    obtain ⟨n, hn⟩ : ∃ n, n = xs.length := ⟨_, rfl⟩
    rw [← hn] at hk ha h ⊢
    by_cases hgt : a + 1 < cap
    · exact walk_in b1 o1 cap n a x xs hn (by omega) ha hk hgt hx hw w hc
    · obtain rfl : cap = a + 1 := by omega
      obtain rfl : n = a + 1 := by omega
      exact walk_end b1 o1 a x xs hn (by omega) ha hx hw w hc
end realsAgain
end Go.Proofs.Ytjjbiepmfngipaa
