/-
 Marks that are raised by a time: the program's.
 Raise, Join, Of: the program's.
-/
import Derived.Test.YthhckdjagnlgpaaGreatAe
import Derived.Deep.RegionHeld3
section
namespace Go.Proofs.YthhckdjagnlgpaaGreat
open Go.RowKit Go.IntWalk
set_option maxRecDepth 100000
attribute [local go_sem] Oper.semAt_some
theorem own_setK {w : World} {B g size n cap i : Nat} {e : TypeId} {xs : List Value} (h : w.ownsRow B e size (.slice (some ⟨g, 0, none⟩) n cap) n xs) (u : Value) :
  (w.setCell ⟨g, i, none⟩ u).ownsRow B e size (.slice (some ⟨g, 0, none⟩) n cap) n (xs.set i u) := by
 refine ⟨by rw [List.length_set]; exact h.1, ?_⟩
 rcases h.2 with ⟨h1, _⟩ | ⟨g', cap', cur, hv, hb, hg, h1, h2, h3, h4⟩
 ·cases h1
 ·cases hv
  refine .inr ⟨g, cap, cur.setIfInBounds i u, rfl, hb, ?_, h1, h2, by simpa using h3, ?_⟩
  ·have := heap_setCell_same w g i cur e u hg
   simpa using this
  ·rw [Array.toList_setIfInBounds, ← h4, List.take_set]
theorem own_headK {w : World} {B n cap : Nat} {A : Option Addr} {xs : List Value} {k : Nat} (h : w.ownsRow B 105 2 (.slice A n cap) n xs) (hk : k < n) : ∃ g, A = some ⟨g, 0, none⟩ ∧ B ≤ g ∧ cap ≤ maxLen ∧ ∀ j, w.frozen? ⟨g, j, none⟩ = false := by
 obtain ⟨hl, ⟨hz, h0⟩ | ⟨g2, c2, cur, hv, hb, hg, hn, hm, hs, ht⟩⟩ := h
 ·omega
 cases hv
 exact ⟨g2, rfl, hb, hm, fun j => by simp [World.frozen?, hg]⟩
theorem own_ltK {w : World} {B n cap : Nat} {A : Option Addr} {xs : List Value} {k : Nat} (h : w.ownsRow B 105 2 (.slice A n cap) n xs) (hk : k < n) : ∃ g, ∃ _ : True, A = some ⟨g, 0, none⟩ ∧ True ∧ g < w.heap.size ∧ True := by
 obtain ⟨hl, ⟨hz, h0⟩ | ⟨g2, c2, cur, hv, hb, hg, hn, hm, hs, ht⟩⟩ := h
 ·omega
 cases hv
 exact ⟨g2, trivial, rfl, trivial, (Array.getElem?_eq_some_iff.1 hg).1, trivial⟩
theorem below_ownK {w w' : World} {B size n : Nat} {e : TypeId} {v : Value} {xs : List Value} (h : w.ownsRow B e size v n xs) (hb : Below w.heap.size w w') : w'.ownsRow B e size v n xs := by
 refine ⟨h.1, ?_⟩
 rcases h.2 with hz | ⟨g, cap, cur, hv, hB, hg, r⟩
 ·exact .inl hz
 ·exact .inr ⟨g, cap, cur, hv, hB, (hb.block g (Array.getElem?_eq_some_iff.1 hg).1).trans hg, r⟩
theorem own_atK {w : World} {B n cap : Nat} {A : Option Addr} {e : TypeId} {size : Nat} {xs : List Value} (h : w.ownsRow B e size (.slice A n cap) n xs) : At w w.heap.size A xs := by
 obtain ⟨A', c', hv, ha, _⟩ := own_at h
 cases hv; exact ha
theorem box2K {w : World} {G : Nat} {t : TypeId} {c r : Int} (h : Is w G t [.int .i64 c, .int .i64 r]) : w.cell? ⟨G, 0, none⟩ = some (.int .i64 c) ∧ w.cell? ⟨G, 1, none⟩ = some (.int .i64 r) := ⟨is_cell h 0, is_cell h 1⟩
set_option maxHeartbeats 8000000 in
theorem kraise_c (B : Nat) (A : Option Addr) (cap : Nat) (l : List Mk) (c r : Int) (hl : l.length ≤ 50000) (w : World) (hB : B ≤ w.heap.size) (hown : w.ownsRow B 105 2 (.slice A l.length cap) l.length (kvs l)) :
  Calls Tryz.prog 124 #[.slice A l.length cap, .agg #[.int .i64 c, .int .i64 r]] w (InsK B (raiseK l c r) w) := by
 have hlm : l.length ≤ maxLen := by unfold maxLen; omega
 have hmf : ∀ (fn : Fn) (first cap : Array Value) (w : World), (Instr.makeFunc fn first cap).run Tryz.prog w = .ok (.func fn first cap) w := fun _ _ _ _ => rfl
 obtain ⟨w0, hw0⟩ : ∃ w0, w0 = w.alloc (.cells #[.int .i64 c, .int .i64 r] 51) := ⟨_, rfl⟩
 have hb0 : Below w.heap.size w w0 := by rw [hw0]; exact (Below.refl _ _).alloc (Nat.le_refl _) _
 have hI0 : Is w0 w.heap.size 51 [.int .i64 c, .int .i64 r] := by rw [hw0]; exact is_new w 51 _
 have ho0 := below_ownK hown hb0
 have hf := kfirst_c A cap l r hlm w0 (own_atK ho0)
 obtain ⟨G, hG⟩ : ∃ G, G = w.heap.size := ⟨_, rfl⟩
 rw [← hG] at hI0
 obtain ⟨t0, t1⟩ := box2K hI0
 have HG := Lib.hid hG
 have HW := Lib.hid hw0
 have HB0 := Lib.hid hb0
 have HI0 := Lib.hid hI0
 have HO0 := Lib.hid ho0
 have HF := Lib.hid hf
 have HBS := Lib.hid hB
 have hcases := raiseK_cases l c r
 clear hw0 hb0 hI0 ho0 hf hG hB hown
 rcases hcases with ⟨k, x, h1, h2, h3, h4, h5⟩ | ⟨h1, ⟨h2, h3⟩ | ⟨h2, h3⟩⟩
 ·rw [h1] at HF
  rw [h5]
  obtain ⟨g, rfl, hBg, hcm, -⟩ := own_headK HO0.out h3
  have HX := Lib.hid h2
  have hk0 : (k : Int) ≥ 0 := by omega
  have hk1 : (0 : Int) ≤ (k : Int) := by omega
  have hkl : (k : Int) < (l.length : Int) := by omega
  clear h1 h2 h5
  go_enter Tryz.func124, Tryz.ntmps124
  go_wp2_with fail
  rw [← HW.out, ← HG.out]
  refine HF.out.mono ?_
  rintro e w1 ⟨rfl, hb1⟩
  have HI1 := Lib.hid (is_below HI0.out hb1 (is_lt HI0.out))
  have HO1 := Lib.hid (below_ownK HO0.out hb1)
  have HB1 := Lib.hid (HB0.out.trans (hb1.mono HB0.out.size))
  obtain ⟨_, _, e0, -, q0, q1⟩ := mark_cells (own_atK HO1.out) HX.out
  cases e0
  obtain ⟨g', e1, -, -, hfz⟩ := own_headK HO1.out h3
  cases e1
  obtain ⟨s0, s1⟩ := box2K HI1.out
  have f1 := hfz (k * 2 + 1)
  rw [Nat.zero_add] at q0 q1
  clear t0 t1 hb1 hfz
  go_wp2_with fail
  go_region
  have hmx : (if kc x < c then c else kc x) = max (kc x) c := by split <;> omega
  have hset := own_setK HO1.out (.int .i64 (if kc x < c then c else kc x)) (i := k * 2 + 1)
  rw [kvs_setc _ HX.out, hmx] at hset
  rw [hmx]
  have HS := Lib.hid hset
  have HBZ := Lib.hid (((HB1.out.mono HBS.out).setCell (p := ⟨g, k * 2 + 1, none⟩) hBg (.int .i64 (max (kc x) c))).drew)
  clear q0 q1 f1 s0 s1 hset hmx
  go_wp2_with fail
  go_ret
  exact ⟨some ⟨g, 0, none⟩, cap, by rw [List.length_set]; rfl, by rw [List.length_set]; exact HS.out, HBZ.out⟩
 ·rw [h1] at HF
  rw [h3]
  have hc0 : (c : Int) ≤ 0 := h2
  clear h1 h2 h3
  go_enter Tryz.func124, Tryz.ntmps124
  go_wp2_with fail
  rw [← HW.out, ← HG.out]
  refine HF.out.mono ?_
  rintro e w1 ⟨rfl, hb1⟩
  have HI1 := Lib.hid (is_below HI0.out hb1 (is_lt HI0.out))
  have HO1 := Lib.hid (below_ownK HO0.out hb1)
  have HB1 := Lib.hid (HB0.out.trans (hb1.mono HB0.out.size))
  obtain ⟨s0, s1⟩ := box2K HI1.out
  clear t0 t1 hb1
  go_wp2_with fail
  go_ret
  exact ⟨A, cap, rfl, HO1.out, HB1.out.mono HBS.out⟩
 ·rw [h1] at HF
  have hc0 : ¬ (c : Int) ≤ 0 := by omega
  have hle := raiseK_len l c r
  obtain ⟨z, p, hz, hzp, hins⟩ : ∃ (z : Int) (p : Nat), idxK (gtK r) l = z ∧ (if z < 0 then (l.length : Int) else z) = (p : Int) ∧ ((p < l.length ∧ ¬ z < 0 ∧ raiseK l c r = l.take p ++ (r, c) :: l.drop p) ∨ (p = l.length ∧ z < 0 ∧ raiseK l c r = l ++ [(r, c)])) := by
   rcases h3 with ⟨k, g1, g2, g3⟩ | ⟨g1, g2⟩
   ·exact ⟨k, k, g1, by rw [if_neg (by omega)], .inl ⟨g2, by omega, g3⟩⟩
   ·exact ⟨-1, l.length, g1, by rw [if_pos (by omega)], .inr ⟨rfl, by omega, g2⟩⟩
  have HZ := Lib.hid hz
  have HINS := Lib.hid hins
  clear h1 h2 h3 hz
  -- the call of slices.Insert, wherever it is made
  have hcall : ∀ (W : World), Is W G 51 [.int .i64 c, .int .i64 r] → W.ownsRow B 105 2 (.slice A l.length cap) l.length (kvs l) → B ≤ W.heap.size →
    Calls Tryz.prog 162 #[.slice A l.length cap, .int .i64 (p : Int), .slice (some ⟨W.heap.size, 0, none⟩) 1 1] (W.alloc (.cells #[.int .i64 r, .int .i64 c] 105)) (InsK B (raiseK l c r) (W.alloc (.cells #[.int .i64 r, .int .i64 c] 105))) := fun W hI hO hBW => by
   have hbw : Below W.heap.size W (W.alloc (.cells #[.int .i64 r, .int .i64 c] 105)) := (Below.refl _ _).alloc (Nat.le_refl _) _
   have hO2 := below_ownK hO hbw
   have hv : Is (W.alloc (.cells #[.int .i64 r, .int .i64 c] 105)) W.heap.size 105 (kcs (r, c)) := is_new W 105 (kcs (r, c))
   have hB2 : B ≤ (W.alloc (.cells #[.int .i64 r, .int .i64 c] 105)).heap.size := by simp; omega
   rcases HINS.out with ⟨g1, _, g3⟩ | ⟨rfl, _, g3⟩
   ·rw [g3]
    obtain ⟨g, rfl, hBg, hcm, -⟩ := own_headK hO2 (k := p) g1
    have hgW : g < W.heap.size := by
     obtain ⟨_, _, e, _, hlt, _⟩ := own_ltK hO g1
     cases e; exact hlt
    by_cases hroom : l.length + 1 ≤ cap
    ·exact kinsert_room B g cap p _ l (r, c) (by omega) g1 hroom _ hO2 hv (by omega)
    ·exact kinsert_grow B g cap p _ l (r, c) (by omega) g1 hroom _ hB2 hO2 hv
   ·rw [g3]
    exact kinsert_end B _ l (r, c) A cap (by omega) _ hB2 hO2 hv
  have HCALL := Lib.hid hcall
  clear hcall
  by_cases hzn : z < 0
  ·rw [if_pos hzn] at hzp
   have HZP := Lib.hid hzp
   clear hzp
   go_enter Tryz.func124, Tryz.ntmps124
   go_wp2_with fail
   rw [← HW.out, ← HG.out]
   refine HF.out.mono ?_
   rintro e w1 ⟨rfl, hb1⟩
   have HI1 := Lib.hid (is_below HI0.out hb1 (is_lt HI0.out))
   have HO1 := Lib.hid (below_ownK HO0.out hb1)
   have HB1 := Lib.hid (HB0.out.trans (hb1.mono HB0.out.size))
   obtain ⟨s0, s1⟩ := box2K HI1.out
   have hix := kindexFunc_c A cap l 161 _ _ hlm (enters_of Tryz.func161 (by kernel_rfl) rfl) w1 (own_atK HO1.out) (gtK_pred r G w1 l s1)
   rw [HZ.out] at hix
   have HIX := Lib.hid hix
   clear t0 t1 hb1 hix
   go_wp2_with fail
   refine HIX.out.mono ?_
   rintro e w2 ⟨rfl, hb2⟩
   have HI2 := Lib.hid (is_below HI1.out hb2 (is_lt HI1.out))
   have HO2 := Lib.hid (below_ownK HO1.out hb2)
   have HB2 := Lib.hid (HB1.out.trans (hb2.mono HB1.out.size))
   clear s0 s1 hb2
   obtain ⟨s0, s1⟩ := box2K HI2.out
   have hbs2 : B ≤ w2.heap.size := Nat.le_trans HBS.out HB2.out.size
   have HC2 := Lib.hid (HCALL.out w2 HI2.out HO2.out hbs2)
   go_wp2_with fail
   rw [HZP.out]
   refine HC2.out.mono ?_
   rintro e w3 ⟨A3, c3, rfl, ho3, hb3⟩
   have HB3 := Lib.hid (((HB2.out.mono HBS.out).alloc hbs2 (.cells #[.int .i64 r, .int .i64 c] 105)).trans hb3)
   have HO3 := Lib.hid ho3
   clear ho3 hb3 s0 s1
   go_wp2_with fail
   go_ret
   exact ⟨A3, c3, rfl, HO3.out, HB3.out⟩
  ·rw [if_neg hzn] at hzp
   subst hzp
   go_enter Tryz.func124, Tryz.ntmps124
   go_wp2_with fail
   rw [← HW.out, ← HG.out]
   refine HF.out.mono ?_
   rintro e w1 ⟨rfl, hb1⟩
   have HI1 := Lib.hid (is_below HI0.out hb1 (is_lt HI0.out))
   have HO1 := Lib.hid (below_ownK HO0.out hb1)
   have HB1 := Lib.hid (HB0.out.trans (hb1.mono HB0.out.size))
   obtain ⟨s0, s1⟩ := box2K HI1.out
   have hix := kindexFunc_c A cap l 161 _ _ hlm (enters_of Tryz.func161 (by kernel_rfl) rfl) w1 (own_atK HO1.out) (gtK_pred r G w1 l s1)
   rw [HZ.out] at hix
   have HIX := Lib.hid hix
   clear t0 t1 hb1 hix
   go_wp2_with fail
   refine HIX.out.mono ?_
   rintro e w2 ⟨rfl, hb2⟩
   have HI2 := Lib.hid (is_below HI1.out hb2 (is_lt HI1.out))
   have HO2 := Lib.hid (below_ownK HO1.out hb2)
   have HB2 := Lib.hid (HB1.out.trans (hb2.mono HB1.out.size))
   clear s0 s1 hb2
   obtain ⟨s0, s1⟩ := box2K HI2.out
   have hbs2 : B ≤ w2.heap.size := Nat.le_trans HBS.out HB2.out.size
   have HC2 := Lib.hid (HCALL.out w2 HI2.out HO2.out hbs2)
   go_wp2_with fail
   refine HC2.out.mono ?_
   rintro e w3 ⟨A3, c3, rfl, ho3, hb3⟩
   have HB3 := Lib.hid (((HB2.out.mono HBS.out).alloc hbs2 (.cells #[.int .i64 r, .int .i64 c] 105)).trans hb3)
   have HO3 := Lib.hid ho3
   clear ho3 hb3 s0 s1
   go_wp2_with fail
   go_ret
   exact ⟨A3, c3, rfl, HO3.out, HB3.out⟩
end Go.Proofs.YthhckdjagnlgpaaGreat
end
section
namespace Go.Proofs.YthhckdjagnlgpaaGreat
open Go.RowKit Go.IntWalk
set_option maxRecDepth 100000
attribute [local go_sem] Oper.semAt_some
theorem hold2K {p q : Addr} {u v : Value} {w1 W W' : World} (h : W.cell? p = some u ∧ W.cell? q = some v ∧ Below w1.heap.size w1 W) (hb : Below W.heap.size W W') : W'.cell? p = some u ∧ W'.cell? q = some v ∧ Below w1.heap.size w1 W' :=
 ⟨keep_cell hb h.1, keep_cell hb h.2.1, h.2.2.trans (hb.mono h.2.2.size)⟩
theorem hold2sK {p q : Addr} {u v : Value} {w1 : World} (h0 : w1.cell? p = some u) (h1 : w1.cell? q = some v) : w1.drew.cell? p = some u ∧ w1.drew.cell? q = some v ∧ Below w1.heap.size w1 w1.drew := ⟨h0, h1, (Below.refl _ _).drew⟩
theorem hold2bK {p q : Addr} {u v : Value} {w1 W : World} (h : W.cell? p = some u ∧ W.cell? q = some v ∧ Below w1.heap.size w1 W) : Below w1.heap.size w1 W := h.2.2
theorem hold2NK {N : Nat} {p q : Addr} {u v : Value} {w1 W W' : World} (h : W.cell? p = some u ∧ W.cell? q = some v ∧ Below w1.heap.size w1 W) (hb : Below N W W') (hN : w1.heap.size ≤ N) (hp : p.block < w1.heap.size) (hq : q.block < w1.heap.size) : W'.cell? p = some u ∧ W'.cell? q = some v ∧ Below w1.heap.size w1 W' :=
 ⟨(hb.cell (Nat.lt_of_lt_of_le hp hN)).trans h.1, (hb.cell (Nat.lt_of_lt_of_le hq hN)).trans h.2.1, h.2.2.trans (hb.mono hN)⟩
/-- what only turns memory above B, and B not below what was there -/
theorem own_lowK {w : World} {B B2 : Nat} {e : TypeId} {size : Nat} {v : Value} {n : Nat} {xs : List Value} (h : w.ownsRow B e size v n xs) (hB : B2 ≤ B) : w.ownsRow B2 e size v n xs := by
 refine ⟨h.1, ?_⟩
 rcases h.2 with h | ⟨g, cap, cur, hv, hg, r⟩
 ·exact .inl h
 ·exact .inr ⟨g, cap, cur, hv, Nat.le_trans hB hg, r⟩
/-- marks that are told -/
def ToldK (N : List Mk) (w : World) (e : Ending) (w' : World) : Prop := ∃ A c, e = .returned (.slice A N.length c) ∧ At w' w'.heap.size A (kvs N) ∧ (A = none → c = 0) ∧ N.length ≤ c ∧ Below w.heap.size w w'
theorem FreshK.told {N : List Mk} {w w' : World} {e : Ending} (h : FreshK N w e w') : ToldK N w e w' := by
 obtain ⟨A, c, rfl, ho, hb⟩ := h
 obtain ⟨A', c', hv, ha, _, hc⟩ := own_at ho
 cases hv
 exact ⟨A, c, rfl, ha, own_noneK ho, hc, hb⟩
set_option maxHeartbeats 4000000 in
theorem kRaise_c (A : Option Addr) (cap : Nat) (l : List Mk) (c r : Int) (hl : l.length ≤ 50000) (hA : A = none → cap = 0) (w : World) (hc : At w w.heap.size A (kvs l)) :
  Calls Tryz.prog 150 #[.slice A l.length cap, .agg #[.int .i64 c, .int .i64 r]] w (FreshK (raiseK l c r) w) := by
 obtain ⟨w0, hw0⟩ : ∃ w0, w0 = w.alloc (.cells #[.int .i64 c, .int .i64 r] 51) := ⟨_, rfl⟩
 have hb0 : Below w.heap.size w w0 := by rw [hw0]; exact (Below.refl _ _).alloc (Nat.le_refl _) _
 have hI0 : Is w0 w.heap.size 51 [.int .i64 c, .int .i64 r] := by rw [hw0]; exact is_new w 51 _
 obtain ⟨G, hG⟩ : ∃ G, G = w.heap.size := ⟨_, rfl⟩
 rw [← hG] at hI0
 obtain ⟨t0, t1⟩ := box2K hI0
 have hGl : G < w0.heap.size := is_lt hI0
 have HC := Lib.hid (hc.keep hb0)
 have HG := Lib.hid hG
 have HW := Lib.hid hw0
 have HB0 := Lib.hid hb0
 have HA := Lib.hid hA
 clear hw0 hb0 hI0 hG hc hA
 go_enter Tryz.func150, Tryz.ntmps150
 go_wp2_with fail
 rw [← HW.out, ← HG.out]
 go_region_held3 (fun w' => w'.cell? ⟨G, 0, none⟩ = some (.int .i64 c) ∧ w'.cell? ⟨G, 1, none⟩ = some (.int .i64 r) ∧ Below w0.heap.size w0 w')
  (first
   | (exact hold2K (by assumption) hbn)
   | (exact hold2NK (by assumption) hbr (Nat.le_refl _) hGl hGl)
   | (exact hold2dK (by assumption))
   | (exact hold2sK t0 t1)
   | go_keep)
  (first
   | (go_at_call 123; refine (kclone_c A cap l (by omega) HA.out _ (HC.out.keep (hold2bK (by assumption)))).mono ?_; rintro e wa ⟨E1, f1, rfl, hown, hbn⟩)
   | (go_at_call 124; refine (kraise_c _ E1 f1 l c r hl _ hbn.size hown).mono ?_; rintro e wb ⟨E2, f2, rfl, hown2, hbr⟩))
 have HO := Lib.hid (own_lowK hown2 HB0.out.size)
 have HBZ := Lib.hid (HB0.out.trans ((hold2bK (by assumption) : Below w0.heap.size w0 wb).mono HB0.out.size))
 clear t0 t1 hown hown2 hbn hbr
 go_wp2_with fail
 go_ret
 exact ⟨E2, f2, rfl, HO.out, HBZ.out⟩
theorem kRaise_k {A : Option Addr} {cap : Nat} {l N : List Mk} {c r : Int} (h : raiseK l c r = N) (hl : l.length ≤ 50000) (hA : A = none → cap = 0) {w : World} (hc : At w w.heap.size A (kvs l)) :
  Calls Tryz.prog 150 #[.slice A l.length cap, .agg #[.int .i64 c, .int .i64 r]] w (FreshK N w) := by
 subst h; exact kRaise_c A cap l c r hl hA w hc
set_option maxHeartbeats 4000000 in
theorem kjoin_c (A1 A2 : Option Addr) (c1 c2 : Nat) (a b : List Mk) (hl : a.length + b.length ≤ 40000) (hA : A1 = none → c1 = 0) (w : World) (h1 : At w w.heap.size A1 (kvs a)) (h2 : At w w.heap.size A2 (kvs b)) :
  Calls Tryz.prog 63 #[.slice A1 a.length c1, .slice A2 b.length c2] w (FreshK (joinK a b) w) := by
 have H2 := Lib.hid h2
 have HCL := Lib.hid (kclone_c A1 c1 a (by omega) hA w h1)
 clear h1 h2 hA
 go_enter Tryz.func63, Tryz.ntmps63
 go_wp2_with fail
 refine HCL.out.mono ?_
 rintro e w1 ⟨A3, c3, rfl, hown, hb1⟩
 have HO := Lib.hid hown
 have HB := Lib.hid hb1
 clear hown hb1
 go_wp2_with fail
 go_loopw [5, 12] (fun v i wr => ∃ (k : Nat) (A : Option Addr) (cp : Nat), i = .int .i64 (k : Int) ∧ k ≤ b.length ∧ v = .slice A (joinK a (b.take k)).length cp ∧ wr.ownsRow w.heap.size 105 2 (.slice A (joinK a (b.take k)).length cp) (joinK a (b.take k)).length (kvs (joinK a (b.take k))) ∧ Below w.heap.size w wr) (fun _ i _ => b.length - (intOf i).toNat)
 case atStart => exact ⟨0, A3, c3, rfl, Nat.zero_le _, rfl, HO.out, HB.out⟩
 case round =>
  obtain ⟨k, A, cp, rfl, hk, rfl, hown, hbw⟩ := hrel
  have HOW := Lib.hid hown
  have HBW := Lib.hid hbw
  clear hown hbw
  by_cases hlt : k < b.length
  ·obtain ⟨m, hm⟩ := some_at hlt
   obtain ⟨b0, o0, rfl, -, x0, x1⟩ := mark_cells (H2.out.keep HBW.out) hm
   have hk0 : (0 : Int) ≤ (k : Int) := by omega
   have hkl : (k : Int) < (b.length : Int) := by omega
   have HST := Lib.hid (joinK_take (a := a) hm)
   have hjl := joinK_len a (b.take k)
   rw [List.length_take] at hjl
   obtain ⟨W, hW⟩ : ∃ W, W = wr.alloc (.cells #[.int .i64 (kr m), .int .i64 (kc m)] 105) := ⟨_, rfl⟩
   have hbx : Below wr.heap.size wr W := by rw [hW]; exact (Below.refl _ _).alloc (Nat.le_refl _) _
   have hox := below_ownK HOW.out hbx
   have HR := Lib.hid (kraise_c w.heap.size A cp (joinK a (b.take k)) (kc m) (kr m) (by omega) W (Nat.le_trans HBW.out.size hbx.size) hox)
   have HBX := Lib.hid (HBW.out.trans (hbx.mono HBW.out.size))
   have HWW := Lib.hid hW
   rw [← HST.out] at HR
   clear hm hbx hox hW
   go_wp2_with fail
   rw [← HWW.out]
   refine HR.out.mono ?_
   rintro e w3 ⟨A5, c5, rfl, ho5, hb5⟩
   have HO5 := Lib.hid ho5
   have HB5 := Lib.hid (HBX.out.trans hb5)
   clear ho5 hb5 x0 x1
   go_wp2_with fail
   go_roundw
   case rel => exact ⟨k + 1, A5, c5, by go_num, by omega, rfl, HO5.out, HB5.out⟩
   case measure => simp only [intOf]; omega
  ·obtain rfl : k = b.length := by omega
   have ho := HOW.out
   rw [List.take_length] at ho ⊢
   have HOZ := Lib.hid ho
   clear ho HOW
   go_wp2_with fail
   go_ret
   exact ⟨A, cp, rfl, HOZ.out, HBW.out⟩
set_option maxHeartbeats 4000000 in
theorem kof_c (A2 : Option Addr) (c2 : Nat) (b : List Mv) (hl : b.length ≤ 40000) (w : World) (h2 : At w w.heap.size A2 (mvs b)) :
  Calls Tryz.prog 64 #[.slice A2 b.length c2] w (FreshK (ofK b) w) := by
 have H2 := Lib.hid h2
 clear h2
 go_enter Tryz.func64, Tryz.ntmps64
 go_wp2_with fail
 go_loopw [3, 8] (fun v i wr => ∃ (k : Nat) (A : Option Addr) (cp : Nat), i = .int .i64 (k : Int) ∧ k ≤ b.length ∧ v = .slice A (ofK (b.take k)).length cp ∧ wr.ownsRow w.heap.size 105 2 (.slice A (ofK (b.take k)).length cp) (ofK (b.take k)).length (kvs (ofK (b.take k))) ∧ Below w.heap.size w wr) (fun _ i _ => b.length - (intOf i).toNat)
 case atStart => exact ⟨0, none, 0, rfl, Nat.zero_le _, rfl, World.ownsRow_nil _ _ _ _, Below.refl _ _⟩
 case round =>
  obtain ⟨k, A, cp, rfl, hk, rfl, hown, hbw⟩ := hrel
  have HOW := Lib.hid hown
  have HBW := Lib.hid hbw
  clear hown hbw
  by_cases hlt : k < b.length
  ·obtain ⟨m, hm⟩ := some_at hlt
   obtain ⟨b0, o0, rfl, -, x0, x1, x2, x3, x4, x5⟩ := move_cells (H2.out.keep HBW.out) hm
   have hk0 : (0 : Int) ≤ (k : Int) := by omega
   have hkl : (k : Int) < (b.length : Int) := by omega
   have HST := Lib.hid (ofK_take hm)
   have hjl := ofK_len (b.take k)
   rw [List.length_take] at hjl
   obtain ⟨W, hW⟩ : ∃ W, W = wr.alloc (.cells #[.int .i64 (mc m), .int .i64 (mr m), .int .i64 (pa (mw m)), .int .i64 (ch (mw m)), .string (ba (nm (mw m))), .float .f64 (rk (mw m))] 57) := ⟨_, rfl⟩
   have hbx : Below wr.heap.size wr W := by rw [hW]; exact (Below.refl _ _).alloc (Nat.le_refl _) _
   have hox := below_ownK HOW.out hbx
   have HR := Lib.hid (kraise_c w.heap.size A cp (ofK (b.take k)) (mc m) (mr m) (by omega) W (Nat.le_trans HBW.out.size hbx.size) hox)
   have HBX := Lib.hid (HBW.out.trans (hbx.mono HBW.out.size))
   have HWW := Lib.hid hW
   rw [← HST.out] at HR
   clear hm hbx hox hW
   go_wp2_with fail
   rw [← HWW.out]
   refine HR.out.mono ?_
   rintro e w3 ⟨A5, c5, rfl, ho5, hb5⟩
   have HO5 := Lib.hid ho5
   have HB5 := Lib.hid (HBX.out.trans hb5)
   clear ho5 hb5 x0 x1 x2 x3 x4 x5
   go_wp2_with fail
   go_roundw
   case rel => exact ⟨k + 1, A5, c5, by go_num, by omega, rfl, HO5.out, HB5.out⟩
   case measure => simp only [intOf]; omega
  ·obtain rfl : k = b.length := by omega
   have ho := HOW.out
   rw [List.take_length] at ho ⊢
   have HOZ := Lib.hid ho
   clear ho HOW
   go_wp2_with fail
   go_ret
   exact ⟨A, cp, rfl, HOZ.out, HBW.out⟩
end Go.Proofs.YthhckdjagnlgpaaGreat
end
