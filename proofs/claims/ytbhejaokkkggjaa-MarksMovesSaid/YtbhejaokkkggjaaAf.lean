/-
  Marks that are raised by a time: the program's.
-/
import Derived.Test.YtbhejaokkkggjaaAe
namespace Go.Proofs.Ytbhejaokkkggjaa
open Go.RowKit Go.IntWalk
set_option maxRecDepth 100000
attribute [local go_sem] Oper.semAt_some

theorem own_setK {w : World} {B g size n cap i : Nat} {e : TypeId} {xs : List Value} (h : w.ownsRow B e size (.slice (some ⟨g, 0, none⟩) n cap) n xs) (u : Value) :
    (w.setCell ⟨g, i, none⟩ u).ownsRow B e size (.slice (some ⟨g, 0, none⟩) n cap) n (xs.set i u) := by
  refine ⟨by rw [List.length_set]; exact h.1, ?_⟩
  rcases h.2 with ⟨h1, _⟩ | ⟨g', cap', cur, hv, hb, hg, h1, h2, h3, h4⟩
  · cases h1
  · cases hv
    refine .inr ⟨g, cap, cur.setIfInBounds i u, rfl, hb, ?_, h1, h2, by simpa using h3, ?_⟩
    · have := heap_setCell_same w g i cur e u hg
      simpa using this
    · rw [Array.toList_setIfInBounds, ← h4, List.take_set]
theorem own_headK {w : World} {B n cap : Nat} {A : Option Addr} {xs : List Value} {k : Nat} (h : w.ownsRow B 70 2 (.slice A n cap) n xs) (hk : k < n) : ∃ g, A = some ⟨g, 0, none⟩ ∧ B ≤ g ∧ cap ≤ maxLen ∧ ∀ j, w.frozen? ⟨g, j, none⟩ = false := by
  obtain ⟨hl, ⟨hz, h0⟩ | ⟨g2, c2, cur, hv, hb, hg, hn, hm, hs, ht⟩⟩ := h
  · omega
  cases hv
  exact ⟨g2, rfl, hb, hm, fun j => by simp [World.frozen?, hg]⟩
theorem own_ltK {w : World} {B n cap : Nat} {A : Option Addr} {xs : List Value} {k : Nat} (h : w.ownsRow B 70 2 (.slice A n cap) n xs) (hk : k < n) : ∃ g, ∃ _ : True, A = some ⟨g, 0, none⟩ ∧ True ∧ g < w.heap.size ∧ True := by
  obtain ⟨hl, ⟨hz, h0⟩ | ⟨g2, c2, cur, hv, hb, hg, hn, hm, hs, ht⟩⟩ := h
  · omega
  cases hv
  exact ⟨g2, trivial, rfl, trivial, (Array.getElem?_eq_some_iff.1 hg).1, trivial⟩
theorem below_ownK {w w' : World} {B size n : Nat} {e : TypeId} {v : Value} {xs : List Value} (h : w.ownsRow B e size v n xs) (hb : Below w.heap.size w w') : w'.ownsRow B e size v n xs := by
  refine ⟨h.1, ?_⟩
  rcases h.2 with hz | ⟨g, cap, cur, hv, hB, hg, r⟩
  · exact .inl hz
  · exact .inr ⟨g, cap, cur, hv, hB, (hb.block g (Array.getElem?_eq_some_iff.1 hg).1).trans hg, r⟩
theorem own_atK {w : World} {B n cap : Nat} {A : Option Addr} {e : TypeId} {size : Nat} {xs : List Value} (h : w.ownsRow B e size (.slice A n cap) n xs) : At w w.heap.size A xs := by
  obtain ⟨A', c', hv, ha, _⟩ := own_at h
  cases hv; exact ha
theorem box2K {w : World} {G : Nat} {t : TypeId} {c r : Int} (h : Is w G t [.int .i64 c, .int .i64 r]) : w.cell? ⟨G, 0, none⟩ = some (.int .i64 c) ∧ w.cell? ⟨G, 1, none⟩ = some (.int .i64 r) := ⟨is_cell h 0, is_cell h 1⟩

set_option maxHeartbeats 8000000 in
theorem kraise_c (B : Nat) (A : Option Addr) (cap : Nat) (l : List Mk) (c r : Int) (hl : l.length ≤ 50000) (w : World) (hB : B ≤ w.heap.size) (hown : w.ownsRow B 70 2 (.slice A l.length cap) l.length (kvs l)) :
    Calls Try.prog 75 #[.slice A l.length cap, .agg #[.int .i64 c, .int .i64 r]] w (InsK B (raiseK l c r) w) := by
  have hlm : l.length ≤ maxLen := by unfold maxLen; omega
  have hmf : ∀ (fn : Fn) (first cap : Array Value) (w : World), (Instr.makeFunc fn first cap).run Try.prog w = .ok (.func fn first cap) w := fun _ _ _ _ => rfl
  obtain ⟨w0, hw0⟩ : ∃ w0, w0 = w.alloc (.cells #[.int .i64 c, .int .i64 r] 35) := ⟨_, rfl⟩
  have hb0 : Below w.heap.size w w0 := by rw [hw0]; exact (Below.refl _ _).alloc (Nat.le_refl _) _
  have hI0 : Is w0 w.heap.size 35 [.int .i64 c, .int .i64 r] := by rw [hw0]; exact is_new w 35 _
  have ho0 := below_ownK hown hb0
  have hf := kfirst_c A cap l r hlm w0 (own_atK ho0)
  obtain ⟨G, hG⟩ : ∃ G, G = w.heap.size := ⟨_, rfl⟩
  rw [← hG] at hI0
  obtain ⟨t0, t1⟩ := box2K hI0
  have HG := Lib.hid hG
  have HW := Lib.hid hw0
  have HB0 := Lib.hid hb0
  have HI0 := Lib.hid hI0
  have HO0 := Lib.hid ho0
  have HF := Lib.hid hf
  have HBS := Lib.hid hB
  have hcases := raiseK_cases l c r
  clear hw0 hb0 hI0 ho0 hf hG hB hown
  rcases hcases with ⟨k, x, h1, h2, h3, h4, h5⟩ | ⟨h1, ⟨h2, h3⟩ | ⟨h2, h3⟩⟩
  · rw [h1] at HF
    rw [h5]
    obtain ⟨g, rfl, hBg, hcm, -⟩ := own_headK HO0.out h3
    have HX := Lib.hid h2
    have hk0 : (k : Int) ≥ 0 := by omega
    have hk1 : (0 : Int) ≤ (k : Int) := by omega
    have hkl : (k : Int) < (l.length : Int) := by omega
    clear h1 h2 h5
    go_enter Try.func75, Try.ntmps75
    go_wp2_with fail
    rw [← HW.out, ← HG.out]
    refine HF.out.mono ?_
    rintro e w1 ⟨rfl, hb1⟩
    have HI1 := Lib.hid (is_below HI0.out hb1 (is_lt HI0.out))
    have HO1 := Lib.hid (below_ownK HO0.out hb1)
    have HB1 := Lib.hid (HB0.out.trans (hb1.mono HB0.out.size))
    obtain ⟨_, _, e0, -, q0, q1⟩ := mark_cells (own_atK HO1.out) HX.out
    cases e0
    obtain ⟨g', e1, -, -, hfz⟩ := own_headK HO1.out h3
    cases e1
    obtain ⟨s0, s1⟩ := box2K HI1.out
    have f1 := hfz (k * 2 + 1)
    rw [Nat.zero_add] at q0 q1
    clear t0 t1 hb1 hfz
    go_wp2_with fail
    go_region
    have hmx : (if kc x < c then c else kc x) = max (kc x) c := by split <;> omega
    have hset := own_setK HO1.out (.int .i64 (if kc x < c then c else kc x)) (i := k * 2 + 1)
    rw [kvs_setc _ HX.out, hmx] at hset
    rw [hmx]
    have HS := Lib.hid hset
    have HBZ := Lib.hid (((HB1.out.mono HBS.out).setCell (p := ⟨g, k * 2 + 1, none⟩) hBg (.int .i64 (max (kc x) c))).drew)
    clear q0 q1 f1 s0 s1 hset hmx
    go_wp2_with fail
    go_ret
    exact ⟨some ⟨g, 0, none⟩, cap, by rw [List.length_set]; rfl, by rw [List.length_set]; exact HS.out, HBZ.out⟩
  · rw [h1] at HF
    rw [h3]
    have hc0 : (c : Int) ≤ 0 := h2
    clear h1 h2 h3
    go_enter Try.func75, Try.ntmps75
    go_wp2_with fail
    rw [← HW.out, ← HG.out]
    refine HF.out.mono ?_
    rintro e w1 ⟨rfl, hb1⟩
    have HI1 := Lib.hid (is_below HI0.out hb1 (is_lt HI0.out))
    have HO1 := Lib.hid (below_ownK HO0.out hb1)
    have HB1 := Lib.hid (HB0.out.trans (hb1.mono HB0.out.size))
    obtain ⟨s0, s1⟩ := box2K HI1.out
    clear t0 t1 hb1
    go_wp2_with fail
    go_ret
    exact ⟨A, cap, rfl, HO1.out, HB1.out.mono HBS.out⟩
  · rw [h1] at HF
    have hc0 : ¬ (c : Int) ≤ 0 := by omega
    have hle := raiseK_len l c r
    obtain ⟨z, p, hz, hzp, hins⟩ : ∃ (z : Int) (p : Nat), idxK (gtK r) l = z ∧ (if z < 0 then (l.length : Int) else z) = (p : Int) ∧ ((p < l.length ∧ ¬ z < 0 ∧ raiseK l c r = l.take p ++ (r, c) :: l.drop p) ∨ (p = l.length ∧ z < 0 ∧ raiseK l c r = l ++ [(r, c)])) := by
      rcases h3 with ⟨k, g1, g2, g3⟩ | ⟨g1, g2⟩
      · exact ⟨k, k, g1, by rw [if_neg (by omega)], .inl ⟨g2, by omega, g3⟩⟩
      · exact ⟨-1, l.length, g1, by rw [if_pos (by omega)], .inr ⟨rfl, by omega, g2⟩⟩
    have HZ := Lib.hid hz
    have HINS := Lib.hid hins
    clear h1 h2 h3 hz
    -- the call of slices.Insert, wherever it is made
    have hcall : ∀ (W : World), Is W G 35 [.int .i64 c, .int .i64 r] → W.ownsRow B 70 2 (.slice A l.length cap) l.length (kvs l) → B ≤ W.heap.size →
        Calls Try.prog 99 #[.slice A l.length cap, .int .i64 (p : Int), .slice (some ⟨W.heap.size, 0, none⟩) 1 1] (W.alloc (.cells #[.int .i64 r, .int .i64 c] 70)) (InsK B (raiseK l c r) (W.alloc (.cells #[.int .i64 r, .int .i64 c] 70))) := fun W hI hO hBW => by
      have hbw : Below W.heap.size W (W.alloc (.cells #[.int .i64 r, .int .i64 c] 70)) := (Below.refl _ _).alloc (Nat.le_refl _) _
      have hO2 := below_ownK hO hbw
      have hv : Is (W.alloc (.cells #[.int .i64 r, .int .i64 c] 70)) W.heap.size 70 (kcs (r, c)) := is_new W 70 (kcs (r, c))
      have hB2 : B ≤ (W.alloc (.cells #[.int .i64 r, .int .i64 c] 70)).heap.size := by simp; omega
      rcases HINS.out with ⟨g1, _, g3⟩ | ⟨rfl, _, g3⟩
      · rw [g3]
        obtain ⟨g, rfl, hBg, hcm, -⟩ := own_headK hO2 (k := p) g1
        have hgW : g < W.heap.size := by
          obtain ⟨_, _, e, _, hlt, _⟩ := own_ltK hO g1
          cases e; exact hlt
        by_cases hroom : l.length + 1 ≤ cap
        · exact kinsert_room B g cap p _ l (r, c) (by omega) g1 hroom _ hO2 hv (by omega)
        · exact kinsert_grow B g cap p _ l (r, c) (by omega) g1 hroom _ hB2 hO2 hv
      · rw [g3]
        exact kinsert_end B _ l (r, c) A cap (by omega) _ hB2 hO2 hv
    have HCALL := Lib.hid hcall
    clear hcall
    by_cases hzn : z < 0
    · rw [if_pos hzn] at hzp
      have HZP := Lib.hid hzp
      clear hzp
      go_enter Try.func75, Try.ntmps75
      go_wp2_with fail
      rw [← HW.out, ← HG.out]
      refine HF.out.mono ?_
      rintro e w1 ⟨rfl, hb1⟩
      have HI1 := Lib.hid (is_below HI0.out hb1 (is_lt HI0.out))
      have HO1 := Lib.hid (below_ownK HO0.out hb1)
      have HB1 := Lib.hid (HB0.out.trans (hb1.mono HB0.out.size))
      obtain ⟨s0, s1⟩ := box2K HI1.out
      have hix := kindexFunc_c A cap l 98 _ _ hlm (enters_of Try.func98 (by kernel_rfl) rfl) w1 (own_atK HO1.out) (gtK_pred r G w1 l s1)
      rw [HZ.out] at hix
      have HIX := Lib.hid hix
      clear t0 t1 hb1 hix
      go_wp2_with fail
      refine HIX.out.mono ?_
      rintro e w2 ⟨rfl, hb2⟩
      have HI2 := Lib.hid (is_below HI1.out hb2 (is_lt HI1.out))
      have HO2 := Lib.hid (below_ownK HO1.out hb2)
      have HB2 := Lib.hid (HB1.out.trans (hb2.mono HB1.out.size))
      clear s0 s1 hb2
      obtain ⟨s0, s1⟩ := box2K HI2.out
      have hbs2 : B ≤ w2.heap.size := Nat.le_trans HBS.out HB2.out.size
      have HC2 := Lib.hid (HCALL.out w2 HI2.out HO2.out hbs2)
      go_wp2_with fail
      rw [HZP.out]
      refine HC2.out.mono ?_
      rintro e w3 ⟨A3, c3, rfl, ho3, hb3⟩
      have HB3 := Lib.hid (((HB2.out.mono HBS.out).alloc hbs2 (.cells #[.int .i64 r, .int .i64 c] 70)).trans hb3)
      have HO3 := Lib.hid ho3
      clear ho3 hb3 s0 s1
      go_wp2_with fail
      go_ret
      exact ⟨A3, c3, rfl, HO3.out, HB3.out⟩
    · rw [if_neg hzn] at hzp
      subst hzp
      go_enter Try.func75, Try.ntmps75
      go_wp2_with fail
      rw [← HW.out, ← HG.out]
      refine HF.out.mono ?_
      rintro e w1 ⟨rfl, hb1⟩
      have HI1 := Lib.hid (is_below HI0.out hb1 (is_lt HI0.out))
      have HO1 := Lib.hid (below_ownK HO0.out hb1)
      have HB1 := Lib.hid (HB0.out.trans (hb1.mono HB0.out.size))
      obtain ⟨s0, s1⟩ := box2K HI1.out
      have hix := kindexFunc_c A cap l 98 _ _ hlm (enters_of Try.func98 (by kernel_rfl) rfl) w1 (own_atK HO1.out) (gtK_pred r G w1 l s1)
      rw [HZ.out] at hix
      have HIX := Lib.hid hix
      clear t0 t1 hb1 hix
      go_wp2_with fail
      refine HIX.out.mono ?_
      rintro e w2 ⟨rfl, hb2⟩
      have HI2 := Lib.hid (is_below HI1.out hb2 (is_lt HI1.out))
      have HO2 := Lib.hid (below_ownK HO1.out hb2)
      have HB2 := Lib.hid (HB1.out.trans (hb2.mono HB1.out.size))
      clear s0 s1 hb2
      obtain ⟨s0, s1⟩ := box2K HI2.out
      have hbs2 : B ≤ w2.heap.size := Nat.le_trans HBS.out HB2.out.size
      have HC2 := Lib.hid (HCALL.out w2 HI2.out HO2.out hbs2)
      go_wp2_with fail
      refine HC2.out.mono ?_
      rintro e w3 ⟨A3, c3, rfl, ho3, hb3⟩
      have HB3 := Lib.hid (((HB2.out.mono HBS.out).alloc hbs2 (.cells #[.int .i64 r, .int .i64 c] 70)).trans hb3)
      have HO3 := Lib.hid ho3
      clear ho3 hb3 s0 s1
      go_wp2_with fail
      go_ret
      exact ⟨A3, c3, rfl, HO3.out, HB3.out⟩
end Go.Proofs.Ytbhejaokkkggjaa
