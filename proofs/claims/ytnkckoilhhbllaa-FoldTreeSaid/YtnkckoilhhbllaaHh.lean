/-
  Steps that go back: the program's, and the document's.
-/
import Derived.Test.YtnkckoilhhbllaaHc
import Derived.Test.YtnkckoilhhbllaaHd
import Derived.Test.YtnkckoilhhbllaaPc
namespace Go.Proofs.Ytnkckoilhhbllaa
open Go.RowKit Go.IntWalk
open Gr
set_option maxRecDepth 100000
attribute [local go_sem] Oper.semAt_some

theorem backP_step {l : List Rw} {ss : List Sp} {k : Nat} {s : Sp} (h : ss[k]? = some s) : backP l (ss.drop k) = undoP (backP l (ss.drop (k + 1))) s := by
  obtain ⟨hk, he⟩ := List.getElem?_eq_some_iff.1 h
  rw [List.drop_eq_getElem_cons hk, he]; rfl

set_option maxHeartbeats 4000000 in
theorem ruback_c (A A2 : Option Addr) (cap cap2 : Nat) (l : List Rw) (ss : List Sp) (hl : l.length + ss.length ≤ 100000) (hA : A = none → cap = 0) (hcap : l.length ≤ cap) (w : World) (hc : At w w.heap.size A (tvs l)) (hc2 : At w w.heap.size A2 (pvs ss)) :
    Calls Try.prog 47 #[.slice A l.length cap, .slice A2 ss.length cap2] w (Told_ (backP l ss) w) := by
  have HC2 := Lib.hid hc2
  have hw0 : IntKind.i64.wrap ((ss.length : Int) - 1) = (ss.length : Int) - 1 := IntWalk.i64_in _ (by omega)
  clear hc2
  go_enter Try.func47, Try.ntmps47
  go_wp2_with fail
  go_loopw [0, 5] (fun s i wr => ∃ (k : Nat) (A' : Option Addr) (cap' : Nat), i = .int .i64 ((k : Int) - 1) ∧ k ≤ ss.length ∧ s = .slice A' (backP l (ss.drop k)).length cap' ∧ At wr wr.heap.size A' (tvs (backP l (ss.drop k))) ∧ (A' = none → cap' = 0) ∧ (backP l (ss.drop k)).length ≤ cap' ∧ Below w.heap.size w wr)
    (fun _ i _ => (intOf i + 1).toNat)
  case atStart => exact ⟨ss.length, A, cap, rfl, Nat.le_refl _, by rw [List.drop_length]; rfl, by rw [List.drop_length]; exact hc, hA, by rw [List.drop_length]; exact hcap, Below.refl _ _⟩
  case round =>
    clear hc hA hcap
    obtain ⟨k, A', cap', rfl, hk, rfl, hat, hA', hcp, hbw⟩ := hrel
    have HAT := Lib.hid hat
    have HA' := Lib.hid hA'
    have HBW := Lib.hid hbw
    clear hat hA' hbw hw0
    cases k with
    | zero =>
      have hz : ¬ (0 : Int) ≤ ((0 : Nat) : Int) - 1 := by omega
      go_wp2_with fail
      go_ret
      exact ⟨A', cap', rfl, HAT.out, HA'.out, hcp, HBW.out⟩
    | succ k =>
      obtain ⟨z, hz⟩ : ∃ z : Int, z = (((k + 1 : Nat) : Int) - 1) := ⟨_, rfl⟩
      have hz2 : z = (k : Int) := by omega
      rw [← hz, hz2]
      clear hz hz2
      obtain ⟨s, hs⟩ := some_at (show k < ss.length by omega)
      obtain ⟨b0, o0, rfl, -, q0, q1, q2, q3, q4, q5, q6, q7, q8, q9, q10, q11⟩ := step_cells (HC2.out.keep HBW.out) hs
      have hk0 : (0 : Int) ≤ (k : Int) := by omega
      have hkn : (k : Int) < (ss.length : Int) := by omega
      have hwk : IntKind.i64.wrap ((k : Int) - 1) = (k : Int) - 1 := IntWalk.i64_in _ (by omega)
      have hln : (backP l (ss.drop (k + 1))).length ≤ 100000 := by have := backP_len l (ss.drop (k + 1)); rw [List.length_drop] at this; omega
      have HST := Lib.hid (backP_step (l := l) hs)
      obtain ⟨L, hL⟩ : ∃ L, backP l (ss.drop (k + 1)) = L := ⟨_, rfl⟩
      have hat := HAT.out
      rw [hL] at hcp hln hat ⊢
      rw [hL] at HST
      have HAT2 := Lib.hid hat
      clear hs hL HAT hat
      go_wp2_with fail
      show Calls _ _ #[_, pv s] _ _
      refine (rundo_c A' cap' L s hln HA'.out hcp _ HAT2.out).mono ?_
      rintro e w2 ⟨A3, cap3, rfl, hat3, hn3, hcp3, hb3⟩
      have HAT3 := Lib.hid hat3
      clear hat3 q0 q1 q2 q3 q4 q5 q6 q7 q8 q9 q10 q11
      go_wp2_with fail
      go_roundw
      case rel => exact ⟨k, A3, cap3, rfl, by omega, by rw [HST.out], by rw [HST.out]; exact HAT3.out, hn3, by rw [HST.out]; exact hcp3, HBW.out.trans (hb3.mono HBW.out.size)⟩
      case measure => simp only [intOf]; omega

/-- what the rounds keep: all but the block of the rows -/
def KpB (n0 b0 : Nat) (X Y : World) : Prop := X.heap.size ≤ Y.heap.size ∧ ∀ k, k < n0 → k ≠ b0 → Y.heap[k]? = X.heap[k]?
theorem KpB.trans {n0 b0 : Nat} {X Y Z : World} (h : KpB n0 b0 X Y) (k : KpB n0 b0 Y Z) : KpB n0 b0 X Z := ⟨Nat.le_trans h.1 k.1, fun i h1 h2 => (k.2 i h1 h2).trans (h.2 i h1 h2)⟩
theorem KpB.below {n0 b0 : Nat} {X Y : World} (hn : n0 ≤ X.heap.size) (h : Below X.heap.size X Y) : KpB n0 b0 X Y := ⟨h.size, fun i h1 _ => h.block i (by omega)⟩
theorem cell_cells {w : World} {b i : Nat} {v : Value} (h : w.cell? ⟨b, i, none⟩ = some v) : ∃ cs t p, w.heap[b]? = some (.cells cs t p) := by
  unfold World.cell? at h
  simp only at h
  cases hb : w.heap[b]? with
  | none => rw [hb] at h; simp at h
  | some o =>
    rw [hb] at h
    cases o <;> first | exact ⟨_, _, _, rfl⟩ | (simp at h)
/-- what lies somewhere is left by what is no cells -/
theorem at_from {W W' : World} {A : Option Addr} {xs : List Value} {row : Option Nat} (h : At W W.heap.size A xs) (hg : W.grownBy W' row) (hr : ∀ r, row = some r → ∃ o : Obj, W.heap[r]? = some o ∧ o.isCells = false) : At W' W'.heap.size A xs := fun i v hv => by
  obtain ⟨b, off, hA, hlt, hc⟩ := h i v hv
  refine ⟨b, off, hA, Nat.lt_of_lt_of_le hlt hg.size, (cell_same (hg.block b hlt fun e => ?_) _).trans hc⟩
  obtain ⟨o, ho, hoc⟩ := hr b e.symm
  obtain ⟨cs, t, p, hb⟩ := cell_cells hc
  rw [ho] at hb
  cases hb
  cases hoc
theorem is_from {W W' : World} {G : Nat} {t : TypeId} {vs : List Value} {row : Option Nat} (h : Is W G t vs) (hg : W.grownBy W' row) (hr : ∀ r, row = some r → ∃ o : Obj, W.heap[r]? = some o ∧ o.isCells = false) : Is W' G t vs :=
  is_grown h hg fun e => by
    obtain ⟨o, ho, hoc⟩ := hr G e.symm
    rw [show W.heap[G]? = _ from h] at ho
    cases ho
    cases hoc
/-- the rows behind the told steps, where the program holds them -/
def HeldR (w : World) (A : Option Addr) (l L : List Rw) (W : World) : Prop :=
  ∃ A' cap', Is W w.heap.size 22 [.slice A' L.length cap'] ∧ At W W.heap.size A' (tvs L) ∧ (A' = none → cap' = 0) ∧ L.length ≤ cap' ∧ ((A' = A ∧ L = l) ∨ Fresh (w.heap.size + 1) A') ∧ Below w.heap.size w W
theorem HeldR.from {w : World} {A : Option Addr} {l L : List Rw} {W W' : World} {B : Nat} {row : Option Nat} (h : HeldR w A l L W) (hB : w.heap.size ≤ B) (hg : W.grownBy W' row) (hr : ∀ r, row = some r → B ≤ r ∧ ∃ o : Obj, W.heap[r]? = some o ∧ o.isCells = false) : HeldR w A l L W' := by
  obtain ⟨A', cap', h1, h2, h3, h4, h5, h6⟩ := h
  exact ⟨A', cap', is_from h1 hg fun r e => (hr r e).2, at_from h2 hg fun r e => (hr r e).2, h3, h4, h5, h6.grown hg h6.size fun k hk => Nat.le_trans hB (hr k hk).1⟩
theorem HeldR.keep {w : World} {A : Option Addr} {l L : List Rw} {W W' : World} (h : HeldR w A l L W) (hb : Below W.heap.size W W') : HeldR w A l L W' := by
  obtain ⟨A', cap', h1, h2, h3, h4, h5, h6⟩ := h
  exact ⟨A', cap', is_below h1 hb (is_lt h1), h2.keep hb, h3, h4, h5, h6.trans (hb.mono h6.size)⟩

set_option maxHeartbeats 8000000 in
theorem muback_in (A A2 : Option Addr) (cap cap2 : Nat) (l : List Rw) (ss : List Sp) (hl : l.length + ss.length ≤ 100000) (hA : A = none → cap = 0) (hcap : l.length ≤ cap) (w : World) (hc : At w w.heap.size A (tvs l)) (hc2 : At w w.heap.size A2 (pvs ss)) :
    CallsIn Fence.wide 4 Try.prog 46 #[.slice A l.length cap, .slice A2 ss.length cap2] w (Told_ (backP l ss) w) := by
  obtain ⟨W0, hW0⟩ : ∃ W0, W0 = (w.alloc (.cells #[.slice A l.length cap] 22)).alloc (.cells #[.slice A2 ss.length cap2] 53) := ⟨_, rfl⟩
  have hs0 : W0.heap.size = w.heap.size + 2 := by rw [hW0]; simp
  have hb0 : Below w.heap.size w W0 := by rw [hW0]; exact ((Below.refl w.heap.size w).alloc (Nat.le_refl _) _).alloc (by simp) _
  have hB0 : Is W0 w.heap.size 22 [.slice A l.length cap] := by rw [hW0]; exact is_alloc (is_new w 22 [.slice A l.length cap]) _
  have hQ0 : Is W0 (w.heap.size + 1) 53 [.slice A2 ss.length cap2] := by rw [hW0]; exact is_newA w 53 [.slice A2 ss.length cap2] _
  have hseq : SeqQ Fence.wide 3 Try.prog 111 #[.pointer (some ⟨w.heap.size + 1, 0, none⟩)] bkArr (KpB (w.heap.size + 2) w.heap.size) (fun A B => A = B) (fun s => s <+: bk ss ss.length) (fun ys _ => ys = bk ss ss.length) (fun pre _ => pre <+: bk ss ss.length) ss.length W0 :=
    back_stops 3 (by decide) (w.heap.size + 1) A2 cap2 ss (by omega) W0 _ _ (fun _ _ _ h k => h.trans k) (fun W h => KpB.below (by omega) h) (fun X => ⟨Nat.le_refl _, fun _ _ _ => rfl⟩)
      (fun X hx => by
        refine ⟨is_cell (show Is X (w.heap.size + 1) _ _ from (hx.2 _ (by omega) (by omega)).trans hQ0) 0, fun i v hv => ?_⟩
        obtain ⟨b, off, hA2, hlt, hcell⟩ := hc2 i v hv
        exact ⟨b, off, hA2, by have := hx.1; omega, (cell_same ((hx.2 b (by omega) (by omega)).trans (hb0.block b hlt)) _).trans hcell⟩)
  have HSEQ := Lib.hid hseq
  have HH0 := Lib.hid (show HeldR w A l (curB l []) W0 from ⟨A, cap, hB0, hc.keep hb0, hA, hcap, .inl ⟨rfl, rfl⟩, hb0⟩)
  have HC := Lib.hid hc
  have HW0 := Lib.hid hW0
  have HS0 := Lib.hid hs0
  clear hseq hc hc2 hA hcap hW0 hB0 hQ0 hb0
  refine callsIn_of_wp_marks Try.func46 rfl trivial ?_ rfl
  simp only [Try.ntmps46, List.size_toArray, List.length_cons, List.length_nil, Nat.reduceAdd, Nat.reduceSub, Array.replicate_succ, Array.replicate_zero, List.push_toArray, List.append_toArray, List.nil_append, List.cons_append]
  gi_wp2_with fail
  refine ⟨trivial, (backward_in Fence.wide 3 trivial rfl _ _ _ _).mono ?_⟩
  rintro e w1 ⟨rfl, rfl⟩
  simp only [World.size_alloc]
  rw [← HW0.out]
  gi_wp2_with fail
  refine rangeR rfl (by decide) (gf := 111) (lb := #[.pointer (some ⟨w.heap.size + 1, 0, none⟩)]) rfl trivial (enters_of Try.func111 (by kernel_rfl) rfl)
    HSEQ.out (fun h k => h.trans k) (fun W l o o' hl hlo ho _ => ⟨by simp [World.putObj], fun k h1 h2 => World.putObj_heap_other (by have := HS0.out; omega)⟩) (Below.refl _ _) (fun _ => rfl)
    (fun A B hab k o hk hko ho => by rw [← hab]; exact hko)
    (ownFrom_pure _ _) (ownFrom_pure _ _)
    (fun pre W => HeldR w A l (curB l pre) W ∧ w.heap.size + 2 ≤ W.heap.size) (fun c pre W => False)
    (fun pre W W' row h hg hr => ⟨h.1.from (by have := HS0.out; omega) hg hr, Nat.le_trans h.2 hg.size⟩) (fun c pre W W' row h _ _ => h)
    (fun s A B hs hab => by rw [← hab]; exact hs) (fun c s A B hs hab => hs) ⟨HH0.out, by have := HS0.out; omega⟩
    (fun pre x a' W => ∃ G, a' = { tmps := #[.slice A l.length cap, .slice A2 ss.length cap2, .pointer (some ⟨w.heap.size, 0, none⟩), undef, .slice none 0 0, undef, .pointer (some ⟨G, 0, none⟩), .slice A2 ss.length cap2, .func (.func 111) #[] #[.pointer (some ⟨w.heap.size + 1, 0, none⟩)], .int .i64 x.1, pv x.2, undef, undef, undef, undef], defers := [] } ∧ Is W G 51 (pcs x.2) ∧ HeldR w A l (curB l pre) W ∧ w.heap.size + 2 ≤ W.heap.size)
    (fun pre x a' s W W' row h hg hr => by
      obtain ⟨G, h1, h2, h3, h4⟩ := h
      exact ⟨G, h1, is_from h2 hg fun r e => (hr r e).2, h3.from (by have := HS0.out; omega) hg hr, Nat.le_trans h4 hg.size⟩)
    (fun A B h1 h2 => KpB.below (by have := HS0.out; omega) h2) ?assign ?body ?done ?stop
  case assign =>
    intro lp pre x W K hI hK
    unfold bkArr pv pcs scs
    dsimp only
    have hb := (Below.refl W.heap.size W).alloc (Nat.le_refl _) (.cells (pcs x.2).toArray 51)
    have hK2 := fun a' hp => hK a' (W.alloc (.cells (pcs x.2).toArray 51)) ⟨W.heap.size, hp, is_new W 51 (pcs x.2), hI.1.keep hb, Nat.le_trans hI.2 hb.size⟩ hb
    have HK := Lib.hid hK2
    clear hK hK2
    gi_wp2
    exact HK.out _ rfl
  case body =>
    rintro lp pre x a' W - ⟨G, rfl, hG, ⟨A', cap', h1, h2, h3, h4, h5, h6⟩, hsw⟩ hlt
    have HSW := Lib.hid hsw
    clear hsw
    have hlk : (curB l pre).length ≤ 100000 := by have := curB_len l pre; omega
    have g0 := is_cell h1 0
    have f0 := is_free h1 0
    simp only [List.getElem?_cons_zero] at g0
    obtain ⟨q0, q1, q2, q3, q4, q5, q6, q7, q8, q9, q10, q11⟩ := box12 hG
    obtain ⟨L, hL⟩ : ∃ L, curB l pre = L := ⟨_, rfl⟩
    have hsn : curB l (pre ++ [x]) = undoP L x.2 := by rw [curB_snoc, hL]
    rw [hL] at h1 h2 h4 h5 hlk g0
    have HSN := Lib.hid hsn
    have H1 := Lib.hid h1
    have H2 := Lib.hid h2
    have H3 := Lib.hid h3
    have H5 := Lib.hid h5
    have H6 := Lib.hid h6
    clear hsn hL h1 h2 h3 h5 h6 hG
    gi_wp2_with fail
    show Fence.fn _ _ ∧ CallsIn _ _ _ _ #[_, pv x.2] _ _
    refine ⟨trivial, callsIn_wide.2 ((mundo_f A' cap' L x.2 hlk H3.out h4 _ H2.out).mono ?_)⟩
    rintro e w2 ⟨A3, cap3, rfl, hat3, hn3, hcp3, hb3, hd3⟩
    have h12 := is_below H1.out hb3 (is_lt H1.out)
    have k0 := is_cell h12 0
    have f2 := is_free h12 0
    simp only [List.getElem?_cons_zero] at k0
    have hd4 : (A3 = A ∧ undoP L x.2 = l) ∨ Fresh (w.heap.size + 1) A3 := by
      rcases hd3 with ⟨rfl, e2⟩ | h
      · rcases H5.out with ⟨rfl, e3⟩ | h3
        · exact .inl ⟨rfl, by rw [e2, e3]⟩
        · exact .inr h3
      · exact .inr fun a ha => Nat.le_trans (Nat.lt_of_lt_of_le (is_lt H1.out) (Nat.le_refl _)) (h a ha)
    have HD4 := Lib.hid hd4
    have HAT3 := Lib.hid hat3
    have HN3 := Lib.hid hn3
    have HB3 := Lib.hid hb3
    have H12 := Lib.hid h12
    clear hd3 hd4 hat3 hn3 hb3 h12 g0 f0 q0 q1 q2 q3 q4 q5 q6 q7 q8 q9 q10 q11
    gi_wp2_with fail
    refine ⟨KeepsFrom.trans ⟨HB3.out.size, fun k o _ hk _ => (HB3.out.block k (Array.getElem?_eq_some_iff.1 hk).1).trans hk⟩ ((KeepsOthers.setCell _ _ _).from _), ?_, ?_⟩
    · have hsw : w.heap.size + 2 ≤ W.heap.size := HSW.out
      exact (KpB.below hsw HB3.out).trans ⟨by simp, fun k _ h2 => Below.heap_setCell _ _ _ _ h2⟩
    · show HeldR w A l (curB l (pre ++ [x])) _ ∧ _
      rw [HSN.out]
      refine ⟨?_, by simp; exact Nat.le_trans HSW.out HB3.out.size⟩
      exact ⟨A3, cap3, is_set H12.out 0 _, at_two (G := w.heap.size) (N := w.heap.size + 1) HC.out HAT3.out HD4.out (Nat.le_refl _) (Nat.lt_succ_self _) (fun k hk => Below.heap_setCell _ _ _ _ hk) (by simp), HN3.out, hcp3, HD4.out, (H6.out.trans (HB3.out.mono H6.out.size)).setCell (p := ⟨w.heap.size, 0, none⟩) (Nat.le_refl _) _⟩
  case done =>
    rintro D ys W' hD hS ⟨⟨A', cap', h1, h2, h3, h4, h5, h6⟩, -⟩ hK
    rw [hS, curB_all] at h1 h2 h4
    have g0 := is_cell h1 0
    simp only [List.getElem?_cons_zero] at g0
    have H2 := Lib.hid h2
    have H3 := Lib.hid h3
    have H6 := Lib.hid h6
    have HK := Lib.hid hK
    clear h1 h2 h3 h5 h6 hS hK
    gi_wp2_with fail
    refine postM_one (v := .slice A' (backP l ss).length cap') HK.out rfl (fun w' hw' => ?_) (fun w' hw' => ?_)
    · simp [results, Try.f46, go_sem]
    · have hg : W'.grownBy w' (some D) := by rw [hw']; exact grownBy_putObj' W' D _
      refine ⟨A', cap', rfl, at_from H2.out hg fun r e => by cases e; exact ⟨_, HK.out, rfl⟩, H3.out, h4, H6.out.grown hg H6.out.size fun k hk => ?_⟩
      cases hk
      have := HS0.out
      omega
  case stop =>
    rintro D c pre W' hD hS h
    exact h.elim

theorem muback_c (A A2 : Option Addr) (cap cap2 : Nat) (l : List Rw) (ss : List Sp) (hl : l.length + ss.length ≤ 100000) (hA : A = none → cap = 0) (hcap : l.length ≤ cap) (w : World) (hc : At w w.heap.size A (tvs l)) (hc2 : At w w.heap.size A2 (pvs ss)) :
    Calls Try.prog 46 #[.slice A l.length cap, .slice A2 ss.length cap2] w (Told_ (backP l ss) w) :=
  (callsIn_wide (n := 4)).1 (muback_in A A2 cap cap2 l ss hl hA hcap w hc hc2)
end Go.Proofs.Ytnkckoilhhbllaa
