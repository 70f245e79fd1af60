/-
 The path up, of the program.
-/
import Derived.Test.YtkobmnbjeppnaaaGreatXf
import Derived.Test.YtkobmnbjeppnaaaGreatQg
namespace Go.Proofs.YtkobmnbjeppnaaaGreat
open Go.RowKit Go.IntWalk Go.Maps
open Gr
set_option maxRecDepth 100000
attribute [local go_sem] Oper.semAt_some
/-- all but the box p stays -/
def KeepP (p N : Nat) (X Y : World) : Prop := Below p X Y ∧ ∀ i, i < N → i ≠ p → Y.heap[i]? = X.heap[i]?
theorem keepP_t {p N : Nat} {A B C : World} (h : KeepP p N A B) (k : KeepP p N B C) : KeepP p N A C := ⟨h.1.trans k.1, fun i hi hp => (k.2 i hi hp).trans (h.2 i hi hp)⟩
theorem keepP_of {p N : Nat} {X Y : World} (hp : p ≤ N) (h : Below N X Y) : KeepP p N X Y := ⟨h.mono hp, fun i hi _ => h.block i hi⟩
theorem at_notbox {W : World} {n p : Nat} {A : Option Addr} {t : TypeId} {v : Value} {xs : List Value} (h : At W n A xs) (hb : Boxed W p t v) (hv : v ∉ xs) : xs = [] ∨ ∀ a, A = some a → a.block ≠ p := by
 cases hx : xs with
 | nil => exact .inl rfl
 | cons x t' =>
  refine .inr fun a ha e => ?_
  obtain ⟨b, off, hA, _, hc⟩ := h 0 x (by rw [hx]; rfl)
  rw [ha] at hA
  injection hA with hA
  rw [hA] at e
  simp only at e
  subst e
  have hb' : W.heap[b]? = some (.cells #[v] t) := hb
  unfold World.cell? at hc
  simp only [hb'] at hc
  cases off with
  | zero =>
   have hc2 : v = x := by simpa using hc
   exact hv (by rw [hx, hc2]; exact List.mem_cons_self ..)
  | succ k => simp at hc
theorem at_keepP {W X : World} {n p N : Nat} {A : Option Addr} {xs : List Value} (h : At W n A xs) (hA : xs = [] ∨ ∀ a, A = some a → a.block ≠ p) (hn : n ≤ N) (hk : KeepP p N W X) (hs : n ≤ X.heap.size) : At X X.heap.size A xs := by
 rcases hA with rfl | hA
 ·exact At.nil _ _ _
 ·intro i v hv
  obtain ⟨b, off, hA', hlt, hc⟩ := h i v hv
  exact ⟨b, off, hA', by omega, (World.cell?_of_block (hk.2 b (by omega) (hA _ hA'))).trans hc⟩
theorem nil_tvs (l : List Rw) : Value.slice none 0 0 ∉ tvs l := by
 intro h
 obtain ⟨r, _, hr⟩ := List.mem_flatMap.1 h
 simp [rcs] at hr
/-- between two nodes of the path -/
def PGo (w : World) (N : Nat) (pre : List (Int × Bool)) (W : World) : Prop :=
 (∀ z ∈ pre, ¬ (z.2 = true ∧ z.1 = 0)) ∧ N ≤ W.heap.size ∧ Boxed W w.heap.size 36 (.slice none 0 0) ∧ Boxed W (w.heap.size + 1) 4 (.bool false) ∧ (∃ v, Boxed W (w.heap.size + 1 + 1) 36 v ∧ W.ownsRow N 3 1 v pre.length (ivs (pre.map (·.1)))) ∧ Below w.heap.size w W
def PStop (w : World) (N : Nat) (s : List (Int × Bool)) (W : World) : Prop :=
 ∃ pre, s = pre ++ [((0 : Int), true)] ∧ ∃ v, Boxed W w.heap.size 36 v ∧ Boxed W (w.heap.size + 1) 4 (.bool true) ∧ W.ownsRow N 3 1 v (pre.length + 1) (ivs (pre.map (·.1) ++ [0])) ∧ Below w.heap.size w W
theorem row_own {X Y : World} {N B : Nat} {e : TypeId} {v : Value} {n : Nat} {xs : List Value} {row : Option Nat} (h : X.ownsRow N e 1 v n xs) (hg : X.grownBy Y row) (hr : ∀ r, row = some r → B ≤ r ∧ ∃ o : Obj, X.heap[r]? = some o ∧ o.isCells = false) : Y.ownsRow N e 1 v n xs := by
 refine h.kept hg ?_
 rcases h.2 with ⟨rfl, _⟩ | ⟨g, cap, cur, rfl, _, hgb, _⟩
 ·exact .inl rfl
 ·refine .inr fun e' => ?_
  obtain ⟨_, o', ho', hc'⟩ := hr g e'.symm
  rw [hgb] at ho'; cases ho'; cases hc'
theorem pgo_own {w : World} {N B : Nat} (hB : w.heap.size ≤ B) : OwnFrom B (PGo w N) := fun s X Y row h hg hr => by
 obtain ⟨h1, h2, h3, h4, ⟨v, h5, h6⟩, h7⟩ := h
 exact ⟨h1, Nat.le_trans h2 hg.size, ownFrom_box (β := Unit) () X Y row h3 hg hr, ownFrom_box (β := Unit) () X Y row h4 hg hr, ⟨v, ownFrom_box (β := Unit) () X Y row h5 hg hr, row_own h6 hg hr⟩, h7.grown hg h7.size (fun k e => by have := (hr k e).1; omega)⟩
theorem pstop_own {w : World} {N B : Nat} (hB : w.heap.size ≤ B) : OwnFrom B (PStop w N) := fun s X Y row h hg hr => by
 obtain ⟨pre, h1, v, h3, h4, h6, h7⟩ := h
 exact ⟨pre, h1, v, ownFrom_box (β := Unit) () X Y row h3 hg hr, ownFrom_box (β := Unit) () X Y row h4 hg hr, row_own h6 hg hr, h7.grown hg h7.size (fun k e => by have := (hr k e).1; omega)⟩
theorem row_later {X Y : World} {N : Nat} {e : TypeId} {v : Value} {n : Nat} {xs : List Value} (h : X.ownsRow N e 1 v n xs) (hb : Below X.heap.size X Y) : Y.ownsRow N e 1 v n xs :=
 h.kept (row := none) ⟨hb.os, hb.tape, hb.output, hb.size, fun i hi _ => hb.block i hi⟩ (Classical.em _)
theorem pgo_later {w : World} {N : Nat} {s : List (Int × Bool)} {X Y : World} (h : PGo w N s X) (hb : Below X.heap.size X Y) : PGo w N s Y := by
 obtain ⟨h1, h2, h3, h4, ⟨v, h5, h6⟩, h7⟩ := h
 exact ⟨h1, Nat.le_trans h2 hb.size, (hb.block _ h3.lt).trans h3, (hb.block _ h4.lt).trans h4, ⟨v, (hb.block _ h5.lt).trans h5, row_later h6 hb⟩, h7.trans (hb.mono h7.size)⟩
theorem pstop_later {w : World} {N : Nat} {s : List (Int × Bool)} {X Y : World} (h : PStop w N s X) (hb : Below X.heap.size X Y) : PStop w N s Y := by
 obtain ⟨pre, h1, v, h3, h4, h6, h7⟩ := h
 exact ⟨pre, h1, v, (hb.block _ h3.lt).trans h3, (hb.block _ h4.lt).trans h4, row_later h6 hb, h7.trans (hb.mono h7.size)⟩
theorem KeepP.box {p N B : Nat} {X Y : World} {t : TypeId} {v : Value} (h : KeepP p N X Y) (hb : Boxed X B t v) (h1 : B < N) (h2 : B ≠ p) : Boxed Y B t v := (h.2 B h1 h2).trans hb
theorem boxed_set1 {W : World} {B p : Nat} {t : TypeId} {u v : Value} (h : Boxed W B t u) (hne : B ≠ p) : Boxed (W.setCell ⟨p, 0, none⟩ v) B t u := (Below.heap_setCell _ _ _ B hne).trans h
/-- behind an append to the path in the box p -/
theorem path_app {W w2 : World} {p N n : Nat} {o : Obj} {v v' : Value} {xs : List Value} {y : Int} (hv : Boxed W p 36 v) (hrow : W.ownsRow N 3 1 v n xs) (hown' : w2.ownsRow N 3 1 v' (n + 1) (xs ++ [.int .i64 y])) (hgrow : (W.alloc o).grownBy w2 v.ownBlock) (hp : p < N) (hN : N ≤ W.heap.size) :
  Boxed w2 p 36 v ∧ Boxed (w2.setCell ⟨p, 0, none⟩ v') p 36 v' ∧ (w2.setCell ⟨p, 0, none⟩ v').ownsRow N 3 1 v' (n + 1) (xs ++ [.int .i64 y]) ∧ KeepsOthers W (w2.setCell ⟨p, 0, none⟩ v') ∧ KeepP p N W (w2.setCell ⟨p, 0, none⟩ v') ∧ N ≤ (w2.setCell ⟨p, 0, none⟩ v').heap.size := by
 obtain ⟨hv1, hv2, _, hk2, hb2⟩ := hv.appended (n₀ := p) (by decide) (ownsRow_base_a hrow (by omega)) (by omega) (Nat.le_refl _) (ownsRow_base_a hown' (by omega)) hgrow
 refine ⟨hv1, hv2, hown'.kept (grownBy_setCell' w2 p v') (.inr fun e => by have := (hown'.lt p e).1; omega), hk2, ⟨hb2, fun i hi hne => ?_⟩, Nat.le_trans hN hb2.size⟩
 exact (Below.heap_setCell _ _ _ i hne).trans ((hgrow.block i (by simp only [World.size_alloc]; omega) (fun e => by have := (hrow.lt i e.symm).1; omega)).trans (Below.heap_alloc _ _ _ (by omega)))
/-- what Path tells -/
def PathR (w : World) (o : Option (List Int)) (e : Ending) (W' : World) : Prop :=
 Below w.heap.size w W' ∧ match o with
  | none => e = .returned (.tuple #[.slice none 0 0, .bool false])
  | some q => ∃ v, e = .returned (.tuple #[v, .bool true]) ∧ W'.ownsRow w.heap.size 3 1 v q.length (ivs q)
set_option maxHeartbeats 4000000 in
theorem path_in (A : Option Addr) (cap : Nat) (l : List Rw) (c : Int) (hl : l.length ≤ 100000) (ho : OrdOk l) (w : World) (hc : At w w.heap.size A (tvs l)) :
  CallsIn Fence.wide 4 Tryz.prog 23 #[.slice A l.length cap, .int .i64 c] w (PathR w (pathC l (l.length + 1) c)) := by
 have HC := Lib.hid hc
 have HO := Lib.hid ho
 clear hc ho
 refine callsIn_of_wp_marks Tryz.func23 rfl trivial ?_ rfl
 simp only [Tryz.ntmps23, List.size_toArray, List.length_cons, List.length_nil, Nat.reduceAdd, Nat.reduceSub, Array.replicate_succ, Array.replicate_zero, List.push_toArray, List.append_toArray, List.nil_append, List.cons_append]
 obtain ⟨w3, hw3⟩ : ∃ w3, w3 = ((w.alloc (.cells #[.slice none 0 0] 36)).alloc (.cells #[.bool false] 4)).alloc (.cells #[.slice none 0 0] 36) := ⟨_, rfl⟩
 have b0 : Boxed w3 w.heap.size 36 (.slice none 0 0) := by rw [hw3]; exact ((Boxed.new w _ _).alloc _).alloc _
 have b1 : Boxed w3 (w.heap.size + 1) 4 (.bool false) := by
  have := (Boxed.new (w.alloc (.cells #[.slice none 0 0] 36)) 4 (.bool false)).alloc (.cells #[.slice none 0 0] 36)
  rw [World.size_alloc] at this; rw [hw3]; exact this
 have b2 : Boxed w3 (w.heap.size + 1 + 1) 36 (.slice none 0 0) := by
  have := Boxed.new ((w.alloc (.cells #[.slice none 0 0] 36)).alloc (.cells #[.bool false] 4)) 36 (.slice none 0 0)
  rw [World.size_alloc, World.size_alloc] at this; rw [hw3]; exact this
 have hb3 : Below w.heap.size w w3 := by rw [hw3]; exact (((Below.refl _ _).alloc (Nat.le_refl _) _).alloc (by simp) _).alloc (by simp only [World.size_alloc]; omega) _
 have hs3 : w3.heap.size = w.heap.size + 3 := by rw [hw3]; simp
 have hat3 : At w3 w3.heap.size A (tvs l) := HC.out.keep hb3
 have HB3 := Lib.hid (And.intro b0 (And.intro b1 (And.intro b2 (And.intro hb3 hat3))))
 have HW3 := Lib.hid hw3
 clear b0 b1 b2 hb3 hat3 hw3
 gi_wp2_with fail
 rw [← HW3.out]
 refine ⟨trivial, (callsIn_wide.2 (HO.out A cap _ HB3.out.2.2.2.2)).mono ?_⟩
 rintro e w4 ⟨A1, cap1, rfl, hat4, hb4⟩
 have HB4 := Lib.hid (And.intro hat4 hb4)
 clear hat4 hb4
 gi_wp2_with fail
 refine ⟨trivial, (up_in Fence.wide 3 trivial rfl _ _ _ _ _).mono ?_⟩
 rintro e w5 ⟨rfl, hw5⟩
 gi_wp2_with fail
 obtain ⟨q, hq⟩ : ∃ q, q = w4.heap.size := ⟨_, rfl⟩
 obtain ⟨W, hW⟩ : ∃ W, W = ((w4.alloc (.cells #[.slice A1 l.length cap1] 63)).alloc (.cells #[.int .i64 c] 3)) := ⟨_, rfl⟩
 rw [← hW, ← hq]
 have hb4W : Below w4.heap.size w4 W := by rw [hW]; exact ((Below.refl _ _).alloc (Nat.le_refl _) _).alloc (by simp) _
 have hsW : W.heap.size = q + 2 := by rw [hW, hq]; simp
 have hq3 : w.heap.size + 3 ≤ q := by have := HB4.out.2.size; omega
 have hb3W : Below w3.heap.size w3 W := HB4.out.2.trans (hb4W.mono HB4.out.2.size)
 have BT : Boxed W q 63 (.slice A1 l.length cap1) := by rw [hW, hq]; exact (Boxed.new w4 _ _).alloc _
 have BC : Boxed W (q + 1) 3 (.int .i64 c) := by
  have := Boxed.new (w4.alloc (.cells #[.slice A1 l.length cap1] 63)) 3 (.int .i64 c)
  rw [World.size_alloc] at this; rw [hW, hq]; exact this
 have b0 : Boxed W w.heap.size 36 (.slice none 0 0) := (hb3W.block _ (by omega)).trans HB3.out.1
 have b1 : Boxed W (w.heap.size + 1) 4 (.bool false) := (hb3W.block _ (by omega)).trans HB3.out.2.1
 have b2 : Boxed W (w.heap.size + 1 + 1) 36 (.slice none 0 0) := (hb3W.block _ (by omega)).trans HB3.out.2.2.1
 have hbw : Below w.heap.size w W := HB3.out.2.2.2.1.trans (hb3W.mono (by omega))
 have hatW : At W q A1 (tvs (srt l)) := by rw [hq]; exact HB4.out.1.below hb4W
 have hnb := at_notbox hatW b2 (nil_tvs _)
 have hseq : SeqQ Fence.wide 3 Tryz.prog 68 #[.pointer (some ⟨q + 1, 0, none⟩), .pointer (some ⟨q, 0, none⟩)] upArr (KeepP (w.heap.size + 1 + 1) (q + 2)) (fun A B => Below A.heap.size A B) (fun s => s <+: chn l (l.length + 1) c) (fun ys _ => ys = chn l (l.length + 1) c) (fun pre _ => pre <+: chn l (l.length + 1) c) (l.length + 1) W := by
  have := up_stopsK 3 (by decide) (q + 1) q A1 cap1 (srt l) c (by rw [srt_len]; exact hl) (srt_asc l) W (by omega) (KeepP (w.heap.size + 1 + 1) (q + 2)) (fun _ _ _ h k => keepP_t h k)
   (fun X hX => keepP_of (by omega) (by rw [← hsW]; exact hX)) (fun X Y hx hy => keepP_of (by omega) (hy.mono (by rw [← hsW]; exact hx.1.size)))
   (fun X hx => ⟨by rw [srt_len]; exact (hx.box BT (by omega) (by omega)).cell, at_keepP hatW hnb (by omega) hx (by have := hx.1.size; omega)⟩) BC.cell
  rw [srt_len, chn_srt] at this
  exact this
 have HSEQ := Lib.hid hseq
 have HBW := Lib.hid (And.intro b0 (And.intro b1 (And.intro b2 (And.intro hbw hsW))))
 clear hseq hb4W hb3W BT BC b0 b1 b2 hbw hatW hnb hW hsW
 have HQ := Lib.hid hq
 have HQ3 := Lib.hid hq3
 clear hq hq3
 refine rangeQ rfl (by decide) (gf := 68) (lb := #[.pointer (some ⟨q + 1, 0, none⟩), .pointer (some ⟨q, 0, none⟩)]) rfl trivial (enters_of Tryz.func68 (by kernel_rfl) rfl)
  HSEQ.out keepP_t (fun X k o o' hk hX ho hw' => ⟨belowK_b (w := W) (n₀ := w.heap.size + 1 + 1) (by have := HBW.out.2.2.2.2; have := HQ3.out; omega) X k o o' hk hX ho hw', fun i hi _ => World.putObj_heap_other (by have := HBW.out.2.2.2.2; omega)⟩) (Below.refl _ _) (fun _ => rfl)
  (fun A B hab k o hk hko ho => (hab.block k (Array.getElem?_eq_some_iff.1 hko).1).trans hko)
  (ownFrom_pure _ _) (ownFrom_pure _ _)
  (PGo w (q + 2))
  (fun c' s W' => c' = .ret ∧ PStop w (q + 2) s W')
  (pgo_own HBW.out.2.2.2.1.size)
  (fun c' s X Y row h hg hr => ⟨h.1, pstop_own HBW.out.2.2.2.1.size s X Y row h.2 hg hr⟩)
  (fun s A B hs hab => pgo_later hs hab)
  (fun c' s A B hs hab => ⟨hs.1, pstop_later hs.2 hab⟩)
  ⟨(fun z hz => by cases hz), (by have := HBW.out.2.2.2.2; omega), HBW.out.1, HBW.out.2.1, ⟨_, HBW.out.2.2.1, ⟨rfl, .inl ⟨rfl, rfl⟩⟩⟩, HBW.out.2.2.2.1⟩
  (fun x => { tmps := #[.slice A l.length cap, .int .i64 c, undef, undef, .pointer (some ⟨w.heap.size, 0, none⟩), .pointer (some ⟨w.heap.size + 1, 0, none⟩), .pointer (some ⟨w.heap.size + 1 + 1, 0, none⟩), .int .i64 x.1, .bool x.2, .slice A l.length cap, .slice A1 l.length cap1, .int .i64 c, .func (.func 68) #[] #[.pointer (some ⟨q + 1, 0, none⟩), .pointer (some ⟨q, 0, none⟩)], .int .i64 x.1, .bool x.2, undef, undef, undef, undef, undef, undef, undef, undef, undef, undef], defers := [] }) ?assign ?body ?done ?stop
 case assign =>
  intro lp x W' K hK
  unfold upArr
  gi_wp2
  exact hK
 case body =>
  rintro lp pre x W' hok ⟨hno, hsz, hb0, hb1, ⟨v, hv, hrow⟩, hbel⟩ hlt
  have hp3 : w.heap.size + 1 + 1 < q + 2 := by have := HQ3.out; omega
  have hcv := hv.cell
  obtain ⟨i0, hi, hz0, hz1, hz2⟩ := info_parts Tryz.info3
  obtain ⟨y1, y2⟩ := x
  simp only at *
  have hfin : ∀ (v' : Value) (W9 : World), ¬ (y2 = true ∧ y1 = 0) → Boxed W9 (w.heap.size + 1 + 1) 36 v' → W9.ownsRow (q + 2) 3 1 v' (pre.length + 1) (ivs (pre.map (·.1)) ++ [.int .i64 y1]) → KeepsOthers W' W9 → KeepP (w.heap.size + 1 + 1) (q + 2) W' W9 → q + 2 ≤ W9.heap.size → KeepsFrom W.heap.size W' W9 ∧ KeepP (w.heap.size + 1 + 1) (q + 2) W' W9 ∧ PGo w (q + 2) (pre ++ [(y1, y2)]) W9 := by
   intro v' W9 h1 h2 h3 h4 h5 h6
   refine ⟨h4.from _, h5, fun z hz => ?_, h6, h5.box hb0 (by omega) (by omega), h5.box hb1 (by omega) (by omega), ⟨v', h2, ?_⟩, hbel.trans (h5.1.mono (by omega))⟩
   ·rcases List.mem_append.1 hz with hz | hz
    ·exact hno z hz
    ·rw [List.mem_singleton.1 hz]; exact h1
   ·rw [List.length_append, show ivs ((pre ++ [(y1, y2)]).map (·.1)) = ivs (pre.map (·.1)) ++ [.int .i64 y1] by simp [ivs]]
    exact h3
  have HFIN := Lib.hid hfin
  clear hfin
  cases y2 with
  | false =>
   gi_wp2_with (first
    | (gi_at_builtin; refine wpListIn_append_own _ rfl _ _ 36 rfl (q + 2) 3 i0 (.int .i64 0) 1 8 Tryz.underlying36 hi hz0 hz1 hz2 rfl (by decide) _ _ _ rfl (hrow.alloc _) ⟨W'.heap.size, 0, none⟩ 1 1 [.int .i64 y1] rfl rfl (cell_one_new _ _ _) (by simp [Value.oneCell']) (by unfold maxLen; omega) (by omega) (by simp; omega) ?_; intro v' w2 hown' hgrow _; obtain ⟨g', cap', rfl⟩ := ownsRow_succ hown'; obtain ⟨hv1, hv2, hr3, hk3, hkp, hbl⟩ := path_app hv hrow hown' hgrow hp3 hsz; have hc1 := hv1.cell; have hf1 := hv1.frozen; have hcv2 := hv2.cell; have g0 := (hkp.box hb0 (by omega) (by omega)); have g1 := (hkp.box hb1 (by omega) (by omega)); have gc0 := g0.cell; have gf0 := g0.frozen; have g2 := boxed_set1 g1 (p := w.heap.size) (v := .slice (some ⟨g', 0, none⟩) (pre.length + 1) cap') (by omega); have gc2 := g2.cell; have gf2 := g2.frozen)
    | fail)
   exact HFIN.out _ _ (by simp) hv2 hr3 hk3 hkp hbl
  | true =>
   by_cases hy : y1 = 0
   ·subst hy
    gi_wp2_with (first
     | (gi_at_builtin; refine wpListIn_append_own _ rfl _ _ 36 rfl (q + 2) 3 i0 (.int .i64 0) 1 8 Tryz.underlying36 hi hz0 hz1 hz2 rfl (by decide) _ _ _ rfl (hrow.alloc _) ⟨W'.heap.size, 0, none⟩ 1 1 [.int .i64 0] rfl rfl (cell_one_new _ _ _) (by simp [Value.oneCell']) (by unfold maxLen; omega) (by omega) (by simp; omega) ?_; intro v' w2 hown' hgrow _; obtain ⟨g', cap', rfl⟩ := ownsRow_succ hown'; obtain ⟨hv1, hv2, hr3, hk3, hkp, hbl⟩ := path_app hv hrow hown' hgrow hp3 hsz; have hc1 := hv1.cell; have hf1 := hv1.frozen; have hcv2 := hv2.cell; have g0 := (hkp.box hb0 (by omega) (by omega)); have g1 := (hkp.box hb1 (by omega) (by omega)); have gc0 := g0.cell; have gf0 := g0.frozen; have g2 := boxed_set1 g1 (p := w.heap.size) (v := .slice (some ⟨g', 0, none⟩) (pre.length + 1) cap') (by omega); have gc2 := g2.cell; have gf2 := g2.frozen)
     | fail)
    refine ⟨((hk3.trans (KeepsOthers.setCell _ _ _)).trans (KeepsOthers.setCell _ _ _)).from _, rfl, pre, rfl, _, boxed_set1 (g0.set _) (by omega), g2.set _, ?_, ((hbel.trans (hkp.1.mono (by omega))).setCell (by simp) _).setCell (by simp) _⟩
    rw [show ivs (pre.map (·.1) ++ [0]) = ivs (pre.map (·.1)) ++ [.int .i64 0] by simp [ivs]]
    exact (hr3.kept (grownBy_setCell' _ w.heap.size _) (.inr fun e => by have := (hr3.lt _ e).1; omega)).kept (grownBy_setCell' _ (w.heap.size + 1) _) (.inr fun e => by have := (hr3.lt _ e).1; omega)
   ·have hxx : (y1 == 0) = false := by simpa using hy
    gi_wp2_with (first
     | (gi_at_builtin; refine wpListIn_append_own _ rfl _ _ 36 rfl (q + 2) 3 i0 (.int .i64 0) 1 8 Tryz.underlying36 hi hz0 hz1 hz2 rfl (by decide) _ _ _ rfl (hrow.alloc _) ⟨W'.heap.size, 0, none⟩ 1 1 [.int .i64 y1] rfl rfl (cell_one_new _ _ _) (by simp [Value.oneCell']) (by unfold maxLen; omega) (by omega) (by simp; omega) ?_; intro v' w2 hown' hgrow _; obtain ⟨g', cap', rfl⟩ := ownsRow_succ hown'; obtain ⟨hv1, hv2, hr3, hk3, hkp, hbl⟩ := path_app hv hrow hown' hgrow hp3 hsz; have hc1 := hv1.cell; have hf1 := hv1.frozen; have hcv2 := hv2.cell; have g0 := (hkp.box hb0 (by omega) (by omega)); have g1 := (hkp.box hb1 (by omega) (by omega)); have gc0 := g0.cell; have gf0 := g0.frozen; have g2 := boxed_set1 g1 (p := w.heap.size) (v := .slice (some ⟨g', 0, none⟩) (pre.length + 1) cap') (by omega); have gc2 := g2.cell; have gf2 := g2.frozen)
     | fail)
    exact HFIN.out _ _ (fun h => hy h.2) hv2 hr3 hk3 hkp hbl
 case done =>
  rintro D ys W' hD hS ⟨hno, hsz, hb0, hb1, ⟨v, hv, hrow⟩, hbel⟩ hK
  have hWs := HBW.out.2.2.2.2
  have hq3 := HQ3.out
  have c0 := hb0.cell
  have f0 := hb0.frozen
  have g1 := boxed_set1 hb1 (p := w.heap.size) (v := .slice none 0 0) (by omega)
  have c1 := g1.cell
  have f1 := g1.frozen
  gi_wp2_with fail
  have e1 : Boxed ((W'.setCell ⟨w.heap.size, 0, none⟩ (.slice none 0 0)).setCell ⟨w.heap.size + 1, 0, none⟩ (.bool false)) (w.heap.size + 1) 4 (.bool false) := g1.set _
  have e0 : Boxed ((W'.setCell ⟨w.heap.size, 0, none⟩ (.slice none 0 0)).setCell ⟨w.heap.size + 1, 0, none⟩ (.bool false)) w.heap.size 36 (.slice none 0 0) := boxed_set1 (hb0.set _) (by omega)
  have hK2 := (Below.heap_setCell (W'.setCell ⟨w.heap.size, 0, none⟩ (.slice none 0 0)) ⟨w.heap.size + 1, 0, none⟩ (.bool false) D (by show D ≠ w.heap.size + 1; omega)).trans ((Below.heap_setCell W' ⟨w.heap.size, 0, none⟩ (.slice none 0 0) D (by show D ≠ w.heap.size; omega)).trans hK)
  have hb2 : Below w.heap.size w ((W'.setCell ⟨w.heap.size, 0, none⟩ (.slice none 0 0)).setCell ⟨w.heap.size + 1, 0, none⟩ (.bool false)) := (hbel.setCell (by simp) _).setCell (by simp) _
  refine postM_one (v := .tuple #[.slice none 0 0, .bool false]) hK2 rfl (fun w' hw' => ?_) (fun w' hw' => ⟨?_, ?_⟩)
  ·have h0 : w'.cell? ⟨w.heap.size, 0, none⟩ = some (.slice none 0 0) := Boxed.cell (by rw [hw']; exact (World.putObj_heap_other (by omega)).trans e0)
   have h1 : w'.cell? ⟨w.heap.size + 1, 0, none⟩ = some (.bool false) := Boxed.cell (by rw [hw']; exact (World.putObj_heap_other (by omega)).trans e1)
   simp [results, Tryz.f23, go_sem, h0, h1]
  ·rw [hw']; exact hb2.trans (belowK_b (w := w) (Nat.le_refl _) _ D _ _ (by omega) hK2 rfl rfl)
  ·rw [chn_none (fun z hz => hno z (by rw [hS]; exact hz))]
 case stop =>
  rintro D c' s W' hD hS ⟨rfl, pre, rfl, v, hb0, hb1, hrow, hbel⟩ hK
  have hWs := HBW.out.2.2.2.2
  have hq3 := HQ3.out
  gi_wp2_with fail
  refine postM_one (v := .tuple #[v, .bool true]) hK rfl (fun w' hw' => ?_) (fun w' hw' => ⟨?_, ?_⟩)
  ·have h0 : w'.cell? ⟨w.heap.size, 0, none⟩ = some v := Boxed.cell (by rw [hw']; exact (World.putObj_heap_other (by omega)).trans hb0)
   have h1 : w'.cell? ⟨w.heap.size + 1, 0, none⟩ = some (.bool true) := Boxed.cell (by rw [hw']; exact (World.putObj_heap_other (by omega)).trans hb1)
   simp [results, Tryz.f23, go_sem, h0, h1]
  ·rw [hw']; exact hbel.trans (belowK_b (w := w) (Nat.le_refl _) _ D _ _ (by omega) hK rfl rfl)
  ·rw [chn_found hS]
   refine ⟨v, rfl, ?_⟩
   rw [hw', show (pre.map (·.1) ++ [(0 : Int)]).length = pre.length + 1 by simp]
   exact ownsRow_base_a (OwnFrom.putObj (I := fun (_ : Unit) X => X.ownsRow (q + 2) 3 1 v (pre.length + 1) (ivs (pre.map (·.1) ++ [0]))) (B := W.heap.size) (fun _ X Y row hs hg hr => row_own hs hg hr) (s := ()) _ hrow hD hK rfl) (by omega)
theorem path_c (A : Option Addr) (cap : Nat) (l : List Rw) (c : Int) (hl : l.length ≤ 100000) (ho : OrdOk l) (w : World) (hc : At w w.heap.size A (tvs l)) :
  Calls Tryz.prog 23 #[.slice A l.length cap, .int .i64 c] w (PathR w (pathC l (l.length + 1) c)) :=
 (callsIn_wide (n := 4)).1 (path_in A cap l c hl ho w hc)
end Go.Proofs.YtkobmnbjeppnaaaGreat
