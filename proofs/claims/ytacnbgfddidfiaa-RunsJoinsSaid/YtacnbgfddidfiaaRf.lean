/-
  Rising lists.
-/
import Derived.Test.YtacnbgfddidfiaaRe
namespace Go.Proofs.Ytacnbgfddidfiaa
open Go.RowKit Go.IntWalk
open Pk
set_option maxRecDepth 100000
attribute [local go_sem] Oper.semAt_some

/-- each is above the one ahead -/
def up (pre : List (Int × Int)) : Bool := pre.all fun p => decide (p.1 < p.2)
theorem up_snoc (pre : List (Int × Int)) (x : Int × Int) : up (pre ++ [x]) = (up pre && decide (x.1 < x.2)) := by simp [up]

set_option maxHeartbeats 2000000 in
theorem rising_in (F : Fence) (n : Nat) (h21 : F.fn 21) (h40 : F.fn 40) (h59 : F.fn 59) (hro : F.round = none) (hn : 3 ≤ n) (A : Option Addr) (cap : Nat) (x0 : Int) (xs : List Int) (hx : xs.length + 1 ≤ maxLen) (hcap : xs.length + 1 ≤ cap) (w : World) (hc : At w w.heap.size A (ivs (x0 :: xs))) :
    CallsIn F n Try.prog 21 #[.slice A (xs.length + 1) cap] w fun e W' => e = .returned (.bool (rs x0 xs)) ∧ Below w.heap.size w W' := by
  have h1 : 1 ≤ n := by omega
  have hmx : xs.length ≤ maxLen := by omega
  unfold maxLen at hx
  obtain ⟨b, off, rfl, hbl, hcell⟩ := hc 0 _ rfl
  rw [Nat.add_zero] at hcell
  have hdr := hc.drop 1
  have HD := Lib.hid hdr
  clear hc hdr
  refine callsIn_of_wp_marks Try.func21 rfl h21 ?_ hro
  simp only [Try.ntmps21, List.size_toArray, List.length_cons, List.length_nil, Nat.reduceAdd, Nat.reduceSub, Array.replicate_succ, Array.replicate_zero, List.push_toArray, List.append_toArray, List.nil_append, List.cons_append]
  gi_wp2
  obtain ⟨W0, hW⟩ : ∃ W0, W0 = w.alloc (.cells #[.bool false] 4) := ⟨_, rfl⟩
  have bR := Boxed.new w 4 (.bool false)
  have hc0 : W0.cell? ⟨b, off, none⟩ = some (.int .i64 x0) := by rw [hW, World.cell?_alloc_lt w _ _ hbl]; exact hcell
  have hbw : Below w.heap.size w W0 := by rw [hW]; exact (Below.refl _ _).alloc (Nat.le_refl _) _
  have hsz : W0.heap.size = w.heap.size + 1 := by rw [hW]; simp
  rw [← hW] at bR ⊢
  clear hW hcell
  have hx1 : (1 : Int) ≤ (xs.length : Int) + 1 := by omega
  by_cases h1c : cap = 1
  · subst h1c
    have HN := Lib.hid (show xs = [] from List.eq_nil_of_length_eq_zero (by omega))
    gi_region_with (gi_at_call 40; refine (steps_in F (n - 1) h40 hro _ _ _ _ _).mono ?_; rintro e w' ⟨rfl, rfl⟩)
    all_goals
      obtain ⟨A', hA⟩ : ∃ A' : Option Addr, A' = some ⟨b, off, none⟩ := ⟨_, rfl⟩
      obtain ⟨cp, hcp⟩ : ∃ cp : Nat, cp = 0 := ⟨_, rfl⟩
      have hat : At w w.heap.size A' (ivs []) := by exact At.nil _ _ _
      have hf := Boxed.new W0 3 (.int .i64 x0)
      have hs := Boxed.new (W0.alloc (.cells #[.int .i64 x0] 3)) 22 (.slice A' 0 cp)
      rw [World.size_alloc] at hs
      have hf1 := (hf.alloc (.cells #[.slice A' 0 cp] 22)).cell
      have hs1 := hs.cell
      have bR1 := (bR.alloc (.cells #[.int .i64 x0] 3)).alloc (.cells #[.slice A' 0 cp] 22)
      have hbw1 := ((hbw.alloc hbw.size (.cells #[.int .i64 x0] 3)).alloc (by simp; omega) (.cells #[.slice A' 0 cp] 22)).drew
      rw [hA, hcp] at hf1 hs1 bR1 hbw1
      obtain ⟨W1, hW1⟩ : ∃ W1, W1 = ((W0.alloc (.cells #[.int .i64 x0] 3)).alloc (.cells #[.slice (some ⟨b, off, none⟩) 0 (0)] 22)).drew := ⟨_, rfl⟩
      have hsz1 : W1.heap.size = w.heap.size + 3 := by rw [hW1]; simp [hsz]
      replace hf1 : W1.cell? ⟨w.heap.size + 1, 0, none⟩ = some (.int .i64 x0) := by rw [hW1, ← hsz]; exact hf1
      replace hs1 : W1.cell? ⟨w.heap.size + 1 + 1, 0, none⟩ = some (.slice (some ⟨b, off, none⟩) 0 (0)) := by rw [hW1, ← hsz]; exact hs1
      replace bR1 : Boxed W1 w.heap.size 4 (.bool false) := by rw [hW1]; exact bR1
      replace hbw1 : Below w.heap.size w W1 := by rw [hW1]; exact hbw1
      rw [hA] at hat
      rw [← hW1]
      clear hf hs hW1 hA hcp bR hbw hc0
      gi_wp2
      refine wpIn_rangeFunc_ownF hro h1 (gf := 59) (lb := #[.pointer (some ⟨w.heap.size + 1, 0, none⟩), .pointer (some ⟨w.heap.size + 1 + 1, 0, none⟩)]) rfl h59 (enters_of Try.func59 (by kernel_rfl) rfl)
        (steps_stops F (n - 1) h59 hro (by omega) (w.heap.size + 1) (w.heap.size + 1 + 1) w.heap.size _ _ x0 [] (by simp) W1 hbw1.size hf1 hs1 (hat.below hbw1)) belowK_t (belowK_b hbw1.size) (Below.refl _ _) (fun _ => rfl)
        (fun pre W => (up pre = true ∧ Boxed W w.heap.size 4 (.bool false)) ∧ Below w.heap.size w W)
        (fun c pre W => (c = .ret ∧ up pre = false ∧ Boxed W w.heap.size 4 (.bool false)) ∧ Below w.heap.size w W)
        (OwnFrom.and (Own.from (fun s A B row hs hg hr => ⟨hs.1, boxed_own w.heap.size 4 (fun (_ : Unit) => .bool false) () A B row hs.2 hg hr⟩) _) (ownFrom_below (Nat.le_refl _) (by omega)))
        (fun c => OwnFrom.and (Own.from (fun s A B row hs hg hr => ⟨hs.1, hs.2.1, boxed_own w.heap.size 4 (fun (_ : Unit) => .bool false) () A B row hs.2.2 hg hr⟩) _) (ownFrom_below (Nat.le_refl _) (by omega)))
        ⟨⟨rfl, bR1⟩, hbw1⟩
        (fun x => { tmps := #[.slice (some ⟨b, off, none⟩) (xs.length + 1) (1), undef, .pointer (some ⟨w.heap.size, 0, none⟩), .int .i64 x.1, .int .i64 x.2, .slice (some ⟨b, off, none⟩) (xs.length + 1) (1), .int .i64 ((xs.length : Int) + 1), .bool false,
          .slice (some ⟨b, off, none⟩) (xs.length + 1) (1), .pointer (some ⟨b, off, none⟩), .int .i64 x0, .slice (some ⟨b, off, none⟩) (xs.length + 1) (1), .slice (some ⟨b, off, none⟩) 0 (0),
          .func (.func 59) #[] #[.pointer (some ⟨w.heap.size + 1, 0, none⟩), .pointer (some ⟨w.heap.size + 1 + 1, 0, none⟩)], .int .i64 x.1, .int .i64 x.2, undef, undef, undef], defers := [] }) ?assign ?body ?done ?stop
      case assign =>
        intro l x W K hK
        gi_wp2
        exact hK
      case body =>
        rintro l pre x W ⟨⟨hp, hv⟩, hB⟩ hlt
        have hcv := hv.cell
        have hfv := hv.frozen
        by_cases hle : x.2 ≤ x.1
        · gi_wp2
          exact ⟨KeepsOthers.setCell _ _ _, ⟨rfl, by rw [up_snoc, hp]; simp; omega, hv.set _⟩, hB.setCell (p := ⟨w.heap.size, 0, none⟩) (Nat.le_refl _) _⟩
        · gi_wp2
          exact ⟨KeepsOthers.refl _, Below.refl _ _, ⟨by rw [up_snoc, hp]; simp; omega, hv⟩, hB⟩
      case done =>
        rintro D ys W hD rfl ⟨⟨hp, hv⟩, hB⟩ hK
        have hcv := hv.cell
        have hfv := hv.frozen
        gi_wp2
        have hK' := (KeepsOthers.setCell W ⟨w.heap.size, 0, none⟩ (.bool true)).same D _ hK rfl
        refine ⟨by simp, .inl ⟨_, _, rfl, run_takeDeferred hK', ?_⟩⟩
        have hc5 := cell_kept (hv.set (.bool true)).cell (grownBy_putObj' _ D (.deferred none)) (fun r e => by cases e; exact ⟨_, hK', rfl⟩)
        refine ⟨.bool true, ?_, ret_bool (by rw [HN.out, ← rs_all]; exact hp.symm), (hB.setCell (p := ⟨w.heap.size, 0, none⟩) (Nat.le_refl _) _).trans (belowK_b (w := w) (Nat.le_refl _) _ D _ _ (by omega) hK' rfl rfl)⟩
        simp [results, Try.f21, go_sem, hc5]
      case stop =>
        rintro D c pre W hD hpre ⟨⟨rfl, hp, hv⟩, hB⟩ hK
        gi_wp2
        refine ⟨by simp, .inl ⟨_, _, rfl, run_takeDeferred hK, ?_⟩⟩
        have hc5 := cell_kept hv.cell (grownBy_putObj' _ D (.deferred none)) (fun r e => by cases e; exact ⟨_, hK, rfl⟩)
        refine ⟨.bool false, ?_, ret_bool ?_, hB.trans (belowK_b (w := w) (Nat.le_refl _) W D _ _ (by omega) hK rfl rfl)⟩
        · simp [results, Try.f21, go_sem, hc5]
        · obtain ⟨post, hpost⟩ := hpre
          rw [HN.out, ← rs_all, ← hpost, List.all_append, show pre.all (fun p => decide (p.1 < p.2)) = false from hp]
          rfl
  · gi_region_with (gi_at_call 40; refine (steps_in F (n - 1) h40 hro _ _ _ _ _).mono ?_; rintro e w' ⟨rfl, rfl⟩)
    all_goals
      obtain ⟨A', hA⟩ : ∃ A' : Option Addr, A' = some ⟨b, off + 1, none⟩ := ⟨_, rfl⟩
      obtain ⟨cp, hcp⟩ : ∃ cp : Nat, cp = cap - 1 := ⟨_, rfl⟩
      have hat : At w w.heap.size A' (ivs xs) := by rw [hA]; exact HD.out
      have hf := Boxed.new W0 3 (.int .i64 x0)
      have hs := Boxed.new (W0.alloc (.cells #[.int .i64 x0] 3)) 22 (.slice A' xs.length cp)
      rw [World.size_alloc] at hs
      have hf1 := (hf.alloc (.cells #[.slice A' xs.length cp] 22)).cell
      have hs1 := hs.cell
      have bR1 := (bR.alloc (.cells #[.int .i64 x0] 3)).alloc (.cells #[.slice A' xs.length cp] 22)
      have hbw1 := ((hbw.alloc hbw.size (.cells #[.int .i64 x0] 3)).alloc (by simp; omega) (.cells #[.slice A' xs.length cp] 22)).drew
      rw [hA, hcp] at hf1 hs1 bR1 hbw1
      obtain ⟨W1, hW1⟩ : ∃ W1, W1 = ((W0.alloc (.cells #[.int .i64 x0] 3)).alloc (.cells #[.slice (some ⟨b, off + 1, none⟩) xs.length (cap - 1)] 22)).drew := ⟨_, rfl⟩
      have hsz1 : W1.heap.size = w.heap.size + 3 := by rw [hW1]; simp [hsz]
      replace hf1 : W1.cell? ⟨w.heap.size + 1, 0, none⟩ = some (.int .i64 x0) := by rw [hW1, ← hsz]; exact hf1
      replace hs1 : W1.cell? ⟨w.heap.size + 1 + 1, 0, none⟩ = some (.slice (some ⟨b, off + 1, none⟩) xs.length (cap - 1)) := by rw [hW1, ← hsz]; exact hs1
      replace bR1 : Boxed W1 w.heap.size 4 (.bool false) := by rw [hW1]; exact bR1
      replace hbw1 : Below w.heap.size w W1 := by rw [hW1]; exact hbw1
      rw [hA] at hat
      rw [← hW1]
      clear hf hs hW1 hA hcp bR hbw hc0
      gi_wp2
      refine wpIn_rangeFunc_ownF hro h1 (gf := 59) (lb := #[.pointer (some ⟨w.heap.size + 1, 0, none⟩), .pointer (some ⟨w.heap.size + 1 + 1, 0, none⟩)]) rfl h59 (enters_of Try.func59 (by kernel_rfl) rfl)
        (steps_stops F (n - 1) h59 hro (by omega) (w.heap.size + 1) (w.heap.size + 1 + 1) w.heap.size _ _ x0 xs hmx W1 hbw1.size hf1 hs1 (hat.below hbw1)) belowK_t (belowK_b hbw1.size) (Below.refl _ _) (fun _ => rfl)
        (fun pre W => (up pre = true ∧ Boxed W w.heap.size 4 (.bool false)) ∧ Below w.heap.size w W)
        (fun c pre W => (c = .ret ∧ up pre = false ∧ Boxed W w.heap.size 4 (.bool false)) ∧ Below w.heap.size w W)
        (OwnFrom.and (Own.from (fun s A B row hs hg hr => ⟨hs.1, boxed_own w.heap.size 4 (fun (_ : Unit) => .bool false) () A B row hs.2 hg hr⟩) _) (ownFrom_below (Nat.le_refl _) (by omega)))
        (fun c => OwnFrom.and (Own.from (fun s A B row hs hg hr => ⟨hs.1, hs.2.1, boxed_own w.heap.size 4 (fun (_ : Unit) => .bool false) () A B row hs.2.2 hg hr⟩) _) (ownFrom_below (Nat.le_refl _) (by omega)))
        ⟨⟨rfl, bR1⟩, hbw1⟩
        (fun x => { tmps := #[.slice (some ⟨b, off, none⟩) (xs.length + 1) (cap), undef, .pointer (some ⟨w.heap.size, 0, none⟩), .int .i64 x.1, .int .i64 x.2, .slice (some ⟨b, off, none⟩) (xs.length + 1) (cap), .int .i64 ((xs.length : Int) + 1), .bool false,
          .slice (some ⟨b, off, none⟩) (xs.length + 1) (cap), .pointer (some ⟨b, off, none⟩), .int .i64 x0, .slice (some ⟨b, off, none⟩) (xs.length + 1) (cap), .slice (some ⟨b, off + 1, none⟩) xs.length (cap - 1),
          .func (.func 59) #[] #[.pointer (some ⟨w.heap.size + 1, 0, none⟩), .pointer (some ⟨w.heap.size + 1 + 1, 0, none⟩)], .int .i64 x.1, .int .i64 x.2, undef, undef, undef], defers := [] }) ?assign ?body ?done ?stop
      case assign =>
        intro l x W K hK
        gi_wp2
        exact hK
      case body =>
        rintro l pre x W ⟨⟨hp, hv⟩, hB⟩ hlt
        have hcv := hv.cell
        have hfv := hv.frozen
        by_cases hle : x.2 ≤ x.1
        · gi_wp2
          exact ⟨KeepsOthers.setCell _ _ _, ⟨rfl, by rw [up_snoc, hp]; simp; omega, hv.set _⟩, hB.setCell (p := ⟨w.heap.size, 0, none⟩) (Nat.le_refl _) _⟩
        · gi_wp2
          exact ⟨KeepsOthers.refl _, Below.refl _ _, ⟨by rw [up_snoc, hp]; simp; omega, hv⟩, hB⟩
      case done =>
        rintro D ys W hD rfl ⟨⟨hp, hv⟩, hB⟩ hK
        have hcv := hv.cell
        have hfv := hv.frozen
        gi_wp2
        have hK' := (KeepsOthers.setCell W ⟨w.heap.size, 0, none⟩ (.bool true)).same D _ hK rfl
        refine ⟨by simp, .inl ⟨_, _, rfl, run_takeDeferred hK', ?_⟩⟩
        have hc5 := cell_kept (hv.set (.bool true)).cell (grownBy_putObj' _ D (.deferred none)) (fun r e => by cases e; exact ⟨_, hK', rfl⟩)
        refine ⟨.bool true, ?_, ret_bool (by rw [← rs_all]; exact hp.symm), (hB.setCell (p := ⟨w.heap.size, 0, none⟩) (Nat.le_refl _) _).trans (belowK_b (w := w) (Nat.le_refl _) _ D _ _ (by omega) hK' rfl rfl)⟩
        simp [results, Try.f21, go_sem, hc5]
      case stop =>
        rintro D c pre W hD hpre ⟨⟨rfl, hp, hv⟩, hB⟩ hK
        gi_wp2
        refine ⟨by simp, .inl ⟨_, _, rfl, run_takeDeferred hK, ?_⟩⟩
        have hc5 := cell_kept hv.cell (grownBy_putObj' _ D (.deferred none)) (fun r e => by cases e; exact ⟨_, hK, rfl⟩)
        refine ⟨.bool false, ?_, ret_bool ?_, hB.trans (belowK_b (w := w) (Nat.le_refl _) W D _ _ (by omega) hK rfl rfl)⟩
        · simp [results, Try.f21, go_sem, hc5]
        · obtain ⟨post, hpost⟩ := hpre
          rw [← rs_all, ← hpost, List.all_append, show pre.all (fun p => decide (p.1 < p.2)) = false from hp]
          rfl

theorem rising_c (A : Option Addr) (cap : Nat) (xs : List Int) (hx : xs.length ≤ 100000) (hcap : xs.length ≤ cap) (w : World) (hc : At w w.heap.size A (ivs xs)) :
    Calls Try.prog 21 #[.slice A xs.length cap] w fun e w' => e = .returned (.bool (rises xs)) ∧ Below w.heap.size w w' := by
  cases xs with
  | nil =>
    go_enter Try.func21, Try.ntmps21
    go_wp2
    refine bodyPost_ret (v := .bool true) (by simp [results, Try.f21, go_sem]) rfl ?_
    exact ⟨rfl, (Below.refl _ _).alloc (Nat.le_refl _) _⟩
  | cons x xs =>
    exact (callsIn_wide (n := 3)).1 (rising_in Fence.wide 3 trivial trivial trivial rfl (Nat.le_refl _) A cap x xs (by unfold maxLen; simp at hx; omega) (by simpa using hcap) w hc)
end Go.Proofs.Ytacnbgfddidfiaa
