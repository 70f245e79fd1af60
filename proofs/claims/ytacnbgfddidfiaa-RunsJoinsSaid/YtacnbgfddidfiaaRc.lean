/-
  delta's steps: each number with the one ahead; Deltas.
-/
import Derived.Test.YtacnbgfddidfiaaRb
namespace Go.Proofs.Ytacnbgfddidfiaa
open Go.RowKit
open Pk
set_option maxRecDepth 100000
attribute [local go_sem] Oper.semAt_some

theorem prs_at {a : Int} {l : List Int} {k : Nat} {x : Int} (h : l[k]? = some x) : prs a (l.drop k) = (a, x) :: prs x (l.drop (k + 1)) := by
  rw [drop_at_cons h]; rfl

set_option maxHeartbeats 2000000 in
/-- the iterator: each number with the one ahead, for every loop body that keeps what lay below n₀ -/
theorem steps1_in (F : Fence) (n : Nat) (h59 : F.fn 59) (hro : F.round = none) (hn : 1 ≤ n) (l Bf Bs n₀ : Nat) (A : Option Addr) (cap : Nat) (a0 : Int) (xs : List Int) (hx : xs.length ≤ maxLen) (J Jx : List (Int × Int) → World → Prop)
    (hY : ∀ pre x W, J pre W → pre.length < xs.length → YieldAt F (n - 1) Try.prog l #[.int .i64 x.1, .int .i64 x.2] W fun e W' =>
      (e = .returned (.bool true) ∧ J (pre ++ [x]) W' ∧ Below n₀ W W') ∨ (e = .returned (.bool false) ∧ Jx (pre ++ [x]) W'))
    (W : World) (hBf : W.cell? ⟨Bf, 0, none⟩ = some (.int .i64 a0)) (hBs : W.cell? ⟨Bs, 0, none⟩ = some (.slice A xs.length cap)) (hc : At W n₀ A (ivs xs)) (h0 : J [] W) :
    CallsIn F n Try.prog 59 #[.func (.yield l) #[] #[], .pointer (some ⟨Bf, 0, none⟩), .pointer (some ⟨Bs, 0, none⟩)] W fun e W' => (∃ v, e = .returned v) ∧
      ((∃ ys, ys = prs a0 xs ∧ J ys W') ∨ (∃ pre, pre <+: prs a0 xs ∧ Jx pre W')) := by
  have HC := Lib.hid hc
  unfold maxLen at hx
  clear hc
  refine callsIn_of_wp Try.func59 rfl h59 ?_ hro
  simp only [Try.ntmps59, List.size_toArray, List.length_cons, List.length_nil, Nat.reduceAdd, Nat.reduceSub, Array.replicate_succ, Array.replicate_zero, List.push_toArray, List.append_toArray, List.nil_append, List.cons_append]
  gi_wp2
  gi_loopw [4, 10] (fun a i wr => ∃ (k : Nat) (ahead : Int) (pre : List (Int × Int)), a = .int .i64 ahead ∧ i = .int .i64 k ∧ k ≤ xs.length ∧ pre.length = k ∧ pre ++ prs ahead (xs.drop k) = prs a0 xs ∧ J pre wr ∧ Below n₀ W wr)
    (fun _ i _ => xs.length - (intOf i).toNat)
  case atStart => exact ⟨0, a0, [], rfl, rfl, Nat.zero_le _, rfl, rfl, h0, Below.refl _ _⟩
  case round =>
    obtain ⟨k, ahead, pre, rfl, rfl, hk, hpl, hpre, hJs, hnx⟩ := hrel
    have HP := Lib.hid hpre
    clear hpre
    by_cases hlt : k < xs.length
    · obtain ⟨x, hxk⟩ := some_at hlt
      obtain ⟨b, off, rfl, hbl, hcell⟩ := (HC.out.below hnx) k _ (ivs_at hxk)
      have HX := Lib.hid hxk
      clear hxk
      obtain ⟨fn, tmps, assign, body, hy, hR⟩ := hY pre (ahead, x) wr hJs (by rw [hpl]; exact hlt)
      dsimp only at hy
      gi_wp2
      refine hR.mono ?_
      rintro e W3 (⟨rfl, hJ3, hk3⟩ | ⟨rfl, hJx3⟩)
      · gi_wp2
        go_roundw
        case rel => exact ⟨k + 1, x, pre ++ [(ahead, x)], rfl, by simp, by omega, by simp [hpl], by rw [← HP.out, prs_at HX.out]; simp, hJ3, hnx.trans hk3⟩
        case measure => simp [intOf]; omega
      · gi_wp2
        refine bodyPost_ret (results_none rfl _ _ _) rfl ?_
        exact ⟨⟨_, rfl⟩, .inr ⟨pre ++ [(ahead, x)], ⟨prs x (xs.drop (k + 1)), by rw [← HP.out, prs_at HX.out]; simp⟩, hJx3⟩⟩
    · obtain rfl : k = xs.length := by omega
      gi_wp2
      go_end0
      exact ⟨⟨_, rfl⟩, .inl ⟨_, by rw [← HP.out, List.drop_length]; simp [prs], hJs⟩⟩

set_option maxHeartbeats 1000000 in
theorem steps_in (F : Fence) (n : Nat) (h40 : F.fn 40) (hro : F.round = none) (a : Int) (A : Option Addr) (len cap : Nat) (w : World) :
    CallsIn F n Try.prog 40 #[.int .i64 a, .slice A len cap] w fun e w' => e = .returned (.func (.func 59) #[] #[.pointer (some ⟨w.heap.size, 0, none⟩), .pointer (some ⟨w.heap.size + 1, 0, none⟩)]) ∧
      w' = (w.alloc (.cells #[.int .i64 a] 3)).alloc (.cells #[.slice A len cap] 22) := by
  refine callsIn_of_wp Try.func40 rfl h40 ?_ hro
  simp only [Try.ntmps40, List.size_toArray, List.length_cons, List.length_nil, Nat.reduceAdd, Nat.reduceSub, Array.replicate_succ, Array.replicate_zero, List.push_toArray, List.append_toArray, List.nil_append, List.cons_append]
  gi_wp2
  go_ret
  exact ⟨rfl, rfl⟩

theorem steps_stops (F : Fence) (n : Nat) (h59 : F.fn 59) (hro : F.round = none) (hn : 1 ≤ n) (Bf Bs n₀ : Nat) (A : Option Addr) (cap : Nat) (a0 : Int) (xs : List Int) (hx : xs.length ≤ maxLen) (w : World)
    (hn₀ : n₀ ≤ w.heap.size) (hf : w.cell? ⟨Bf, 0, none⟩ = some (.int .i64 a0)) (hs : w.cell? ⟨Bs, 0, none⟩ = some (.slice A xs.length cap)) (hc : At w n₀ A (ivs xs)) :
    SeqStopsK F n Try.prog 59 #[.pointer (some ⟨Bf, 0, none⟩), .pointer (some ⟨Bs, 0, none⟩)] (fun x : Int × Int => #[Value.int .i64 x.1, Value.int .i64 x.2]) (Below n₀) (fun ys => ys = prs a0 xs) (fun pre => pre <+: prs a0 xs) xs.length w := fun l J Jx W hW _ _ hY h0 =>
  steps1_in F n h59 hro hn l Bf Bs n₀ A cap a0 xs hx J Jx hY W ((hW.cell (p := ⟨Bf, 0, none⟩) (World.block_lt_of_cell? _ _ hf)).trans hf) ((hW.cell (p := ⟨Bs, 0, none⟩) (World.block_lt_of_cell? _ _ hs)).trans hs) (hc.below (hW.mono hn₀)) h0

theorem Try.info3 : (Try.prog.info? 3).map (fun i => (i.zero, i.size, i.bytes)) = some (some (.int .i64 0), 1, 8) := by kernel_rfl
def dpre (pre : List (Int × Int)) : List Int := pre.map fun p => w64 (p.2 - p.1)

set_option maxHeartbeats 2000000 in
theorem deltas_in (F : Fence) (n : Nat) (h15 : F.fn 15) (h40 : F.fn 40) (h59 : F.fn 59) (hro : F.round = none) (hn : 3 ≤ n) (A : Option Addr) (cap : Nat) (xs : List Int) (hx : xs.length ≤ 100000) (w : World) (hc : At w w.heap.size A (ivs xs)) :
    CallsIn F n Try.prog 15 #[.slice A xs.length cap] w fun e W' => ∃ v, e = .returned v ∧ W'.ownsRow w.heap.size 3 1 v (dl 0 xs).length (ivs (dl 0 xs)) ∧ Below w.heap.size w W' := by
  have h1 : 1 ≤ n := by omega
  obtain ⟨i0, hi, hz0, hz1, hz2⟩ := info_parts Try.info3
  have HC := Lib.hid hc
  clear hc
  refine callsIn_of_wp_marks Try.func15 rfl h15 ?_ hro
  simp only [Try.ntmps15, List.size_toArray, List.length_cons, List.length_nil, Nat.reduceAdd, Nat.reduceSub, Array.replicate_succ, Array.replicate_zero, List.push_toArray, List.append_toArray, List.nil_append, List.cons_append]
  have hbx : i0.bytes * xs.length ≤ 281474976710656 := by rw [hz2]; omega
  have hmx : xs.length ≤ maxLen := by unfold maxLen; omega
  gi_wp2_with (gi_at_make; refine wpListIn_make_own _ rfl _ _ 22 rfl w.heap.size 3 i0 (.int .i64 0) 1 Try.underlying22 hi hz0 hz1 .i64 .i64 _ xs.length rfl rfl rfl hbx hmx (Nat.le_refl _) ?_; intro w1 hown1 hgrow1)
  have bO := Boxed.new w1 22 (.slice (some ⟨w.heap.size, 0, none⟩) 0 xs.length)
  have hW0 : Below w.heap.size w (w1.alloc (.cells #[.slice (some ⟨w.heap.size, 0, none⟩) 0 xs.length] 22)) := ((Below.refl _ w).grown hgrow1 (Nat.le_refl _) (fun k e => by cases e)).alloc hgrow1.size _
  have hown0 := hown1.alloc (.cells #[.slice (some ⟨w.heap.size, 0, none⟩) 0 xs.length] 22)
  obtain ⟨B, hB⟩ : ∃ B, B = w1.heap.size := ⟨_, rfl⟩
  obtain ⟨W0, hW⟩ : ∃ W0, W0 = w1.alloc (.cells #[.slice (some ⟨w.heap.size, 0, none⟩) 0 xs.length] 22) := ⟨_, rfl⟩
  have hsz : W0.heap.size = B + 1 := by rw [hW, hB]; simp
  have hwB : w.heap.size ≤ B := by rw [hB]; exact hgrow1.size
  rw [← hW, ← hB]
  rw [← hW] at bO hW0 hown0
  rw [← hB] at bO
  clear hW hB hown1 hgrow1 hbx
  refine (steps_in F (n - 1) h40 hro _ _ _ _ _).mono ?_
  rintro e W1 ⟨rfl, hW1⟩
  have hf := Boxed.new W0 3 (.int .i64 0)
  have hs := Boxed.new (W0.alloc (.cells #[.int .i64 0] 3)) 22 (.slice A xs.length cap)
  rw [World.size_alloc] at hs
  have hf1 := (hf.alloc (.cells #[.slice A xs.length cap] 22)).cell
  have hs1 := hs.cell
  have bO1 := (bO.alloc (.cells #[.int .i64 0] 3)).alloc (.cells #[.slice A xs.length cap] 22)
  have hown2 := (hown0.alloc (.cells #[.int .i64 0] 3)).alloc (.cells #[.slice A xs.length cap] 22)
  have hbw1 : Below w.heap.size w W1 := by rw [hW1]; exact (hW0.alloc hW0.size _).alloc (by simp; omega) _
  rw [← hW1] at hf1 hs1 bO1 hown2
  have hsz1 : W1.heap.size = B + 3 := by rw [hW1]; simp [hsz]
  clear hf hs bO hown0 hW1
  rw [hsz] at hf1 hs1
  rw [hsz]
  gi_wp2
  refine wpIn_rangeFunc_ownG hro h1 (gf := 59) (lb := #[.pointer (some ⟨B + 1, 0, none⟩), .pointer (some ⟨B + 1 + 1, 0, none⟩)]) rfl h59 (enters_of Try.func59 (by kernel_rfl) rfl)
    (steps_stops F (n - 1) h59 hro (by omega) (B + 1) (B + 1 + 1) w.heap.size A cap 0 xs hmx W1 hbw1.size hf1 hs1 (HC.out.below hbw1)) belowK_t (belowK_b hbw1.size) (Below.refl _ _) (fun _ => rfl)
    (fun pre W => (∃ v, Boxed W B 22 v ∧ W.ownsRow w.heap.size 3 1 v (dpre pre).length (ivs (dpre pre)) ∧ True) ∧ Below w.heap.size w W)
    (fun _ _ _ => False)
    (OwnFrom.and (Own.from (holdsRow_own w.heap.size B 22 3 1 (fun pre => (dpre pre).length) (fun pre => ivs (dpre pre)) (fun _ _ => True)) _) (ownFrom_below (Nat.le_refl _) (by omega)))
    (fun _ _ _ _ _ hs _ _ => hs)
    ⟨⟨_, bO1, hown2, trivial⟩, hbw1⟩
    (fun x => { tmps := #[.slice A xs.length cap, undef, .slice none 0 0, .pointer (some ⟨B, 0, none⟩), .int .i64 x.1, .int .i64 x.2, .slice A xs.length cap, .int .i64 (xs.length : Int), .slice (some ⟨w.heap.size, 0, none⟩) 0 xs.length, .slice A xs.length cap,
      .func (.func 59) #[] #[.pointer (some ⟨B + 1, 0, none⟩), .pointer (some ⟨B + 1 + 1, 0, none⟩)], .int .i64 x.1, .int .i64 x.2, undef, undef, undef, undef, undef, undef, undef], defers := [] }) ?assign ?body ?done ?stop
  case assign =>
    intro l x W K hK
    gi_wp2
    exact hK
  case body =>
    rintro l pre x W ⟨⟨v, hv, hrow, -⟩, hB⟩ hlt
    have hcv := hv.cell
    have hpl : (dpre pre).length ≤ pre.length := by simp [dpre]
    have hbs := hB.size
    gi_wp2_with (gi_at_builtin; refine wpListIn_append_own _ rfl _ _ 22 rfl w.heap.size 3 i0 (.int .i64 0) 1 8 Try.underlying22 hi hz0 hz1 hz2 rfl (by decide) _ _ _ rfl (hrow.alloc _) ⟨W.heap.size, 0, none⟩ 1 1 [.int .i64 (wrap64 (x.2 - x.1))] rfl rfl (cell_one_new _ _ _) (by simp [Value.oneCell']) (by unfold maxLen; omega) (by omega) (by simp; omega) ?_; intro v' w2 hown' hgrow _; obtain ⟨g', cap', rfl⟩ := ownsRow_succ hown'; obtain ⟨hv1, hv2, hr2, hk2, hb2⟩ := hv.appended (by decide) hrow hbs hwB hown' hgrow; have hc1 := hv1.cell; have hf1 := hv1.frozen)
    refine ⟨hk2.from _, hb2, ⟨_, hv2, ?_, trivial⟩, hB.trans hb2⟩
    have e1 : dpre (pre ++ [x]) = dpre pre ++ [wrap64 (x.2 - x.1)] := by simp [dpre, w64, wrap64]
    have e2 : ivs (dpre (pre ++ [x])) = ivs (dpre pre) ++ [.int .i64 (wrap64 (x.2 - x.1))] := by rw [e1]; simp [ivs]
    rw [e2, e1, List.length_append, List.length_singleton]
    exact hr2
  case done =>
    rintro D ys W hD rfl ⟨⟨v, hv, hrow, -⟩, hB⟩ hK
    have hcv := hv.cell
    gi_wp2
    refine ⟨by simp, .inl ⟨_, _, rfl, run_takeDeferred hK, ?_⟩⟩
    exact ⟨_, results_tmp rfl _ _ _, v, rfl, ownsRow_putObj hrow _ hK rfl, hB.trans (belowK_b (w := w) (Nat.le_refl _) W D _ _ (by omega) hK rfl rfl)⟩
  case stop =>
    rintro D c pre W _ _ h _
    exact h.elim

theorem deltas_c (A : Option Addr) (cap : Nat) (xs : List Int) (hx : xs.length ≤ 100000) (w : World) (hc : At w w.heap.size A (ivs xs)) :
    Calls Try.prog 15 #[.slice A xs.length cap] w fun e w' => ∃ A' cap', e = .returned (.slice A' xs.length cap') ∧ xs.length ≤ cap' ∧ Fresh w.heap.size A' ∧ At w' w'.heap.size A' (ivs (dl 0 xs)) ∧ Below w.heap.size w w' := by
  refine ((callsIn_wide (n := 3)).1 (deltas_in Fence.wide 3 trivial trivial trivial rfl (Nat.le_refl _) A cap xs hx w hc)).mono ?_
  rintro e w' ⟨v, rfl, hown, hb⟩
  obtain ⟨A', cap', rfl, ha, hfr, hcp⟩ := own_at hown
  rw [dl_len] at hcp ⊢
  exact ⟨A', cap', rfl, hcp, hfr, ha, hb⟩
end Go.Proofs.Ytacnbgfddidfiaa
