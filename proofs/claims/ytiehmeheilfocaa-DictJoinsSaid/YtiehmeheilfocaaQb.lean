/-
  runs' pieces as a function; Runs.
-/
import Derived.Test.YtiehmeheilfocaaQa
namespace Go.Proofs.Ytiehmeheilfocaa
open Go.RowKit Go.IntWalk
open Pk
set_option maxRecDepth 100000
attribute [local go_sem] Oper.semAt_some

/-- the cells of a list of runs -/
def rvs (r : List Run) : List Value := r.flatMap fun x => [.int .u64 (x.1 : Int), .int .i64 x.2]
theorem rvs_len (r : List Run) : (rvs r).length = r.length * 2 := by
  induction r with
  | nil => rfl
  | cons x r ih =>
    have h : rvs (x :: r) = .int .u64 (x.1 : Int) :: .int .i64 x.2 :: rvs r := rfl
    rw [h, List.length_cons, List.length_cons, ih, List.length_cons]
    omega
theorem rvs_at {r : List Run} {k : Nat} {x : Run} (h : r[k]? = some x) : (rvs r)[k * 2]? = some (.int .u64 (x.1 : Int)) ∧ (rvs r)[k * 2 + 1]? = some (.int .i64 x.2) := by
  induction r generalizing k with
  | nil => simp at h
  | cons y r ih =>
    have hc : rvs (y :: r) = .int .u64 (y.1 : Int) :: .int .i64 y.2 :: rvs r := rfl
    rw [hc]
    match k, h with
    | 0, h => simp at h; subst h; exact ⟨rfl, rfl⟩
    | k + 1, h =>
      have := ih (k := k) (by simpa using h)
      rw [show (k + 1) * 2 = k * 2 + 1 + 1 by omega]
      simpa using this
theorem rvs_snoc (r : List Run) (v : Nat) (c : Int) : rvs (r ++ [(v, c)]) = rvs r ++ [.int .u64 (v : Int), .int .i64 c] := by simp [rvs]

theorem cells_new (w : World) (t : TypeId) (l : List Value) : ∀ (j : Nat) (u : Value), l[j]? = some u → (w.alloc (.cells l.toArray t)).cell? ((⟨w.heap.size, 0, none⟩ : Addr).add j) = some u := fun j u hj => by
  rw [add_head, is_cell (is_new w t l)]; exact hj
theorem ownFrom_box {β : Type} {B Bs : Nat} {t : TypeId} {v : Value} : OwnFrom B (fun (_ : β) W => Boxed W Bs t v) := fun _ X Y row hs hg hr => by
  refine hs.kept hg (fun e => ?_)
  obtain ⟨_, o, ho, hc⟩ := hr Bs e.symm
  rw [show X.heap[Bs]? = _ from hs] at ho
  cases ho
  cases hc

theorem pieces_stops (n : Nat) (hn : 1 ≤ n) (Bs n₀ : Nat) (A : Option Addr) (cap : Nat) (xs : List Nat) (hx : xs.length ≤ 100000) (w : World)
    (hn₀ : n₀ ≤ w.heap.size) (hs : w.cell? ⟨Bs, 0, none⟩ = some (.slice A xs.length cap)) (hc : At w n₀ A (uvs xs)) :
    SeqStopsK Fence.wide n Try.prog 82 #[.pointer (some ⟨Bs, 0, none⟩)] (fun x : Run => #[Value.int .u64 (x.1 : Int), Value.int .i64 x.2]) (KeepB n₀ Bs) (fun ys => ys = runsL xs) (fun pre => pre <+: runsL xs) xs.length w := fun l J Jx W hW hJ _ hY h0 =>
  pieces1_in n hn l Bs n₀ A cap xs hx J Jx (fun s A k hs => hJ s A _ none hs (grown_drewN A k) (fun r e => by cases e)) hY W ((hW.cell (p := ⟨Bs, 0, none⟩) (World.block_lt_of_cell? _ _ hs)).trans hs) (hc.below (hW.mono hn₀)) h0

set_option maxHeartbeats 1000000 in
theorem pieces_in (F : Fence) (n : Nat) (h : F.fn 78) (hro : F.round = none) (A : Option Addr) (len cap : Nat) (w : World) :
    CallsIn F n Try.prog 78 #[.slice A len cap] w fun e w' => e = .returned (.func (.func 82) #[] #[.pointer (some ⟨w.heap.size, 0, none⟩)]) ∧
      w' = w.alloc (.cells #[.slice A len cap] 40) := by
  refine callsIn_of_wp Try.func78 rfl h ?_ hro
  simp only [Try.ntmps78, List.size_toArray, List.length_cons, List.length_nil, Nat.reduceAdd, Nat.reduceSub, Array.replicate_succ, Array.replicate_zero, List.push_toArray, List.append_toArray, List.nil_append, List.cons_append]
  gi_wp2
  go_ret
  exact ⟨rfl, rfl⟩

theorem Try.info100 : (Try.prog.info? 100).map (fun i => (i.zero, i.size, i.bytes)) = some (some (.agg #[.int .u64 0, .int .i64 0]), 2, 16) := by kernel_rfl

set_option maxHeartbeats 4000000 in
theorem runs_in' (A : Option Addr) (cap : Nat) (xs : List Nat) (hx : xs.length ≤ 100000) (w : World) (hc : At w w.heap.size A (uvs xs)) :
    CallsIn Fence.wide 3 Try.prog 68 #[.slice A xs.length cap] w fun e W' => ∃ v, e = .returned v ∧ W'.ownsRow w.heap.size 100 2 v (runsL xs).length (rvs (runsL xs)) ∧ Below w.heap.size w W' := by
  have hro : Fence.wide.round = none := rfl
  obtain ⟨i0, hi, hz0, hz1, hz2⟩ := info_parts Try.info100
  have HC := Lib.hid hc
  clear hc
  refine callsIn_of_wp_marks Try.func68 rfl trivial ?_ hro
  simp only [Try.ntmps68, List.size_toArray, List.length_cons, List.length_nil, Nat.reduceAdd, Nat.reduceSub, Array.replicate_succ, Array.replicate_zero, List.push_toArray, List.append_toArray, List.nil_append, List.cons_append]
  gi_wp2_with fail
  refine ⟨trivial, (pieces_in Fence.wide 2 trivial hro _ _ _ _).mono ?_⟩
  rintro e W1 ⟨rfl, hW1⟩
  have bO := (Boxed.new w 97 (.slice none 0 0)).alloc (.cells #[.slice A xs.length cap] 40)
  have bS := Boxed.new (w.alloc (.cells #[.slice none 0 0] 97)) 40 (.slice A xs.length cap)
  have hb1 : Below w.heap.size w W1 := by rw [hW1]; exact ((Below.refl _ w).alloc (Nat.le_refl _) _).alloc (by simp) _
  have hsz1 : W1.heap.size = w.heap.size + 2 := by rw [hW1]; simp
  rw [← hW1] at bO bS
  rw [World.size_alloc] at bS ⊢
  clear hW1
  have hown1 : W1.ownsRow w.heap.size 100 2 (.slice none 0 0) 0 [] := ⟨rfl, .inl ⟨rfl, rfl⟩⟩
  gi_wp2_with fail
  refine wpIn_rangeFunc_ownG hro (by decide) (gf := 82) (lb := #[.pointer (some ⟨w.heap.size + 1, 0, none⟩)]) rfl trivial (enters_of Try.func82 (by kernel_rfl) rfl)
    (pieces_stops 2 (by decide) (w.heap.size + 1) w.heap.size A cap xs hx W1 hb1.size bS.cell (HC.out.below hb1)) keepB_t (keepB_b hb1.size (by omega)) (Below.refl _ _) (fun _ => rfl)
    (fun pre W => ((∃ v, Boxed W w.heap.size 97 v ∧ W.ownsRow w.heap.size 100 2 v pre.length (rvs pre) ∧ True) ∧ Below w.heap.size w W) ∧ Boxed W (w.heap.size + 1) 40 (.slice A xs.length cap))
    (fun _ _ _ => False)
    (OwnFrom.and (OwnFrom.and (Own.from (holdsRow_own w.heap.size w.heap.size 97 100 2 (fun pre => pre.length) (fun pre => rvs pre) (fun _ _ => True)) _) (ownFrom_below (Nat.le_refl _) (by omega))) ownFrom_box)
    (fun _ _ _ _ _ hs _ _ => hs)
    ⟨⟨⟨_, bO, hown1, trivial⟩, hb1⟩, bS⟩
    (fun x => { tmps := #[.slice A xs.length cap, undef, .slice none 0 0, .pointer (some ⟨w.heap.size, 0, none⟩), .int .u64 (x.1 : Int), .int .i64 x.2, .slice A xs.length cap,
      .func (.func 82) #[] #[.pointer (some ⟨w.heap.size + 1, 0, none⟩)], .int .u64 (x.1 : Int), .int .i64 x.2, undef, undef, undef, undef, undef, undef, undef], defers := [] }) ?assign ?body ?done ?stop
  case assign =>
    intro l x W K hK
    gi_wp2
    exact hK
  case body =>
    rintro l pre x W ⟨⟨⟨v, hv, hrow, -⟩, hB⟩, hS⟩ hlt
    have hcv := hv.cell
    have hbs := hB.size
    gi_wp2_with (gi_at_builtin; refine wpListIn_append_own _ rfl _ _ 97 rfl w.heap.size 100 i0 (.agg #[.int .u64 0, .int .i64 0]) 2 16 Try.underlying97 hi hz0 hz1 hz2 rfl (by decide) _ _ _ rfl (hrow.alloc _) ⟨W.heap.size, 0, none⟩ 1 1 [.int .u64 (x.1 : Int), .int .i64 x.2] rfl rfl (cells_new _ _ [_, _]) (by simp [Value.oneCell']) (by unfold maxLen; omega) (by omega) (by simp; omega) ?_; intro v' w2 hown' hgrow _; obtain ⟨g', cap', rfl⟩ := ownsRow_succ hown'; have hS1 := (hS.alloc _).kept hgrow (hS.not_row (by decide) hrow); obtain ⟨hv1, hv2, hr2, hk2, hb2⟩ := hv.appended (by decide) hrow hbs (Nat.le_refl _) hown' hgrow; have hc1 := hv1.cell; have hf1 := hv1.frozen)
    have hS2 := hS1.kept (grownBy_setCell' _ w.heap.size (.slice (some ⟨g', 0, none⟩) (pre.length + 1) cap')) (by simp)
    refine ⟨hk2.from _, ⟨hb2, hS2.trans (Eq.symm hS)⟩, ⟨⟨_, hv2, ?_, trivial⟩, hB.trans hb2⟩, hS2⟩
    rw [show pre ++ [x] = pre ++ [(x.1, x.2)] from rfl, rvs_snoc, List.length_append, List.length_singleton]
    exact hr2
  case done =>
    rintro D ys W hD rfl ⟨⟨⟨v, hv, hrow, -⟩, hB⟩, hS⟩ hK
    have hcv := hv.cell
    gi_wp2
    refine ⟨by simp, .inl ⟨_, _, rfl, run_takeDeferred hK, ?_⟩⟩
    exact ⟨_, results_tmp rfl _ _ _, v, rfl, ownsRow_putObj hrow _ hK rfl, hB.trans (belowK_b (w := w) (Nat.le_refl _) W D _ _ (by omega) hK rfl rfl)⟩
  case stop =>
    rintro D c pre W _ _ h _
    exact h.elim

theorem runs_c (A : Option Addr) (cap : Nat) (xs : List Nat) (hx : xs.length ≤ 100000) (w : World) (hc : At w w.heap.size A (uvs xs)) :
    Calls Try.prog 68 #[.slice A xs.length cap] w fun e w' => ∃ A' cap', e = .returned (.slice A' (runsL xs).length cap') ∧ (runsL xs).length ≤ cap' ∧ Fresh w.heap.size A' ∧ At w' w'.heap.size A' (rvs (runsL xs)) ∧ Below w.heap.size w w' := by
  refine ((callsIn_wide (n := 3)).1 (runs_in' A cap xs hx w hc)).mono ?_
  rintro e w' ⟨v, rfl, hown, hb⟩
  obtain ⟨A', cap', rfl, ha, hfr, hcp⟩ := own_at hown
  exact ⟨A', cap', rfl, hcp, hfr, ha, hb⟩
end Go.Proofs.Ytiehmeheilfocaa
