/-
 runs' pieces: each number of a list with how often it stands there.
 runs' pieces as a function; Runs.
 The document's Runs.
 May these be runs? the program's, and the document's.
 How many numbers runs spread to; one run laid; Spread.
 Spread, the program's.
 Spread, the document's.
-/
import Derived.Test.YtojhenpaeedimaaGreatDg
import Derived.Test.YtojhenpaeedimaaGreatMg
import Derived.Test.YtojhenpaeedimaaGreatRa
import Derived.Test.YtojhenpaeedimaaGreatTl
import Derived.Deep.RegionHeldLaw
import Derived.Test.YtojhenpaeedimaaGreatBl
import Derived.Test.YtojhenpaeedimaaGreatMt
import Derived.Sort.QuietIn
import Derived.Sort.LoopGhostIn
import Derived.Deep.RegionLaw
import Derived.Laws.OwnMore
section
namespace Go.Proofs.YtojhenpaeedimaaGreat
open Dl
namespace Ru
open Go.RowKit Go.IntWalk
open Pk
set_option maxRecDepth 100000
attribute [local go_sem] Oper.semAt_some
/-- what a round must keep: all below n₀, and the box of the slice -/
def KeepB (n₀ Bs : Nat) (W W' : World) : Prop := Below n₀ W W' ∧ W'.heap[Bs]? = W.heap[Bs]?
theorem keepB_t {n₀ Bs : Nat} {A B C : World} (h : KeepB n₀ Bs A B) (k : KeepB n₀ Bs B C) : KeepB n₀ Bs A C := ⟨h.1.trans k.1, k.2.trans h.2⟩
theorem keepB_b {n₀ Bs : Nat} {w : World} (hn : n₀ ≤ w.heap.size) (hb : Bs < w.heap.size) (W : World) (l : Nat) (o o' : Obj) (hl : w.heap.size ≤ l) (h : W.heap[l]? = some o) (h1 : o.isCells = false) (h2 : o.isWalk = false) : KeepB n₀ Bs W (W.putObj l o') :=
 ⟨belowK_b hn W l o o' hl h h1 h2, World.putObj_heap_other (by omega)⟩
theorem keepB_cell {n₀ Bs j : Nat} {W W' : World} (h : KeepB n₀ Bs W W') : W'.cell? ⟨Bs, j, none⟩ = W.cell? ⟨Bs, j, none⟩ := World.cell?_of_block h.2
theorem grown_drewN (W : World) (k : Nat) : W.grownBy (W.drewN k) none := ⟨rfl, rfl, rfl, Nat.le_refl _, fun _ _ _ => rfl⟩
theorem keepB_drewE {n₀ Bs : Nat} {W W' W2 : World} (h : KeepB n₀ Bs W W') (hq : ∃ q, W2 = W'.drewN q) : KeepB n₀ Bs W W2 := by
 obtain ⟨q, rfl⟩ := hq
 exact ⟨below_drewN h.1 q, h.2⟩
theorem runs_drop {xs : List Nat} {s v : Nat} (h : xs[s]? = some v) : rn v 1 (xs.drop (s + 1)) = runsL (xs.drop s) := by
 rw [drop_at_cons h]; rfl
theorem rn_same {xs : List Nat} {j v : Nat} {c : Int} (h : xs[j]? = some v) : rn v c (xs.drop j) = rn v (c + 1) (xs.drop (j + 1)) := by
 rw [drop_at_cons h, rn, if_pos rfl]
theorem rn_other {xs : List Nat} {j v y : Nat} {c : Int} (h : xs[j]? = some y) (hne : y ≠ v) : rn v c (xs.drop j) = (v, c) :: runsL (xs.drop j) := by
 rw [drop_at_cons h, rn, if_neg hne]; rfl
theorem rn_end {xs : List Nat} {v : Nat} {c : Int} : rn v c (xs.drop xs.length) = (v, c) :: runsL (xs.drop xs.length) := by
 rw [List.drop_length]; rfl
set_option maxHeartbeats 4000000 in
theorem pieces1_in (n : Nat) (hn : 1 ≤ n) (l Bs n₀ : Nat) (A : Option Addr) (cap : Nat) (xs : List Nat) (hx : xs.length ≤ 100000) (J Jx : List Run → World → Prop)
  (hJ : ∀ s W k, J s W → J s (W.drewN k))
  (hY : ∀ pre x W, J pre W → pre.length < xs.length → YieldAt Fence.wide (n - 1) Tryz.prog l #[.int .u64 (x.1 : Int), .int .i64 x.2] W fun e W' =>
   (e = .returned (.bool true) ∧ J (pre ++ [x]) W' ∧ KeepB n₀ Bs W W') ∨ (e = .returned (.bool false) ∧ Jx (pre ++ [x]) W'))
  (W : World) (hBs : W.cell? ⟨Bs, 0, none⟩ = some (.slice A xs.length cap)) (hc : At W n₀ A (uvs xs)) (h0 : J [] W) :
  CallsIn Fence.wide n Tryz.prog 201 #[.func (.yield l) #[] #[], .pointer (some ⟨Bs, 0, none⟩)] W fun e W' => (∃ v, e = .returned v) ∧
   ((∃ ys, ys = runsL xs ∧ J ys W') ∨ (∃ pre, pre <+: runsL xs ∧ Jx pre W')) := by
 have HC := Lib.hid hc
 have HB := Lib.hid hBs
 have HJ := Lib.hid hJ
 have hY' := fun pre (v : Nat) (c : Int) => hY pre (v, c)
 dsimp only at hY'
 have HY' := Lib.hid hY'
 clear hc hBs hJ hY hY'
 refine callsIn_of_wp Tryz.func201 rfl trivial ?_ rfl
 simp only [Tryz.ntmps201, List.size_toArray, List.length_cons, List.length_nil, Nat.reduceAdd, Nat.reduceSub, Array.replicate_succ, Array.replicate_zero, List.push_toArray, List.append_toArray, List.nil_append, List.cons_append]
 gi_wp2
 gi_loopg [3] xs.length (fun m s0 wr => ∃ (s : Nat) (pre : List Run), s0 = .int .i64 (s : Int) ∧ xs.length - s ≤ m ∧ s ≤ xs.length ∧ pre.length ≤ s ∧ pre ++ runsL (xs.drop s) = runsL xs ∧ J pre wr ∧ KeepB n₀ Bs W wr)
 case atStart => exact ⟨0, [], rfl, by simp, Nat.zero_le _, Nat.le_refl _, rfl, h0, ⟨Below.refl _ _, rfl⟩⟩
 case round =>
  obtain ⟨s, pre, rfl, hms, hs, hps, heq, hJs, hk⟩ := hrel
  have HE := Lib.hid heq
  have hbox := (keepB_cell hk).trans HB.out
  clear heq
  by_cases hlt : s < xs.length
  ·obtain ⟨v, hv⟩ := some_at hlt
   have HV := Lib.hid hv
   obtain ⟨b, off, rfl, hbl, hcell⟩ := (HC.out.below hk.1) s _ (uvs_at hv)
   clear hv
   gi_wp2
   gi_loopg [4] xs.length (fun m e0 wr2 => ∃ j : Nat, e0 = .int .i64 (j : Int) ∧ xs.length - j ≤ m ∧ s < j ∧ j ≤ xs.length ∧ rn v ((j : Int) - (s : Int)) (xs.drop j) = runsL (xs.drop s) ∧ ∃ q, wr2 = wr.drewN q)
   case atStart => exact ⟨s + 1, by simp, by omega, by omega, by omega, by rw [← runs_drop HV.out]; congr 1; omega, 0, rfl⟩
   case round =>
    rename_i gk2 wr2
    obtain ⟨j, rfl, hmj, hsj, hjl, hrn, hq⟩ := hrel
    have HRN := Lib.hid hrn
    have HQ := Lib.hid hq
    have hk2 := keepB_drewE hk hq
    have hJ2 : J pre wr := by obtain ⟨q, hq⟩ := hq; rw [hq]; exact HJ.out _ _ q hJs
    have hbox2 := (keepB_cell hk2).trans HB.out
    obtain ⟨b', off', hbe, _, hcell2⟩ := (HC.out.below hk2.1) s _ (uvs_at HV.out)
    cases hbe
    clear hrn hq hbox hcell
    have hsl : (s : Int) < (xs.length : Int) := by omega
    have hs0 : (0 : Int) ≤ (s : Int) := by omega
    by_cases hjlt : j < xs.length
    ·obtain ⟨y, hy⟩ := some_at hjlt
     obtain ⟨b', off', hbe, _, hcell3⟩ := (HC.out.below hk2.1) j _ (uvs_at hy)
     cases hbe
     have HY := Lib.hid hy
     have hjl2 : (j : Int) < (xs.length : Int) := by omega
     clear hy
     by_cases hyv : y = v
     ·subst hyv
      have hee : ((y : Int) == (y : Int)) = true := by simp
      gi_wp2
      gi_quiet (fail)
      gi_wp2
      gi_roundg (xs.length - (j+1))
      case measure => omega
      case rel =>
       obtain ⟨q, hq⟩ := HQ.out
       exact ⟨j + 1, by simp, Nat.le_refl _, by omega, by omega, by rw [← HRN.out, rn_same HY.out]; congr 1; omega, q + nq, by rw [hq, World.drewN_drewN]⟩
     ·have hee : ((y : Int) == (v : Int)) = false := by simp; omega
      have hsub : IntKind.i64.wrap ((j : Int) - (s : Int)) = (j : Int) - (s : Int) := IntWalk.i64_in _ (by omega)
      gi_wp2
      gi_quiet (fail)
      obtain ⟨fn, tmps, assign, body, hy, hR⟩ := HY'.out pre v ((j : Int) - (s : Int)) _ (HJ.out _ _ nq hJ2) (by omega)
      gi_wp2_with fail
      refine hR.mono ?_
      rintro e w3 (⟨rfl, hJ3, hk3⟩ | ⟨rfl, hJx3⟩)
      ·gi_wp2_with fail
       gi_roundg (xs.length - j)
       case measure => omega
       case rel => exact ⟨j, pre ++ [(v, (j : Int) - (s : Int))], rfl, Nat.le_refl _, hjl, by simp; omega, by rw [List.append_assoc, ← HE.out, ← HRN.out, rn_other HY.out hyv]; rfl, hJ3, keepB_t (keepB_drewE hk2 ⟨nq, rfl⟩) hk3⟩
      ·gi_wp2_with fail
       refine bodyPost_ret (results_none rfl _ _ _) rfl ?_
       exact ⟨⟨_, rfl⟩, .inr ⟨_, ⟨runsL (xs.drop j), by rw [List.append_assoc, ← HE.out, ← HRN.out, rn_other HY.out hyv]; rfl⟩, hJx3⟩⟩
    ·obtain rfl : j = xs.length := by omega
     gi_wp2
     gi_quiet (fail)
     obtain ⟨fn, tmps, assign, body, hy, hR⟩ := HY'.out pre v ((xs.length : Int) - (s : Int)) _ (HJ.out _ _ nq hJ2) (by omega)
     gi_wp2_with fail
     refine hR.mono ?_
     rintro e w3 (⟨rfl, hJ3, hk3⟩ | ⟨rfl, hJx3⟩)
     ·gi_wp2_with fail
      gi_roundg (xs.length - xs.length)
      case measure => omega
      case rel => exact ⟨xs.length, pre ++ [(v, (xs.length : Int) - (s : Int))], rfl, Nat.le_refl _, hjl, by simp; omega, by rw [List.append_assoc, ← HE.out, ← HRN.out, rn_end]; rfl, hJ3, keepB_t (keepB_drewE hk2 ⟨nq, rfl⟩) hk3⟩
     ·gi_wp2_with fail
      refine bodyPost_ret (results_none rfl _ _ _) rfl ?_
      exact ⟨⟨_, rfl⟩, .inr ⟨_, ⟨runsL (xs.drop xs.length), by rw [List.append_assoc, ← HE.out, ← HRN.out, rn_end]; rfl⟩, hJx3⟩⟩
  ·obtain rfl : s = xs.length := by omega
   gi_wp2
   go_end0
   have he := HE.out
   rw [List.drop_length] at he
   exact ⟨⟨_, rfl⟩, .inl ⟨pre, by rw [← he]; simp [runsL], hJs⟩⟩
end Ru
end Go.Proofs.YtojhenpaeedimaaGreat
end
section
namespace Go.Proofs.YtojhenpaeedimaaGreat
open Dl
namespace Ru
open Go.RowKit Go.IntWalk
open Pk
set_option maxRecDepth 100000
attribute [local go_sem] Oper.semAt_some
/-- the cells of a list of runs -/
def rvs (r : List Run) : List Value := r.flatMap fun x => [.int .u64 (x.1 : Int), .int .i64 x.2]
theorem rvs_at {r : List Run} {k : Nat} {x : Run} (h : r[k]? = some x) : (rvs r)[k * 2]? = some (.int .u64 (x.1 : Int)) ∧ (rvs r)[k * 2 + 1]? = some (.int .i64 x.2) := by
 induction r generalizing k with
 | nil => simp at h
 | cons y r ih =>
  have hc : rvs (y :: r) = .int .u64 (y.1 : Int) :: .int .i64 y.2 :: rvs r := rfl
  rw [hc]
  match k, h with
  | 0, h => simp at h; subst h; exact ⟨rfl, rfl⟩
  | k + 1, h =>
   have := ih (k := k) (by simpa using h)
   rw [show (k + 1) * 2 = k * 2 + 1 + 1 by omega]
   simpa using this
theorem rvs_snoc (r : List Run) (v : Nat) (c : Int) : rvs (r ++ [(v, c)]) = rvs r ++ [.int .u64 (v : Int), .int .i64 c] := by simp [rvs]
theorem cells_new (w : World) (t : TypeId) (l : List Value) : ∀ (j : Nat) (u : Value), l[j]? = some u → (w.alloc (.cells l.toArray t)).cell? ((⟨w.heap.size, 0, none⟩ : Addr).add j) = some u := fun j u hj => by
 rw [add_head, is_cell (is_new w t l)]; exact hj
theorem ownFrom_box {β : Type} {B Bs : Nat} {t : TypeId} {v : Value} : OwnFrom B (fun (_ : β) W => Boxed W Bs t v) := fun _ X Y row hs hg hr => by
 refine hs.kept hg (fun e => ?_)
 obtain ⟨_, o, ho, hc⟩ := hr Bs e.symm
 rw [show X.heap[Bs]? = _ from hs] at ho
 cases ho
 cases hc
theorem pieces_stops (n : Nat) (hn : 1 ≤ n) (Bs n₀ : Nat) (A : Option Addr) (cap : Nat) (xs : List Nat) (hx : xs.length ≤ 100000) (w : World)
  (hn₀ : n₀ ≤ w.heap.size) (hs : w.cell? ⟨Bs, 0, none⟩ = some (.slice A xs.length cap)) (hc : At w n₀ A (uvs xs)) :
  SeqStopsK Fence.wide n Tryz.prog 201 #[.pointer (some ⟨Bs, 0, none⟩)] (fun x : Run => #[Value.int .u64 (x.1 : Int), Value.int .i64 x.2]) (KeepB n₀ Bs) (fun ys => ys = runsL xs) (fun pre => pre <+: runsL xs) xs.length w := fun l J Jx W hW hJ _ hY h0 =>
 pieces1_in n hn l Bs n₀ A cap xs hx J Jx (fun s A k hs => hJ s A _ none hs (grown_drewN A k) (fun r e => by cases e)) hY W ((hW.cell (p := ⟨Bs, 0, none⟩) (World.block_lt_of_cell? _ _ hs)).trans hs) (hc.below (hW.mono hn₀)) h0
set_option maxHeartbeats 1000000 in
theorem pieces_in (F : Fence) (n : Nat) (h : F.fn 162) (hro : F.round = none) (A : Option Addr) (len cap : Nat) (w : World) :
  CallsIn F n Tryz.prog 162 #[.slice A len cap] w fun e w' => e = .returned (.func (.func 201) #[] #[.pointer (some ⟨w.heap.size, 0, none⟩)]) ∧
   w' = w.alloc (.cells #[.slice A len cap] 60) := by
 refine callsIn_of_wp Tryz.func162 rfl h ?_ hro
 simp only [Tryz.ntmps162, List.size_toArray, List.length_cons, List.length_nil, Nat.reduceAdd, Nat.reduceSub, Array.replicate_succ, Array.replicate_zero, List.push_toArray, List.append_toArray, List.nil_append, List.cons_append]
 gi_wp2
 go_ret
 exact ⟨rfl, rfl⟩
theorem Tryz.info128 : (Tryz.prog.info? 128).map (fun i => (i.zero, i.size, i.bytes)) = some (some (.agg #[.int .u64 0, .int .i64 0]), 2, 16) := by kernel_rfl
set_option maxHeartbeats 4000000 in
theorem runs_in' (A : Option Addr) (cap : Nat) (xs : List Nat) (hx : xs.length ≤ 100000) (w : World) (hc : At w w.heap.size A (uvs xs)) :
  CallsIn Fence.wide 3 Tryz.prog 96 #[.slice A xs.length cap] w fun e W' => ∃ v, e = .returned v ∧ W'.ownsRow w.heap.size 128 2 v (runsL xs).length (rvs (runsL xs)) ∧ Below w.heap.size w W' := by
 have hro : Fence.wide.round = none := rfl
 obtain ⟨i0, hi, hz0, hz1, hz2⟩ := info_parts Tryz.info128
 have HC := Lib.hid hc
 clear hc
 refine callsIn_of_wp_marks Tryz.func96 rfl trivial ?_ hro
 simp only [Tryz.ntmps96, List.size_toArray, List.length_cons, List.length_nil, Nat.reduceAdd, Nat.reduceSub, Array.replicate_succ, Array.replicate_zero, List.push_toArray, List.append_toArray, List.nil_append, List.cons_append]
 gi_wp2_with fail
 refine ⟨trivial, (pieces_in Fence.wide 2 trivial hro _ _ _ _).mono ?_⟩
 rintro e W1 ⟨rfl, hW1⟩
 have bO := (Boxed.new w 125 (.slice none 0 0)).alloc (.cells #[.slice A xs.length cap] 60)
 have bS := Boxed.new (w.alloc (.cells #[.slice none 0 0] 125)) 60 (.slice A xs.length cap)
 have hb1 : Below w.heap.size w W1 := by rw [hW1]; exact ((Below.refl _ w).alloc (Nat.le_refl _) _).alloc (by simp) _
 have hsz1 : W1.heap.size = w.heap.size + 2 := by rw [hW1]; simp
 rw [← hW1] at bO bS
 rw [World.size_alloc] at bS ⊢
 clear hW1
 have hown1 : W1.ownsRow w.heap.size 128 2 (.slice none 0 0) 0 [] := ⟨rfl, .inl ⟨rfl, rfl⟩⟩
 gi_wp2_with fail
 refine wpIn_rangeFunc_ownG hro (by decide) (gf := 201) (lb := #[.pointer (some ⟨w.heap.size + 1, 0, none⟩)]) rfl trivial (enters_of Tryz.func201 (by kernel_rfl) rfl)
  (pieces_stops 2 (by decide) (w.heap.size + 1) w.heap.size A cap xs hx W1 hb1.size bS.cell (HC.out.below hb1)) keepB_t (keepB_b hb1.size (by omega)) (Below.refl _ _) (fun _ => rfl)
  (fun pre W => ((∃ v, Boxed W w.heap.size 125 v ∧ W.ownsRow w.heap.size 128 2 v pre.length (rvs pre) ∧ True) ∧ Below w.heap.size w W) ∧ Boxed W (w.heap.size + 1) 60 (.slice A xs.length cap))
  (fun _ _ _ => False)
  (OwnFrom.and (OwnFrom.and (Own.from (holdsRow_own w.heap.size w.heap.size 125 128 2 (fun pre => pre.length) (fun pre => rvs pre) (fun _ _ => True)) _) (ownFrom_below (Nat.le_refl _) (by omega))) ownFrom_box)
  (fun _ _ _ _ _ hs _ _ => hs)
  ⟨⟨⟨_, bO, hown1, trivial⟩, hb1⟩, bS⟩
  (fun x => { tmps := #[.slice A xs.length cap, undef, .slice none 0 0, .pointer (some ⟨w.heap.size, 0, none⟩), .int .u64 (x.1 : Int), .int .i64 x.2, .slice A xs.length cap,
   .func (.func 201) #[] #[.pointer (some ⟨w.heap.size + 1, 0, none⟩)], .int .u64 (x.1 : Int), .int .i64 x.2, undef, undef, undef, undef, undef, undef, undef], defers := [] }) ?assign ?body ?done ?stop
 case assign =>
  intro l x W K hK
  gi_wp2
  exact hK
 case body =>
  rintro l pre x W ⟨⟨⟨v, hv, hrow, -⟩, hB⟩, hS⟩ hlt
  have hcv := hv.cell
  have hbs := hB.size
  gi_wp2_with (gi_at_builtin; refine wpListIn_append_own _ rfl _ _ 125 rfl w.heap.size 128 i0 (.agg #[.int .u64 0, .int .i64 0]) 2 16 Tryz.underlying125 hi hz0 hz1 hz2 rfl (by decide) _ _ _ rfl (hrow.alloc _) ⟨W.heap.size, 0, none⟩ 1 1 [.int .u64 (x.1 : Int), .int .i64 x.2] rfl rfl (cells_new _ _ [_, _]) (by simp [Value.oneCell']) (by unfold maxLen; omega) (by omega) (by simp; omega) ?_; intro v' w2 hown' hgrow _; obtain ⟨g', cap', rfl⟩ := ownsRow_succ hown'; have hS1 := (hS.alloc _).kept hgrow (hS.not_row (by decide) hrow); obtain ⟨hv1, hv2, hr2, hk2, hb2⟩ := hv.appended (by decide) hrow hbs (Nat.le_refl _) hown' hgrow; have hc1 := hv1.cell; have hf1 := hv1.frozen)
  have hS2 := hS1.kept (grownBy_setCell' _ w.heap.size (.slice (some ⟨g', 0, none⟩) (pre.length + 1) cap')) (by simp)
  refine ⟨hk2.from _, ⟨hb2, hS2.trans (Eq.symm hS)⟩, ⟨⟨_, hv2, ?_, trivial⟩, hB.trans hb2⟩, hS2⟩
  rw [show pre ++ [x] = pre ++ [(x.1, x.2)] from rfl, rvs_snoc, List.length_append, List.length_singleton]
  exact hr2
 case done =>
  rintro D ys W hD rfl ⟨⟨⟨v, hv, hrow, -⟩, hB⟩, hS⟩ hK
  have hcv := hv.cell
  gi_wp2
  refine ⟨by simp, .inl ⟨_, _, rfl, run_takeDeferred hK, ?_⟩⟩
  exact ⟨_, results_tmp rfl _ _ _, v, rfl, ownsRow_putObj hrow _ hK rfl, hB.trans (belowK_b (w := w) (Nat.le_refl _) W D _ _ (by omega) hK rfl rfl)⟩
 case stop =>
  rintro D c pre W _ _ h _
  exact h.elim
theorem runs_c (A : Option Addr) (cap : Nat) (xs : List Nat) (hx : xs.length ≤ 100000) (w : World) (hc : At w w.heap.size A (uvs xs)) :
  Calls Tryz.prog 96 #[.slice A xs.length cap] w fun e w' => ∃ A' cap', e = .returned (.slice A' (runsL xs).length cap') ∧ (runsL xs).length ≤ cap' ∧ Fresh w.heap.size A' ∧ At w' w'.heap.size A' (rvs (runsL xs)) ∧ Below w.heap.size w w' := by
 refine ((callsIn_wide (n := 3)).1 (runs_in' A cap xs hx w hc)).mono ?_
 rintro e w' ⟨v, rfl, hown, hb⟩
 obtain ⟨A', cap', rfl, ha, hfr, hcp⟩ := own_at hown
 exact ⟨A', cap', rfl, hcp, hfr, ha, hb⟩
end Ru
end Go.Proofs.YtojhenpaeedimaaGreat
end
section
namespace Go.Proofs.YtojhenpaeedimaaGreat
open Dl
namespace Ru
open Go.RowKit Go.IntWalk
open Pk
set_option maxRecDepth 100000
attribute [local go_sem] Oper.semAt_some
end Ru
end Go.Proofs.YtojhenpaeedimaaGreat
end
section
namespace Go.Proofs.YtojhenpaeedimaaGreat
open Dl
namespace Ru
open Go.RowKit Go.IntWalk
open Pk
set_option maxRecDepth 100000
attribute [local go_sem] Oper.semAt_some
theorem run_cells {w : World} {B k : Nat} {A : Option Addr} {r : List Run} {x : Run} (h : At w B A (rvs r)) (hk : r[k]? = some x) :
  ∃ b off, A = some ⟨b, off, none⟩ ∧ b < B ∧ w.cell? ⟨b, off + k * 2, none⟩ = some (.int .u64 (x.1 : Int)) ∧ w.cell? ⟨b, off + k * 2 + 1, none⟩ = some (.int .i64 x.2) := by
 obtain ⟨h1, h2⟩ := rvs_at hk
 obtain ⟨b, off, hA, hlt, hc⟩ := h _ _ h1
 obtain ⟨b', off', hA', _, hc'⟩ := h _ _ h2
 rw [hA] at hA'
 cases hA'
 exact ⟨b, off, hA, hlt, hc, hc'⟩
end Ru
end Go.Proofs.YtojhenpaeedimaaGreat
end
section
namespace Go.Proofs.YtojhenpaeedimaaGreat
open Dl
namespace Ru
open Go.RowKit Go.IntWalk
open Pk
set_option maxRecDepth 100000
attribute [local go_sem] Oper.semAt_some
theorem grown_tr {w w1 w2 : World} {r : Option Nat} (h : w.grownBy w1 r) (k : w1.grownBy w2 r) : w.grownBy w2 r :=
 ⟨k.os.trans h.os, k.tape.trans h.tape, k.output.trans h.output, Nat.le_trans h.size k.size, fun i hi hne => (k.block i (Nat.lt_of_lt_of_le hi h.size) hne).trans (h.block i hi hne)⟩
theorem rep_snoc (v k : Nat) : List.replicate (k + 1) v = List.replicate k v ++ [v] := by rw [List.replicate_succ']
theorem uvs_snoc (xs : List Nat) (v : Nat) : uvs (xs ++ [v]) = uvs xs ++ [.int .u64 (v : Int)] := by simp [uvs]
theorem Tryz.info62 : (Tryz.prog.info? 62).map (fun i => (i.zero, i.size, i.bytes)) = some (some (.int .u64 0), 1, 8) := by kernel_rfl
set_option maxHeartbeats 4000000 in
theorem lay_c (base g n cap v m : Nat) (xs : List Nat) (hm : m ≤ 100000) (_ : n ≤ 100000) (hcap : n + m ≤ cap) (w : World) (hg : g < w.heap.size) (hown : w.ownsRow base 62 1 (.slice (some ⟨g, 0, none⟩) n cap) n (uvs xs)) :
  Calls Tryz.prog 180 #[.slice (some ⟨g, 0, none⟩) n cap, .agg #[.int .u64 (v : Int), .int .i64 (m : Int)]] w fun e w' => e = .returned (.slice (some ⟨g, 0, none⟩) (n + m) cap) ∧
   w'.ownsRow base 62 1 (.slice (some ⟨g, 0, none⟩) (n + m) cap) (n + m) (uvs (xs ++ List.replicate m v)) ∧ w.grownBy w' (some g) := by
 obtain ⟨i0, hi, hz0, hz1, hz2⟩ := info_parts Tryz.info62
 go_enter Tryz.func180, Tryz.ntmps180
 go_wp2_with fail
 go_loopw [0, 7] (fun s i wr => ∃ k : Nat, s = .slice (some ⟨g, 0, none⟩) (n + k) cap ∧ i = .int .i64 (k : Int) ∧ k ≤ m ∧ wr.ownsRow base 62 1 (.slice (some ⟨g, 0, none⟩) (n + k) cap) (n + k) (uvs (xs ++ List.replicate k v)) ∧ w.grownBy wr (some g) ∧ wr.cell? ⟨w.heap.size, 0, none⟩ = some (.int .u64 (v : Int)))
  (fun _ i _ => m - (Go.RowKit.intOf i).toNat)
 case atStart => exact ⟨0, rfl, rfl, Nat.zero_le _, by simpa using hown.alloc _, World.grownBy_alloc _ _ _, by simp⟩
 case round =>
  obtain ⟨k, rfl, rfl, hk, hown, hgr, hcv⟩ := hrel
  by_cases hlt : k < m
  ·go_wp2_with (at_builtin; refine wpList_append_fits _ rfl _ _ 60 rfl base 62 i0 1 Tryz.underlying60 hi hz1 g (n + k) cap _ rfl (hown.alloc _) ⟨wr.heap.size, 0, none⟩ 1 1 [.int .u64 (v : Int)] rfl rfl (cell_one_new _ _ _) (by simp [Value.oneCell']) (by omega) ?_; intro w2 hown' hgrow)
   go_roundw
   case rel =>
    refine ⟨k + 1, rfl, by go_num, by omega, ?_, grown_tr (grown_tr hgr (World.grownBy_alloc _ _ _)) hgrow, ?_⟩
    ·rw [rep_snoc, ← List.append_assoc, uvs_snoc]
     exact hown'
    ·refine only_cell hgrow (p := ⟨w.heap.size, 0, none⟩) ?_ (by show w.heap.size ≠ g; omega)
     exact only_cell (World.grownBy_alloc wr _ (some g)) (p := ⟨w.heap.size, 0, none⟩) hcv (by show w.heap.size ≠ g; omega)
   case measure => simp only [Go.RowKit.intOf]; omega
  ·obtain rfl : k = m := by omega
   go_wp2_with fail
   go_ret
   exact ⟨rfl, hown, hgr⟩
end Ru
end Go.Proofs.YtojhenpaeedimaaGreat
end
section
namespace Go.Proofs.YtojhenpaeedimaaGreat
open Dl
namespace Ru
open Go.RowKit Go.IntWalk
open Pk
set_option maxRecDepth 100000
attribute [local go_sem] Oper.semAt_some
/-- a list and one value more, as the answer of a call -/
def LstEnd (l : List Nat) (t : Value) (w : World) (e : Ending) (w' : World) : Prop :=
 ∃ A cap, e = .returned (.tuple #[.slice A l.length cap, t]) ∧ l.length ≤ cap ∧ Fresh w.heap.size A ∧ At w' w'.heap.size A (uvs l) ∧ Below w.heap.size w w'
theorem lstEnd_nil {t : Value} {w w' : World} (hb : Below w.heap.size w w') : LstEnd [] t w (.returned (.tuple #[.slice none 0 0, t])) w' :=
 ⟨none, 0, rfl, Nat.le_refl _, fun a ha => (by cases ha), At.nil _ _ _, hb⟩
end Ru
end Go.Proofs.YtojhenpaeedimaaGreat
end
section
namespace Go.Proofs.YtojhenpaeedimaaGreat
open Dl
namespace Ru
open Go.RowKit Go.IntWalk
open Pk
set_option maxRecDepth 100000
attribute [local go_sem] Oper.semAt_some
end Ru
end Go.Proofs.YtojhenpaeedimaaGreat
end
