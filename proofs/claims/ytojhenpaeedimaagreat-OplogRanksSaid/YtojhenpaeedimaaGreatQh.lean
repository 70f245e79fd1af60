/-
 runs' pieces: each number of a list with how often it stands there.
 runs' pieces as a function; Runs.
 The document's Runs.
 May these be runs? the program's, and the document's.
 How many numbers runs spread to; one run laid; Spread.
 Spread, the program's.
 Spread, the document's.
 Encode of runs, the program's and the document's.
-/
import Derived.Test.YtojhenpaeedimaaGreatDe
import Derived.Test.YtojhenpaeedimaaGreatMg
import Derived.Test.YtojhenpaeedimaaGreatRa
import Derived.Test.YtojhenpaeedimaaGreatDa
import Derived.Deep.RegionHeldLaw
import Derived.Test.YtojhenpaeedimaaGreatBl
import Derived.Test.YtojhenpaeedimaaGreatMt
import Derived.Sort.QuietIn
import Derived.Sort.LoopGhostIn
import Derived.Laws.OwnMore
import Derived.Test.YtojhenpaeedimaaGreatDg
import Derived.Deep.RegionHeld3
section
namespace Go.Proofs.YtojhenpaeedimaaGreat
open Dl
namespace Ru
open Go.RowKit Go.IntWalk
open Pk
set_option maxRecDepth 100000
attribute [local go_sem] Oper.semAt_some
/-- what a round must keep: all below n₀, and the box of the slice -/
def KeepB (n₀ Bs : Nat) (W W' : World) : Prop := Below n₀ W W' ∧ W'.heap[Bs]? = W.heap[Bs]?
theorem keepB_t {n₀ Bs : Nat} {A B C : World} (h : KeepB n₀ Bs A B) (k : KeepB n₀ Bs B C) : KeepB n₀ Bs A C := ⟨h.1.trans k.1, k.2.trans h.2⟩
theorem keepB_b {n₀ Bs : Nat} {w : World} (hn : n₀ ≤ w.heap.size) (hb : Bs < w.heap.size) (W : World) (l : Nat) (o o' : Obj) (hl : w.heap.size ≤ l) (h : W.heap[l]? = some o) (h1 : o.isCells = false) (h2 : o.isWalk = false) : KeepB n₀ Bs W (W.putObj l o') :=
 ⟨belowK_b hn W l o o' hl h h1 h2, World.putObj_heap_other (by omega)⟩
theorem keepB_cell {n₀ Bs j : Nat} {W W' : World} (h : KeepB n₀ Bs W W') : W'.cell? ⟨Bs, j, none⟩ = W.cell? ⟨Bs, j, none⟩ := World.cell?_of_block h.2
theorem grown_drewN (W : World) (k : Nat) : W.grownBy (W.drewN k) none := ⟨rfl, rfl, rfl, Nat.le_refl _, fun _ _ _ => rfl⟩
theorem keepB_drewE {n₀ Bs : Nat} {W W' W2 : World} (h : KeepB n₀ Bs W W') (hq : ∃ q, W2 = W'.drewN q) : KeepB n₀ Bs W W2 := by
 obtain ⟨q, rfl⟩ := hq
 exact ⟨below_drewN h.1 q, h.2⟩
theorem runs_drop {xs : List Nat} {s v : Nat} (h : xs[s]? = some v) : rn v 1 (xs.drop (s + 1)) = runsL (xs.drop s) := by
 rw [drop_at_cons h]; rfl
theorem rn_same {xs : List Nat} {j v : Nat} {c : Int} (h : xs[j]? = some v) : rn v c (xs.drop j) = rn v (c + 1) (xs.drop (j + 1)) := by
 rw [drop_at_cons h, rn, if_pos rfl]
theorem rn_other {xs : List Nat} {j v y : Nat} {c : Int} (h : xs[j]? = some y) (hne : y ≠ v) : rn v c (xs.drop j) = (v, c) :: runsL (xs.drop j) := by
 rw [drop_at_cons h, rn, if_neg hne]; rfl
theorem rn_end {xs : List Nat} {v : Nat} {c : Int} : rn v c (xs.drop xs.length) = (v, c) :: runsL (xs.drop xs.length) := by
 rw [List.drop_length]; rfl
set_option maxHeartbeats 4000000 in
theorem pieces1_in (n : Nat) (hn : 1 ≤ n) (l Bs n₀ : Nat) (A : Option Addr) (cap : Nat) (xs : List Nat) (hx : xs.length ≤ 100000) (J Jx : List Run → World → Prop)
  (hJ : ∀ s W k, J s W → J s (W.drewN k))
  (hY : ∀ pre x W, J pre W → pre.length < xs.length → YieldAt Fence.wide (n - 1) Tryz.prog l #[.int .u64 (x.1 : Int), .int .i64 x.2] W fun e W' =>
   (e = .returned (.bool true) ∧ J (pre ++ [x]) W' ∧ KeepB n₀ Bs W W') ∨ (e = .returned (.bool false) ∧ Jx (pre ++ [x]) W'))
  (W : World) (hBs : W.cell? ⟨Bs, 0, none⟩ = some (.slice A xs.length cap)) (hc : At W n₀ A (uvs xs)) (h0 : J [] W) :
  CallsIn Fence.wide n Tryz.prog 201 #[.func (.yield l) #[] #[], .pointer (some ⟨Bs, 0, none⟩)] W fun e W' => (∃ v, e = .returned v) ∧
   ((∃ ys, ys = runsL xs ∧ J ys W') ∨ (∃ pre, pre <+: runsL xs ∧ Jx pre W')) := by
 have HC := Lib.hid hc
 have HB := Lib.hid hBs
 have HJ := Lib.hid hJ
 have hY' := fun pre (v : Nat) (c : Int) => hY pre (v, c)
 dsimp only at hY'
 have HY' := Lib.hid hY'
 clear hc hBs hJ hY hY'
 refine callsIn_of_wp Tryz.func201 rfl trivial ?_ rfl
 simp only [Tryz.ntmps201, List.size_toArray, List.length_cons, List.length_nil, Nat.reduceAdd, Nat.reduceSub, Array.replicate_succ, Array.replicate_zero, List.push_toArray, List.append_toArray, List.nil_append, List.cons_append]
 gi_wp2
 gi_loopg [3] xs.length (fun m s0 wr => ∃ (s : Nat) (pre : List Run), s0 = .int .i64 (s : Int) ∧ xs.length - s ≤ m ∧ s ≤ xs.length ∧ pre.length ≤ s ∧ pre ++ runsL (xs.drop s) = runsL xs ∧ J pre wr ∧ KeepB n₀ Bs W wr)
 case atStart => exact ⟨0, [], rfl, by simp, Nat.zero_le _, Nat.le_refl _, rfl, h0, ⟨Below.refl _ _, rfl⟩⟩
 case round =>
  obtain ⟨s, pre, rfl, hms, hs, hps, heq, hJs, hk⟩ := hrel
  have HE := Lib.hid heq
  have hbox := (keepB_cell hk).trans HB.out
  clear heq
  by_cases hlt : s < xs.length
  ·obtain ⟨v, hv⟩ := some_at hlt
   have HV := Lib.hid hv
   obtain ⟨b, off, rfl, hbl, hcell⟩ := (HC.out.below hk.1) s _ (uvs_at hv)
   clear hv
   gi_wp2
   gi_loopg [4] xs.length (fun m e0 wr2 => ∃ j : Nat, e0 = .int .i64 (j : Int) ∧ xs.length - j ≤ m ∧ s < j ∧ j ≤ xs.length ∧ rn v ((j : Int) - (s : Int)) (xs.drop j) = runsL (xs.drop s) ∧ ∃ q, wr2 = wr.drewN q)
   case atStart => exact ⟨s + 1, by simp, by omega, by omega, by omega, by rw [← runs_drop HV.out]; congr 1; omega, 0, rfl⟩
   case round =>
    rename_i gk2 wr2
    obtain ⟨j, rfl, hmj, hsj, hjl, hrn, hq⟩ := hrel
    have HRN := Lib.hid hrn
    have HQ := Lib.hid hq
    have hk2 := keepB_drewE hk hq
    have hJ2 : J pre wr := by obtain ⟨q, hq⟩ := hq; rw [hq]; exact HJ.out _ _ q hJs
    have hbox2 := (keepB_cell hk2).trans HB.out
    obtain ⟨b', off', hbe, _, hcell2⟩ := (HC.out.below hk2.1) s _ (uvs_at HV.out)
    cases hbe
    clear hrn hq hbox hcell
    have hsl : (s : Int) < (xs.length : Int) := by omega
    have hs0 : (0 : Int) ≤ (s : Int) := by omega
    by_cases hjlt : j < xs.length
    ·obtain ⟨y, hy⟩ := some_at hjlt
     obtain ⟨b', off', hbe, _, hcell3⟩ := (HC.out.below hk2.1) j _ (uvs_at hy)
     cases hbe
     have HY := Lib.hid hy
     have hjl2 : (j : Int) < (xs.length : Int) := by omega
     clear hy
     by_cases hyv : y = v
     ·subst hyv
      have hee : ((y : Int) == (y : Int)) = true := by simp
      gi_wp2
      gi_quiet (fail)
      gi_wp2
      gi_roundg (xs.length - (j+1))
      case measure => omega
      case rel =>
       obtain ⟨q, hq⟩ := HQ.out
       exact ⟨j + 1, by simp, Nat.le_refl _, by omega, by omega, by rw [← HRN.out, rn_same HY.out]; congr 1; omega, q + nq, by rw [hq, World.drewN_drewN]⟩
     ·have hee : ((y : Int) == (v : Int)) = false := by simp; omega
      have hsub : IntKind.i64.wrap ((j : Int) - (s : Int)) = (j : Int) - (s : Int) := IntWalk.i64_in _ (by omega)
      gi_wp2
      gi_quiet (fail)
      obtain ⟨fn, tmps, assign, body, hy, hR⟩ := HY'.out pre v ((j : Int) - (s : Int)) _ (HJ.out _ _ nq hJ2) (by omega)
      gi_wp2_with fail
      refine hR.mono ?_
      rintro e w3 (⟨rfl, hJ3, hk3⟩ | ⟨rfl, hJx3⟩)
      ·gi_wp2_with fail
       gi_roundg (xs.length - j)
       case measure => omega
       case rel => exact ⟨j, pre ++ [(v, (j : Int) - (s : Int))], rfl, Nat.le_refl _, hjl, by simp; omega, by rw [List.append_assoc, ← HE.out, ← HRN.out, rn_other HY.out hyv]; rfl, hJ3, keepB_t (keepB_drewE hk2 ⟨nq, rfl⟩) hk3⟩
      ·gi_wp2_with fail
       refine bodyPost_ret (results_none rfl _ _ _) rfl ?_
       exact ⟨⟨_, rfl⟩, .inr ⟨_, ⟨runsL (xs.drop j), by rw [List.append_assoc, ← HE.out, ← HRN.out, rn_other HY.out hyv]; rfl⟩, hJx3⟩⟩
    ·obtain rfl : j = xs.length := by omega
     gi_wp2
     gi_quiet (fail)
     obtain ⟨fn, tmps, assign, body, hy, hR⟩ := HY'.out pre v ((xs.length : Int) - (s : Int)) _ (HJ.out _ _ nq hJ2) (by omega)
     gi_wp2_with fail
     refine hR.mono ?_
     rintro e w3 (⟨rfl, hJ3, hk3⟩ | ⟨rfl, hJx3⟩)
     ·gi_wp2_with fail
      gi_roundg (xs.length - xs.length)
      case measure => omega
      case rel => exact ⟨xs.length, pre ++ [(v, (xs.length : Int) - (s : Int))], rfl, Nat.le_refl _, hjl, by simp; omega, by rw [List.append_assoc, ← HE.out, ← HRN.out, rn_end]; rfl, hJ3, keepB_t (keepB_drewE hk2 ⟨nq, rfl⟩) hk3⟩
     ·gi_wp2_with fail
      refine bodyPost_ret (results_none rfl _ _ _) rfl ?_
      exact ⟨⟨_, rfl⟩, .inr ⟨_, ⟨runsL (xs.drop xs.length), by rw [List.append_assoc, ← HE.out, ← HRN.out, rn_end]; rfl⟩, hJx3⟩⟩
  ·obtain rfl : s = xs.length := by omega
   gi_wp2
   go_end0
   have he := HE.out
   rw [List.drop_length] at he
   exact ⟨⟨_, rfl⟩, .inl ⟨pre, by rw [← he]; simp [runsL], hJs⟩⟩
end Ru
end Go.Proofs.YtojhenpaeedimaaGreat
end
section
namespace Go.Proofs.YtojhenpaeedimaaGreat
open Dl
namespace Ru
open Go.RowKit Go.IntWalk
open Pk
set_option maxRecDepth 100000
attribute [local go_sem] Oper.semAt_some
/-- the cells of a list of runs -/
def rvs (r : List Run) : List Value := r.flatMap fun x => [.int .u64 (x.1 : Int), .int .i64 x.2]
theorem rvs_len (r : List Run) : (rvs r).length = r.length * 2 := by
 induction r with
 | nil => rfl
 | cons x r ih =>
  have h : rvs (x :: r) = .int .u64 (x.1 : Int) :: .int .i64 x.2 :: rvs r := rfl
  rw [h, List.length_cons, List.length_cons, ih, List.length_cons]
  omega
theorem rvs_at {r : List Run} {k : Nat} {x : Run} (h : r[k]? = some x) : (rvs r)[k * 2]? = some (.int .u64 (x.1 : Int)) ∧ (rvs r)[k * 2 + 1]? = some (.int .i64 x.2) := by
 induction r generalizing k with
 | nil => simp at h
 | cons y r ih =>
  have hc : rvs (y :: r) = .int .u64 (y.1 : Int) :: .int .i64 y.2 :: rvs r := rfl
  rw [hc]
  match k, h with
  | 0, h => simp at h; subst h; exact ⟨rfl, rfl⟩
  | k + 1, h =>
   have := ih (k := k) (by simpa using h)
   rw [show (k + 1) * 2 = k * 2 + 1 + 1 by omega]
   simpa using this
theorem rvs_snoc (r : List Run) (v : Nat) (c : Int) : rvs (r ++ [(v, c)]) = rvs r ++ [.int .u64 (v : Int), .int .i64 c] := by simp [rvs]
theorem cells_new (w : World) (t : TypeId) (l : List Value) : ∀ (j : Nat) (u : Value), l[j]? = some u → (w.alloc (.cells l.toArray t)).cell? ((⟨w.heap.size, 0, none⟩ : Addr).add j) = some u := fun j u hj => by
 rw [add_head, is_cell (is_new w t l)]; exact hj
theorem ownFrom_box {β : Type} {B Bs : Nat} {t : TypeId} {v : Value} : OwnFrom B (fun (_ : β) W => Boxed W Bs t v) := fun _ X Y row hs hg hr => by
 refine hs.kept hg (fun e => ?_)
 obtain ⟨_, o, ho, hc⟩ := hr Bs e.symm
 rw [show X.heap[Bs]? = _ from hs] at ho
 cases ho
 cases hc
theorem pieces_stops (n : Nat) (hn : 1 ≤ n) (Bs n₀ : Nat) (A : Option Addr) (cap : Nat) (xs : List Nat) (hx : xs.length ≤ 100000) (w : World)
  (hn₀ : n₀ ≤ w.heap.size) (hs : w.cell? ⟨Bs, 0, none⟩ = some (.slice A xs.length cap)) (hc : At w n₀ A (uvs xs)) :
  SeqStopsK Fence.wide n Tryz.prog 201 #[.pointer (some ⟨Bs, 0, none⟩)] (fun x : Run => #[Value.int .u64 (x.1 : Int), Value.int .i64 x.2]) (KeepB n₀ Bs) (fun ys => ys = runsL xs) (fun pre => pre <+: runsL xs) xs.length w := fun l J Jx W hW hJ _ hY h0 =>
 pieces1_in n hn l Bs n₀ A cap xs hx J Jx (fun s A k hs => hJ s A _ none hs (grown_drewN A k) (fun r e => by cases e)) hY W ((hW.cell (p := ⟨Bs, 0, none⟩) (World.block_lt_of_cell? _ _ hs)).trans hs) (hc.below (hW.mono hn₀)) h0
set_option maxHeartbeats 1000000 in
theorem pieces_in (F : Fence) (n : Nat) (h : F.fn 162) (hro : F.round = none) (A : Option Addr) (len cap : Nat) (w : World) :
  CallsIn F n Tryz.prog 162 #[.slice A len cap] w fun e w' => e = .returned (.func (.func 201) #[] #[.pointer (some ⟨w.heap.size, 0, none⟩)]) ∧
   w' = w.alloc (.cells #[.slice A len cap] 60) := by
 refine callsIn_of_wp Tryz.func162 rfl h ?_ hro
 simp only [Tryz.ntmps162, List.size_toArray, List.length_cons, List.length_nil, Nat.reduceAdd, Nat.reduceSub, Array.replicate_succ, Array.replicate_zero, List.push_toArray, List.append_toArray, List.nil_append, List.cons_append]
 gi_wp2
 go_ret
 exact ⟨rfl, rfl⟩
theorem Tryz.info128 : (Tryz.prog.info? 128).map (fun i => (i.zero, i.size, i.bytes)) = some (some (.agg #[.int .u64 0, .int .i64 0]), 2, 16) := by kernel_rfl
set_option maxHeartbeats 4000000 in
theorem runs_in' (A : Option Addr) (cap : Nat) (xs : List Nat) (hx : xs.length ≤ 100000) (w : World) (hc : At w w.heap.size A (uvs xs)) :
  CallsIn Fence.wide 3 Tryz.prog 96 #[.slice A xs.length cap] w fun e W' => ∃ v, e = .returned v ∧ W'.ownsRow w.heap.size 128 2 v (runsL xs).length (rvs (runsL xs)) ∧ Below w.heap.size w W' := by
 have hro : Fence.wide.round = none := rfl
 obtain ⟨i0, hi, hz0, hz1, hz2⟩ := info_parts Tryz.info128
 have HC := Lib.hid hc
 clear hc
 refine callsIn_of_wp_marks Tryz.func96 rfl trivial ?_ hro
 simp only [Tryz.ntmps96, List.size_toArray, List.length_cons, List.length_nil, Nat.reduceAdd, Nat.reduceSub, Array.replicate_succ, Array.replicate_zero, List.push_toArray, List.append_toArray, List.nil_append, List.cons_append]
 gi_wp2_with fail
 refine ⟨trivial, (pieces_in Fence.wide 2 trivial hro _ _ _ _).mono ?_⟩
 rintro e W1 ⟨rfl, hW1⟩
 have bO := (Boxed.new w 125 (.slice none 0 0)).alloc (.cells #[.slice A xs.length cap] 60)
 have bS := Boxed.new (w.alloc (.cells #[.slice none 0 0] 125)) 60 (.slice A xs.length cap)
 have hb1 : Below w.heap.size w W1 := by rw [hW1]; exact ((Below.refl _ w).alloc (Nat.le_refl _) _).alloc (by simp) _
 have hsz1 : W1.heap.size = w.heap.size + 2 := by rw [hW1]; simp
 rw [← hW1] at bO bS
 rw [World.size_alloc] at bS ⊢
 clear hW1
 have hown1 : W1.ownsRow w.heap.size 128 2 (.slice none 0 0) 0 [] := ⟨rfl, .inl ⟨rfl, rfl⟩⟩
 gi_wp2_with fail
 refine wpIn_rangeFunc_ownG hro (by decide) (gf := 201) (lb := #[.pointer (some ⟨w.heap.size + 1, 0, none⟩)]) rfl trivial (enters_of Tryz.func201 (by kernel_rfl) rfl)
  (pieces_stops 2 (by decide) (w.heap.size + 1) w.heap.size A cap xs hx W1 hb1.size bS.cell (HC.out.below hb1)) keepB_t (keepB_b hb1.size (by omega)) (Below.refl _ _) (fun _ => rfl)
  (fun pre W => ((∃ v, Boxed W w.heap.size 125 v ∧ W.ownsRow w.heap.size 128 2 v pre.length (rvs pre) ∧ True) ∧ Below w.heap.size w W) ∧ Boxed W (w.heap.size + 1) 60 (.slice A xs.length cap))
  (fun _ _ _ => False)
  (OwnFrom.and (OwnFrom.and (Own.from (holdsRow_own w.heap.size w.heap.size 125 128 2 (fun pre => pre.length) (fun pre => rvs pre) (fun _ _ => True)) _) (ownFrom_below (Nat.le_refl _) (by omega))) ownFrom_box)
  (fun _ _ _ _ _ hs _ _ => hs)
  ⟨⟨⟨_, bO, hown1, trivial⟩, hb1⟩, bS⟩
  (fun x => { tmps := #[.slice A xs.length cap, undef, .slice none 0 0, .pointer (some ⟨w.heap.size, 0, none⟩), .int .u64 (x.1 : Int), .int .i64 x.2, .slice A xs.length cap,
   .func (.func 201) #[] #[.pointer (some ⟨w.heap.size + 1, 0, none⟩)], .int .u64 (x.1 : Int), .int .i64 x.2, undef, undef, undef, undef, undef, undef, undef], defers := [] }) ?assign ?body ?done ?stop
 case assign =>
  intro l x W K hK
  gi_wp2
  exact hK
 case body =>
  rintro l pre x W ⟨⟨⟨v, hv, hrow, -⟩, hB⟩, hS⟩ hlt
  have hcv := hv.cell
  have hbs := hB.size
  gi_wp2_with (gi_at_builtin; refine wpListIn_append_own _ rfl _ _ 125 rfl w.heap.size 128 i0 (.agg #[.int .u64 0, .int .i64 0]) 2 16 Tryz.underlying125 hi hz0 hz1 hz2 rfl (by decide) _ _ _ rfl (hrow.alloc _) ⟨W.heap.size, 0, none⟩ 1 1 [.int .u64 (x.1 : Int), .int .i64 x.2] rfl rfl (cells_new _ _ [_, _]) (by simp [Value.oneCell']) (by unfold maxLen; omega) (by omega) (by simp; omega) ?_; intro v' w2 hown' hgrow _; obtain ⟨g', cap', rfl⟩ := ownsRow_succ hown'; have hS1 := (hS.alloc _).kept hgrow (hS.not_row (by decide) hrow); obtain ⟨hv1, hv2, hr2, hk2, hb2⟩ := hv.appended (by decide) hrow hbs (Nat.le_refl _) hown' hgrow; have hc1 := hv1.cell; have hf1 := hv1.frozen)
  have hS2 := hS1.kept (grownBy_setCell' _ w.heap.size (.slice (some ⟨g', 0, none⟩) (pre.length + 1) cap')) (by simp)
  refine ⟨hk2.from _, ⟨hb2, hS2.trans (Eq.symm hS)⟩, ⟨⟨_, hv2, ?_, trivial⟩, hB.trans hb2⟩, hS2⟩
  rw [show pre ++ [x] = pre ++ [(x.1, x.2)] from rfl, rvs_snoc, List.length_append, List.length_singleton]
  exact hr2
 case done =>
  rintro D ys W hD rfl ⟨⟨⟨v, hv, hrow, -⟩, hB⟩, hS⟩ hK
  have hcv := hv.cell
  gi_wp2
  refine ⟨by simp, .inl ⟨_, _, rfl, run_takeDeferred hK, ?_⟩⟩
  exact ⟨_, results_tmp rfl _ _ _, v, rfl, ownsRow_putObj hrow _ hK rfl, hB.trans (belowK_b (w := w) (Nat.le_refl _) W D _ _ (by omega) hK rfl rfl)⟩
 case stop =>
  rintro D c pre W _ _ h _
  exact h.elim
theorem runs_c (A : Option Addr) (cap : Nat) (xs : List Nat) (hx : xs.length ≤ 100000) (w : World) (hc : At w w.heap.size A (uvs xs)) :
  Calls Tryz.prog 96 #[.slice A xs.length cap] w fun e w' => ∃ A' cap', e = .returned (.slice A' (runsL xs).length cap') ∧ (runsL xs).length ≤ cap' ∧ Fresh w.heap.size A' ∧ At w' w'.heap.size A' (rvs (runsL xs)) ∧ Below w.heap.size w w' := by
 refine ((callsIn_wide (n := 3)).1 (runs_in' A cap xs hx w hc)).mono ?_
 rintro e w' ⟨v, rfl, hown, hb⟩
 obtain ⟨A', cap', rfl, ha, hfr, hcp⟩ := own_at hown
 exact ⟨A', cap', rfl, hcp, hfr, ha, hb⟩
end Ru
end Go.Proofs.YtojhenpaeedimaaGreat
end
section
namespace Go.Proofs.YtojhenpaeedimaaGreat
open Dl
namespace Ru
open Go.RowKit Go.IntWalk
open Pk
set_option maxRecDepth 100000
attribute [local go_sem] Oper.semAt_some
theorem runs_snoc_same {l : List Nat} {v : Nat} (h : l.getLast? = some v) : ∃ a c, runsL l = a ++ [(v, c)] ∧ runsL (l ++ [v]) = a ++ [(v, c + 1)] := by
 obtain ⟨a, c, d, b, h1, h2, h3⟩ := runs_meet (l := l) (m := [v]) h rfl
 have h4 : runsL [v] = [(v, 1)] := rfl
 rw [h4] at h2
 simp only [List.cons.injEq, Prod.mk.injEq, true_and] at h2
 obtain ⟨rfl, rfl⟩ := h2
 exact ⟨a, c, h1, h3⟩
theorem runs_snoc_other {l : List Nat} {v : Nat} (h : l.getLast? ≠ some v) : runsL (l ++ [v]) = runsL l ++ [(v, 1)] :=
 runs_app (l := l) (m := [v]) fun x y hx hy e => h (by simp at hy; subst hy; rw [← e]; exact hx)
theorem take_snoc {xs : List Nat} {k x : Nat} (h : xs[k]? = some x) : xs.take (k + 1) = xs.take k ++ [x] := by rw [List.take_add_one, h]; rfl
theorem take_last {xs : List Nat} {j y : Nat} (h : xs[j]? = some y) : (xs.take (j + 1)).getLast? = some y := by rw [take_snoc h]; simp
theorem rvs_set (a : List Run) (v : Nat) (c d : Int) : (rvs (a ++ [(v, c)])).set (a.length * 2 + 1) (.int .i64 d) = rvs (a ++ [(v, d)]) := by
 rw [rvs_snoc, rvs_snoc, ← rvs_len, List.set_append_right _ _ (by omega)]
 congr 1
 rw [show (rvs a).length + 1 - (rvs a).length = 1 by omega]
 rfl
set_option maxHeartbeats 4000000 in
theorem rruns_c (A : Option Addr) (cap : Nat) (xs : List Nat) (hx : xs.length ≤ 100000) (w : World) (hc : At w w.heap.size A (uvs xs)) :
  Calls Tryz.prog 101 #[.slice A xs.length cap] w fun e w' => ∃ A' cap', e = .returned (.slice A' (runsL xs).length cap') ∧ (runsL xs).length ≤ cap' ∧ Fresh w.heap.size A' ∧ At w' w'.heap.size A' (rvs (runsL xs)) ∧ Below w.heap.size w w' := by
 obtain ⟨i0, hi, hz0, hz1, hz2⟩ := info_parts Tryz.info128
 have HC := Lib.hid hc
 clear hc
 go_enter Tryz.func101, Tryz.ntmps101
 go_wp2_with fail
 go_loopw [3, 4] (fun v i wr => ∃ k : Nat, i = .int .i64 (k : Int) ∧ k ≤ xs.length ∧ wr.ownsRow w.heap.size 128 2 v (runsL (xs.take k)).length (rvs (runsL (xs.take k))) ∧ Below w.heap.size w wr)
  (fun _ i _ => xs.length - (Go.RowKit.intOf i).toNat)
 case atStart => exact ⟨0, rfl, Nat.zero_le _, ⟨rfl, .inl ⟨rfl, rfl⟩⟩, Below.refl _ _⟩
 case round =>
  obtain ⟨k, rfl, hk, hown, hb⟩ := hrel
  have hb0 := hb.size
  have hle : (runsL (xs.take k)).length ≤ 100000 := Nat.le_trans (runs_len _) (by rw [List.length_take]; omega)
  by_cases hlt : k < xs.length
  ·obtain ⟨x, hxk⟩ := some_at hlt
   have HX := Lib.hid hxk
   by_cases h0 : k = 0
   ·subst h0
    have e0 : runsL (xs.take 0) = [] := by rw [List.take_zero]; rfl
    rw [e0] at hown
    obtain ⟨b, off, rfl, hbl, hcell⟩ := (HC.out.below (hb.drew)) 0 _ (uvs_at hxk)
    rw [Nat.add_zero] at hcell
    clear hxk
    go_wp2_with fail
    go_quiet (fail)
    have hown2 : (wr.drewN nq).ownsRow w.heap.size 128 2 _ 0 (rvs []) := hown
    have hbd := below_drewN hb nq
    have hcell' : (wr.drewN nq).cell? _ = _ := hcell
    clear hown hb hcell hb0
    generalize wr.drewN nq = wr2 at hown2 hbd hcell' ⊢
    have hb0 := hbd.size
    go_wp2_with (at_builtin; refine wpList_append_own _ rfl _ _ 125 rfl w.heap.size 128 i0 (.agg #[.int .u64 0, .int .i64 0]) 2 16 Tryz.underlying125 hi hz0 hz1 hz2 rfl (by decide) _ _ _ rfl (hown2.alloc _) ⟨wr2.heap.size, 0, none⟩ 1 1 [.int .u64 (x : Int), .int .i64 1] rfl rfl (cells_new wr2 _ [_, _]) (by simp [Value.oneCell']) (by unfold maxLen; omega) (by omega) (by simp; omega) ?_; intro v' w2 hown' hgrow _)
    have hb2 := Dl.below_ownI hbd hb0 hown2 hgrow
    clear hown2 hgrow hbd hcell'
    go_wp2_with fail
    go_roundw
    case rel =>
     refine ⟨1, by go_num, by omega, ?_, hb2⟩
     have e1 : runsL (xs.take 1) = [(x, 1)] := by
      have := take_snoc HX.out
      rw [Nat.zero_add, List.take_zero, List.nil_append] at this
      rw [this]; rfl
     rw [e1]
     exact hown'
    case measure => simp only [Go.RowKit.intOf]; omega
   ·obtain ⟨j, rfl⟩ : ∃ j, k = j + 1 := ⟨k - 1, by omega⟩
    have hjl : j < xs.length := by omega
    obtain ⟨y, hyj⟩ := some_at hjl
    have hlast := take_last hyj
    have hsn := take_snoc hxk
    obtain ⟨b, off, rfl, hbl, hcell⟩ := (HC.out.below hb) (j + 1) _ (uvs_at hxk)
    obtain ⟨b', off', hbe, _, hcell2⟩ := (HC.out.below hb) j _ (uvs_at hyj)
    cases hbe
    have hjs : (0 : Int) ≤ (j : Int) + 1 := by omega
    have hj1 : decide ((0 : Int) < (j : Int) + 1) = true := by simp
    have hjw : IntKind.i64.wrap (j : Int) = (j : Int) := by rw [i64_left]; exact wrap64_in _ (by omega)
    have HL := Lib.hid hlast
    have HS := Lib.hid hsn
    clear hlast hsn hxk hyj h0
    by_cases hyx : y = x
    ·subst hyx
     have hee : ((y : Int) == (y : Int)) = true := by simp
     obtain ⟨a, c, e1, e2⟩ := runs_snoc_same HL.out
     rw [← HS.out] at e2
     have hci := runs_in (l := xs.take (j + 1)) (x := (y, c)) (by rw [e1]; simp)
     have hc1 : (1 : Int) ≤ c := hci.2.1
     have hc2 : c ≤ 100000 := by have := hci.2.2; rw [List.length_take] at this; omega
     rw [e1, List.length_append, List.length_singleton] at hown
     rw [e1, List.length_append, List.length_singleton] at hle
     obtain ⟨g', cap', rfl⟩ := ownsRow_succ hown
     have hcc := (hown.cellAt (a.length * 2 + 1) (by omega)).trans (rvs_at (r := a ++ [(y, c)]) (k := a.length) (x := (y, c)) (by simp)).2
     have hfr := hown.frozenAt (a.length * 2 + 1)
     have hst := hown.stored (a.length * 2 + 1) (.int .i64 (c + 1))
     rw [rvs_set] at hst
     have HST := Lib.hid hst
     have E2 := Lib.hid e2
     clear hst e1 e2 hci
     go_wp2_with fail
     go_quiet (fail)
     go_wp2_with fail
     go_roundw
     case rel =>
      refine ⟨j + 1 + 1, by go_num, by omega, ?_, below_drewN (hb.grown HST.out.2 hb0 (fun k hk => (hown.lt k hk).1)) nq⟩
      rw [E2.out, List.length_append, List.length_singleton]
      exact HST.out.1
     case measure => simp only [Go.RowKit.intOf]; omega
    ·have hee : ((y : Int) == (x : Int)) = false := by simp; omega
     have e2 := runs_snoc_other (l := xs.take (j + 1)) (v := x) (by rw [HL.out]; intro h; injection h with h; exact hyx h)
     rw [← HS.out] at e2
     have E2 := Lib.hid e2
     clear e2
     go_wp2_with fail
     go_quiet (fail)
     have hown2 : (wr.drewN nq).ownsRow w.heap.size 128 2 _ _ _ := hown
     have hbd := below_drewN hb nq
     have hcell' : (wr.drewN nq).cell? _ = _ := hcell
     clear hown hb hcell hcell2 hb0
     generalize wr.drewN nq = wr2 at hown2 hbd hcell' ⊢
     have hb0 := hbd.size
     go_wp2_with (at_builtin; refine wpList_append_own _ rfl _ _ 125 rfl w.heap.size 128 i0 (.agg #[.int .u64 0, .int .i64 0]) 2 16 Tryz.underlying125 hi hz0 hz1 hz2 rfl (by decide) _ _ _ rfl (hown2.alloc _) ⟨wr2.heap.size, 0, none⟩ 1 1 [.int .u64 (x : Int), .int .i64 1] rfl rfl (cells_new wr2 _ [_, _]) (by simp [Value.oneCell']) (by unfold maxLen; omega) (by omega) (by simp; omega) ?_; intro v' w2 hown' hgrow _)
     have hb2 := Dl.below_ownI hbd hb0 hown2 hgrow
     clear hown2 hgrow hbd hcell'
     go_wp2_with fail
     go_roundw
     case rel =>
      refine ⟨j + 1 + 1, by go_num, by omega, ?_, hb2⟩
      rw [E2.out, List.length_append, List.length_singleton, rvs_snoc]
      exact hown'
     case measure => simp only [Go.RowKit.intOf]; omega
  ·obtain rfl : k = xs.length := by omega
   rw [List.take_length] at hown
   obtain ⟨A', cap', rfl, ha, hfr, hcp⟩ := own_at hown
   go_wp2_with fail
   go_ret
   exact ⟨_, _, rfl, hcp, hfr, ha, hb⟩
end Ru
end Go.Proofs.YtojhenpaeedimaaGreat
end
section
namespace Go.Proofs.YtojhenpaeedimaaGreat
open Dl
namespace Ru
open Go.RowKit Go.IntWalk
open Pk
set_option maxRecDepth 100000
attribute [local go_sem] Oper.semAt_some
theorem run_cells {w : World} {B k : Nat} {A : Option Addr} {r : List Run} {x : Run} (h : At w B A (rvs r)) (hk : r[k]? = some x) :
  ∃ b off, A = some ⟨b, off, none⟩ ∧ b < B ∧ w.cell? ⟨b, off + k * 2, none⟩ = some (.int .u64 (x.1 : Int)) ∧ w.cell? ⟨b, off + k * 2 + 1, none⟩ = some (.int .i64 x.2) := by
 obtain ⟨h1, h2⟩ := rvs_at hk
 obtain ⟨b, off, hA, hlt, hc⟩ := h _ _ h1
 obtain ⟨b', off', hA', _, hc'⟩ := h _ _ h2
 rw [hA] at hA'
 cases hA'
 exact ⟨b, off, hA, hlt, hc, hc'⟩
end Ru
end Go.Proofs.YtojhenpaeedimaaGreat
end
section
namespace Go.Proofs.YtojhenpaeedimaaGreat
open Dl
namespace Ru
open Go.RowKit Go.IntWalk
open Pk
set_option maxRecDepth 100000
attribute [local go_sem] Oper.semAt_some
theorem grown_tr {w w1 w2 : World} {r : Option Nat} (h : w.grownBy w1 r) (k : w1.grownBy w2 r) : w.grownBy w2 r :=
 ⟨k.os.trans h.os, k.tape.trans h.tape, k.output.trans h.output, Nat.le_trans h.size k.size, fun i hi hne => (k.block i (Nat.lt_of_lt_of_le hi h.size) hne).trans (h.block i hi hne)⟩
theorem rep_snoc (v k : Nat) : List.replicate (k + 1) v = List.replicate k v ++ [v] := by rw [List.replicate_succ']
theorem uvs_snoc (xs : List Nat) (v : Nat) : uvs (xs ++ [v]) = uvs xs ++ [.int .u64 (v : Int)] := by simp [uvs]
theorem Tryz.info62 : (Tryz.prog.info? 62).map (fun i => (i.zero, i.size, i.bytes)) = some (some (.int .u64 0), 1, 8) := by kernel_rfl
set_option maxHeartbeats 4000000 in
theorem lay_c (base g n cap v m : Nat) (xs : List Nat) (hm : m ≤ 100000) (_ : n ≤ 100000) (hcap : n + m ≤ cap) (w : World) (hg : g < w.heap.size) (hown : w.ownsRow base 62 1 (.slice (some ⟨g, 0, none⟩) n cap) n (uvs xs)) :
  Calls Tryz.prog 180 #[.slice (some ⟨g, 0, none⟩) n cap, .agg #[.int .u64 (v : Int), .int .i64 (m : Int)]] w fun e w' => e = .returned (.slice (some ⟨g, 0, none⟩) (n + m) cap) ∧
   w'.ownsRow base 62 1 (.slice (some ⟨g, 0, none⟩) (n + m) cap) (n + m) (uvs (xs ++ List.replicate m v)) ∧ w.grownBy w' (some g) := by
 obtain ⟨i0, hi, hz0, hz1, hz2⟩ := info_parts Tryz.info62
 go_enter Tryz.func180, Tryz.ntmps180
 go_wp2_with fail
 go_loopw [0, 7] (fun s i wr => ∃ k : Nat, s = .slice (some ⟨g, 0, none⟩) (n + k) cap ∧ i = .int .i64 (k : Int) ∧ k ≤ m ∧ wr.ownsRow base 62 1 (.slice (some ⟨g, 0, none⟩) (n + k) cap) (n + k) (uvs (xs ++ List.replicate k v)) ∧ w.grownBy wr (some g) ∧ wr.cell? ⟨w.heap.size, 0, none⟩ = some (.int .u64 (v : Int)))
  (fun _ i _ => m - (Go.RowKit.intOf i).toNat)
 case atStart => exact ⟨0, rfl, rfl, Nat.zero_le _, by simpa using hown.alloc _, World.grownBy_alloc _ _ _, by simp⟩
 case round =>
  obtain ⟨k, rfl, rfl, hk, hown, hgr, hcv⟩ := hrel
  by_cases hlt : k < m
  ·go_wp2_with (at_builtin; refine wpList_append_fits _ rfl _ _ 60 rfl base 62 i0 1 Tryz.underlying60 hi hz1 g (n + k) cap _ rfl (hown.alloc _) ⟨wr.heap.size, 0, none⟩ 1 1 [.int .u64 (v : Int)] rfl rfl (cell_one_new _ _ _) (by simp [Value.oneCell']) (by omega) ?_; intro w2 hown' hgrow)
   go_roundw
   case rel =>
    refine ⟨k + 1, rfl, by go_num, by omega, ?_, grown_tr (grown_tr hgr (World.grownBy_alloc _ _ _)) hgrow, ?_⟩
    ·rw [rep_snoc, ← List.append_assoc, uvs_snoc]
     exact hown'
    ·refine only_cell hgrow (p := ⟨w.heap.size, 0, none⟩) ?_ (by show w.heap.size ≠ g; omega)
     exact only_cell (World.grownBy_alloc wr _ (some g)) (p := ⟨w.heap.size, 0, none⟩) hcv (by show w.heap.size ≠ g; omega)
   case measure => simp only [Go.RowKit.intOf]; omega
  ·obtain rfl : k = m := by omega
   go_wp2_with fail
   go_ret
   exact ⟨rfl, hown, hgr⟩
end Ru
end Go.Proofs.YtojhenpaeedimaaGreat
end
section
namespace Go.Proofs.YtojhenpaeedimaaGreat
open Dl
namespace Ru
open Go.RowKit Go.IntWalk
open Pk
set_option maxRecDepth 100000
attribute [local go_sem] Oper.semAt_some
/-- a list and one value more, as the answer of a call -/
def LstEnd (l : List Nat) (t : Value) (w : World) (e : Ending) (w' : World) : Prop :=
 ∃ A cap, e = .returned (.tuple #[.slice A l.length cap, t]) ∧ l.length ≤ cap ∧ Fresh w.heap.size A ∧ At w' w'.heap.size A (uvs l) ∧ Below w.heap.size w w'
theorem lstEnd_nil {t : Value} {w w' : World} (hb : Below w.heap.size w w') : LstEnd [] t w (.returned (.tuple #[.slice none 0 0, t])) w' :=
 ⟨none, 0, rfl, Nat.le_refl _, fun a ha => (by cases ha), At.nil _ _ _, hb⟩
end Ru
end Go.Proofs.YtojhenpaeedimaaGreat
end
section
namespace Go.Proofs.YtojhenpaeedimaaGreat
open Dl
namespace Ru
open Go.RowKit Go.IntWalk
open Pk
set_option maxRecDepth 100000
attribute [local go_sem] Oper.semAt_some
theorem own_snocU {w : World} {base n : Nat} {v : Value} {xs : List Nat} {x : Nat} (h : w.ownsRow base 62 1 v (n + 1) (uvs xs ++ [.int .u64 (x : Int)])) : w.ownsRow base 62 1 v (n + 1) (uvs (xs ++ [x])) := by
 rw [uvs_snoc]; exact h
end Ru
end Go.Proofs.YtojhenpaeedimaaGreat
end
section
namespace Go.Proofs.YtojhenpaeedimaaGreat
open Dl
namespace Ru
open Go.RowKit Go.IntWalk
open Pk
set_option maxRecDepth 100000
attribute [local go_sem] Oper.semAt_some
/-- WriteString, and a block of another type than the buffer's beside it -/
theorem copyCheck_box (B b : Nat) (l : List UInt8) (w : World) (h : Bld w B b l) :
  Calls Tryz.prog 151 #[.pointer (some ⟨b, 0, none⟩)] w fun e w' => e = .returned (.tuple #[]) ∧
   (∃ v, w'.heap[b]? = some (.cells #[.pointer (some ⟨b, 0, none⟩), v] 111 (0, 0)) ∧ w'.ownsRow B 5 1 v l.length (bcs l) ∧ v.ownBlock ≠ some b) ∧ But B b w w' ∧ ∀ k, k ≠ b → w'.heap[k]? = w.heap[k]? := by
 obtain ⟨p, v, hp, hk, ho, hn⟩ := h
 rcases hp with rfl | rfl
 ·refine (copyCheck_fresh b w (by rw [Lib.cell_of_heap hk]; rfl) (by simp [World.shape?, hk]) (Lib.frozen_of_heap hk 0)).mono ?_
  rintro e w' ⟨rfl, rfl⟩
  refine ⟨rfl, ⟨v, ?_, ?_, hn⟩, (But.refl B b w).set 0 _, fun k hk => Below.heap_setCell _ _ _ _ hk⟩
  ·simp [World.setCell, Array.getElem?_modify, hk]
  ·exact ho.kept (row := some b) ⟨rfl, rfl, rfl, by simp [World.setCell], fun k _ hk => Below.heap_setCell _ _ _ _ (fun e => hk (by simp [e]))⟩ (Or.inr hn)
 ·refine (copyCheck_used b w (by rw [Lib.cell_of_heap hk]; rfl)).mono ?_
  rintro e w' ⟨rfl, rfl⟩
  exact ⟨rfl, ⟨v, hk, ho, hn⟩, But.refl B b _, fun _ _ => rfl⟩
set_option maxHeartbeats 2000000 in
theorem write_box (B b R : Nat) (cs : Array Value) (l s : List UInt8) (w : World) (h : Bld w B b l) (hlen : l.length + s.length ≤ 140737488355328) (hBw : B ≤ w.heap.size) (hR : w.heap[R]? = some (.cells cs 128 (0, 0))) (hRb : R ≠ b) :
  Calls Tryz.prog 86 #[.pointer (some ⟨b, 0, none⟩), .string (ba s)] w fun e w' => e = .returned (.tuple #[.int .i64 s.length, .nilIface]) ∧ Bld w' B b (l ++ s) ∧ But B b w w' ∧ w'.heap[R]? = w.heap[R]? := by
 obtain ⟨i0, hi, hz0, hz1, hz2⟩ := info_parts Tryz.info5
 have hsz := ba_size s
 go_enter Tryz.func86, Tryz.ntmps86
 go_wp2_with (go_at_call 151; refine (copyCheck_box B b l _ h).mono ?_)
 rintro e w1 ⟨rfl, h1, hb1, hall⟩
 obtain ⟨v, hbk, hown, hne⟩ := h1
 have hR1 := hall R hRb
 have hneR : v.ownBlock ≠ some R := Lib.ownBlock_ne hown (hR1.trans hR) (by decide)
 have hRlt : R < w1.heap.size := (Array.getElem?_eq_some_iff.1 (hR1.trans hR)).1
 have c0 : w1.cell? ⟨b, 0, none⟩ = some (.pointer (some ⟨b, 0, none⟩)) := by rw [Lib.cell_of_heap hbk]; rfl
 have c1 : w1.cell? ⟨b, 1, none⟩ = some v := by rw [Lib.cell_of_heap hbk]; rfl
 have hbl := bcs_len l
 clear hall
 have HR1 := Lib.hid hR1
 clear hR1 hR
 go_wp2_with (at_builtin; refine Lib.wpList_append_own_string _ rfl _ _ 109 9 rfl B 5 i0 Tryz.underlying109 Tryz.underlying9 hi hz0 hz1 hz2 _ _ _ rfl hown (ba s) rfl ?c3 ?c4 ?c5 ?_)
 case c3 => unfold maxLen; omega
 case c4 => omega
 case c5 => have := hb1.size; omega
 intro v' w2 hown' hgrow _
 have hR2 : w2.heap[R]? = w.heap[R]? := (hgrow.block R hRlt (fun e => hneR e.symm)).trans HR1.out
 have hlt : b < w1.heap.size := (Array.getElem?_eq_some_iff.1 hbk).1
 have hb2 : w2.heap[b]? = some (.cells #[.pointer (some ⟨b, 0, none⟩), v] 111 (0, 0)) := by
  rw [hgrow.block b hlt (fun e => hne e.symm)]
  exact hbk
 have d0 : w2.cell? ⟨b, 0, none⟩ = some (.pointer (some ⟨b, 0, none⟩)) := by rw [Lib.cell_of_heap hb2]; rfl
 have d1 : w2.cell? ⟨b, 1, none⟩ = some v := by rw [Lib.cell_of_heap hb2]; rfl
 have f1 : w2.frozen? ⟨b, 1, none⟩ = false := Lib.frozen_of_heap hb2 1
 obtain ⟨ao, n', cap, rfl⟩ : ∃ ao n' cap, v' = .slice ao n' cap := by
  rcases hown'.2 with ⟨hv, _⟩ | ⟨g, cap, cur, hv, _⟩
  ·exact ⟨_, _, _, hv⟩
  ·exact ⟨_, _, _, hv⟩
 have hbelow : But B b w w2 := hb1.trans ⟨hgrow.os, hgrow.tape, hgrow.output, hgrow.size, fun k hk _ => hgrow.block k (by have := hb1.size; omega) (fun e => by have := (hown.lt k e.symm).1; omega)⟩
 have e1 : bcs (l ++ s) = bcs l ++ Lib.strCells (ba s) := by simp [bcs, Lib.strCells, ba, bc]
 have hown2 : w2.ownsRow B 5 1 (.slice ao n' cap) (l ++ s).length (bcs (l ++ s)) := by rw [e1, List.length_append]; exact hown'
 have hne2 := Lib.ownBlock_ne hown2 hb2 (by decide)
 have hput : Bld (w2.setCell ⟨b, 1, none⟩ (.slice ao n' cap)) B b (l ++ s) := by
  refine ⟨_, _, .inr rfl, ?_, ?_, hne2⟩
  ·simp [World.setCell, Array.getElem?_modify, hb2]
  ·exact hown2.kept (row := some b) ⟨rfl, rfl, rfl, by simp [World.setCell], fun k _ hk => Below.heap_setCell _ _ _ _ (fun e => hk (by simp [e]))⟩ (Or.inr hne2)
 have HR2 := Lib.hid hR2
 clear hbk hown hown' hgrow hb2 c0 c1 e1 hown2 hne2 hR2 hneR hRlt
 go_wp2
 go_ret2
 exact ⟨rfl, hput, hbelow.set 1 _, (Below.heap_setCell _ _ _ _ hRb).trans HR2.out⟩
theorem _root_.Go.Proofs.YtojhenpaeedimaaGreat.But.alloc' {B b : Nat} {w w' : World} (h : But B b w w') (o : Obj) (hB : B ≤ w'.heap.size) : But B b w (w'.alloc o) :=
 ⟨h.os, h.tape, h.output, Nat.le_trans h.size (by simp), fun k hk hb => (Below.heap_alloc _ _ _ (by omega)).trans (h.block k hk hb)⟩
theorem bld_alloc {w : World} {B b : Nat} {l : List UInt8} (h : Bld w B b l) (o : Obj) : Bld (w.alloc o) B b l := bld_grown h ((Below.refl _ _).alloc (Nat.le_refl _) o)
theorem encR_take {r : List Run} {k v q : Nat} (h : r[k]? = some (v, (q : Int))) : encR (r.take (k + 1)) = encR (r.take k) ++ put v ++ put q := by
 rw [List.take_add_one, h, encR_app]
 simp [encR]
theorem fits_take {r : List Run} (h : Fits r) (k : Nat) : Fits (r.take k) := fun x hx => h x (List.mem_of_mem_take hx)
set_option maxHeartbeats 2000000 in
theorem uencode_c (A : Option Addr) (cap : Nat) (xs : List Nat) (hx : xs.length ≤ 100000) (hxn : Nums xs) (w : World) (hc : At w w.heap.size A (uvs xs)) :
  Calls Tryz.prog 44 #[.slice A xs.length cap] w fun e w' => e = .returned (.string (ba (encU xs))) ∧ Below w.heap.size w w' := by
 have hfit := runs_fits hxn (by omega)
 have hrl := runs_len xs
 have hrin := fun x => @runs_in xs x
 have HC := Lib.hid hc
 unfold encU
 go_enter Tryz.func44, Tryz.ntmps44
 go_wp2_with fail
 have h0 : Below w.heap.size w (w.alloc (.cells #[.pointer none, .slice none 0 0] 111)) := (Below.refl _ _).alloc (Nat.le_refl _) _
 refine (runs_c A cap xs hx _ ((HC.out.below h0).mono (by simp))).mono ?_
 rintro e w1 ⟨A', cap', rfl, -, hfr, hat, hb1⟩
 have hbld0 := bld_grown (bld_new w w1.heap.size) hb1
 have hbb : But w1.heap.size w.heap.size w1 w1 := But.refl _ _ _
 rw [World.size_alloc] at hfr hb1
 have hb01 := h0.trans (hb1.mono (Nat.le_succ _))
 have hsz1 : w.heap.size < w1.heap.size := by have := hb1.size; simp at this; omega
 obtain ⟨D, hD⟩ : ∃ D, D = runsL xs := ⟨_, rfl⟩
 have hdl2 : D.length ≤ 100000 := by rw [hD]; omega
 rw [← hD] at hat hfit hrin ⊢
 have HD := Lib.hid hD
 have HAT := Lib.hid hat
 have HFR := Lib.hid hfr
 have HFIT := Lib.hid hfit
 have HIN := Lib.hid hrin
 clear hD hat hfr h0 hb1 hc hfit hrin hrl hxn
 go_wp2_with fail
 go_loopw [9] (fun i wr => ∃ k : Nat, i = .int .i64 (k : Int) ∧ k ≤ D.length ∧ Bld wr w1.heap.size w.heap.size (encR (D.take k)) ∧ But w1.heap.size w.heap.size w1 wr) (fun i _ => D.length - (Go.RowKit.intOf i).toNat)
 case atStart => exact ⟨0, rfl, Nat.zero_le _, hbld0, hbb⟩
 case round =>
  clear hbld0 hbb
  obtain ⟨k, rfl, hk, hbld, hbut⟩ := hrel
  by_cases hlt : k < D.length
  ·obtain ⟨⟨v, c⟩, hxk⟩ := some_at hlt
   have hci := HIN.out _ (mem_at hxk)
   have hfv := HFIT.out _ (mem_at hxk)
   dsimp only at hci hfv
   obtain ⟨q, rfl⟩ := Int.eq_ofNat_of_zero_le (show 0 ≤ c by omega)
   rw [Int.toNat_natCast] at hfv
   have hq1 : q ≤ 100000 := by omega
   obtain ⟨b, off, rfl, hbl, hcv0, hcc0⟩ := run_cells HAT.out hxk
   dsimp only at hcv0 hcc0
   have hne : b ≠ w.heap.size := by have := HFR.out _ rfl; simp at this; omega
   have hcv : wr.cell? ⟨b, off + k * 2, none⟩ = some (.int .u64 (v : Int)) := (but_cell hbut (p := ⟨b, off + k * 2, none⟩) hbl hne).trans hcv0
   have hcc : wr.cell? ⟨b, off + k * 2 + 1, none⟩ = some (.int .i64 (q : Int)) := (but_cell hbut (p := ⟨b, off + k * 2 + 1, none⟩) hbl hne).trans hcc0
   have hvl := put_len10 hfv.1
   have hql := put_len10 hfv.2
   have hde := (encR_len (fits_take HFIT.out k)).2
   rw [List.length_take] at hde
   have hle : (encR (D.take k)).length + (put v).length ≤ 140737488355328 := by omega
   have hle2 : (encR (D.take k) ++ put v).length + (put q).length ≤ 140737488355328 := by rw [List.length_append]; omega
   have hws := hbut.size
   have HX := Lib.hid hxk
   have HV := Lib.hid hfv
   have hbR := bld_lt hbld
   clear hcv0 hcc0 hxk hvl hql hde hfv hci
   go_wp2_with fail
   refine (put_c v HV.out.1 _).mono ?_
   rintro e w2 ⟨rfl, hb2⟩
   have hR2 : w2.heap[wr.heap.size]? = some (.cells #[.int .u64 (v : Int), .int .i64 (q : Int)] 128 (0, 0)) := (hb2.block _ (by simp)).trans (heap_alloc_new wr _)
   have hbW := (But.refl w1.heap.size w.heap.size wr).alloc' (.cells #[.int .u64 (v : Int), .int .i64 (q : Int)] 128) hws
   have hbld2 := bld_grown (bld_alloc hbld (.cells #[.int .u64 (v : Int), .int .i64 (q : Int)] 128)) hb2
   have hbut2 := hbut.trans (hbW.trans (but_below (b := w.heap.size) (hb2.mono (by simp; omega))))
   have hws2 : w1.heap.size ≤ w2.heap.size := hbut2.size
   have hRb : wr.heap.size ≠ w.heap.size := by omega
   clear hbld hbut hb2 hbW hcv hcc hws
   go_wp2_with fail
   refine (write_box w1.heap.size w.heap.size wr.heap.size _ _ (put v) _ hbld2 hle hws2 hR2 hRb).mono ?_
   rintro e w3 ⟨rfl, hbld3, hbut3, hR3⟩
   have hR3' := hR3.trans hR2
   have hbut3' := hbut2.trans hbut3
   have hcq : w3.cell? ⟨wr.heap.size, 1, none⟩ = some (.int .i64 (q : Int)) := by rw [Lib.cell_of_heap hR3']; rfl
   have hws3 : w1.heap.size ≤ w3.heap.size := hbut3'.size
   have hRlt3 : wr.heap.size < w3.heap.size := (Array.getElem?_eq_some_iff.1 hR3').1
   clear hbld2 hbut2 hbut3 hR3 hR2 hws2
   go_wp2_with fail
   refine (put_c q HV.out.2 _).mono ?_
   rintro e w4 ⟨rfl, hb4⟩
   have hbld4 := bld_grown hbld3 hb4
   have hbut4 := hbut3'.trans (but_below (b := w.heap.size) (hb4.mono hws3))
   have hws4 : w1.heap.size ≤ w4.heap.size := hbut4.size
   clear hbld3 hbut3' hb4 hcq hR3' hRlt3 hws3
   go_wp2_with fail
   refine (write_b w1.heap.size w.heap.size _ (put q) _ hbld4 hle2 hws4).mono ?_
   rintro e w5 ⟨rfl, hbld5, hbut5⟩
   have hbut6 := hbut4.trans hbut5
   clear hbld4 hbut4 hbut5 hws4
   go_wp2_with fail
   go_roundw
   case rel => exact ⟨k + 1, by go_num, by omega, by rw [encR_take HX.out]; exact hbld5, hbut6⟩
   case measure => simp only [Go.RowKit.intOf]; omega
  ·obtain rfl : k = D.length := by omega
   rw [List.take_length] at hbld
   go_wp2_with fail
   refine (string_c w1.heap.size w.heap.size w.heap.size _ _ hbld (Nat.le_of_lt hsz1) (Nat.le_refl _)).mono ?_
   rintro e w3 ⟨rfl, hb3⟩
   go_wp2
   go_ret
   rw [← HD.out]
   exact ⟨rfl, (hb01.trans (hbut.below (Nat.le_of_lt hsz1) (Nat.le_refl _))).trans hb3⟩
theorem run_keep {b o o2 : Nat} {x y : Value} {w1 W W' : World} (hbl : b < w1.heap.size) (h : W.cell? ⟨b, o, none⟩ = some x ∧ W.cell? ⟨b, o2, none⟩ = some y ∧ Below w1.heap.size w1 W) (hm : Below W.heap.size W W') : W'.cell? ⟨b, o, none⟩ = some x ∧ W'.cell? ⟨b, o2, none⟩ = some y ∧ Below w1.heap.size w1 W' :=
 have hs := Nat.lt_of_lt_of_le hbl h.2.2.size
 ⟨(hm.cell (p := ⟨b, o, none⟩) hs).trans h.1, (hm.cell (p := ⟨b, o2, none⟩) hs).trans h.2.1, h.2.2.trans (hm.mono h.2.2.size)⟩
theorem run_drew {b o o2 : Nat} {x y : Value} {w1 W : World} (hbl : b < w1.heap.size) (h : W.cell? ⟨b, o, none⟩ = some x ∧ W.cell? ⟨b, o2, none⟩ = some y ∧ Below w1.heap.size w1 W) : W.drew.cell? ⟨b, o, none⟩ = some x ∧ W.drew.cell? ⟨b, o2, none⟩ = some y ∧ Below w1.heap.size w1 W.drew :=
 run_keep hbl h (Below.refl _ _).drew
set_option maxHeartbeats 4000000 in
theorem urencode_c (A : Option Addr) (cap : Nat) (xs : List Nat) (hx : xs.length ≤ 100000) (hxn : Nums xs) (w : World) (hc : At w w.heap.size A (uvs xs)) :
  Calls Tryz.prog 48 #[.slice A xs.length cap] w fun e w' => e = .returned (.string (ba (encU xs))) ∧ Below w.heap.size w w' := by
 have hfit := runs_fits hxn (by omega)
 have hrl := runs_len xs
 have hrin := fun x => @runs_in xs x
 have HC := Lib.hid hc
 unfold encU
 go_enter Tryz.func48, Tryz.ntmps48
 go_wp2_with fail
 refine (rruns_c A cap xs hx _ HC.out).mono ?_
 rintro e w1 ⟨A', cap', rfl, -, -, hat, hb1⟩
 obtain ⟨D, hD⟩ : ∃ D, D = runsL xs := ⟨_, rfl⟩
 have hdl2 : D.length ≤ 100000 := by rw [hD]; omega
 rw [← hD] at hat hfit hrin ⊢
 have HD := Lib.hid hD
 have HAT := Lib.hid hat
 have HFIT := Lib.hid hfit
 have HIN := Lib.hid hrin
 clear hD hat hc hfit hrin hrl hxn
 go_wp2_with fail
 go_loopw [4, 5] (fun s i wr => ∃ k : Nat, s = .string (ba (encR (D.take k))) ∧ i = .int .i64 (k : Int) ∧ k ≤ D.length ∧ Below w1.heap.size w1 wr) (fun _ i _ => D.length - (Go.RowKit.intOf i).toNat)
 case atStart => exact ⟨0, rfl, rfl, Nat.zero_le _, Below.refl _ _⟩
 case round =>
  obtain ⟨k, rfl, rfl, hk, hb⟩ := hrel
  by_cases hlt : k < D.length
  ·obtain ⟨⟨v, c⟩, hxk⟩ := some_at hlt
   have hci := HIN.out _ (mem_at hxk)
   have hfv := HFIT.out _ (mem_at hxk)
   dsimp only at hci hfv
   obtain ⟨q, rfl⟩ := Int.eq_ofNat_of_zero_le (show 0 ≤ c by omega)
   rw [Int.toNat_natCast] at hfv
   have hq1 : q ≤ 100000 := by omega
   have hqw : IntKind.u64.wrap (q : Int) = (q : Int) := by rw [IntKind.wrap_u64]; omega
   obtain ⟨b, off, rfl, hbl, hcv, hcc⟩ := run_cells (HAT.out.below hb) hxk
   dsimp only at hcv hcc
   have hvl := put_len10 hfv.1
   have hql := put_len10 hfv.2
   have hde := (encR_len (fits_take HFIT.out k)).2
   rw [List.length_take] at hde
   have hadd := add_ba (encR (D.take k)) (put v) (by omega)
   have hadd2 := add_ba (encR (D.take k) ++ put v) (put q) (by rw [List.length_append]; omega)
   have HX := Lib.hid hxk
   have HV := Lib.hid hfv
   have HS := Lib.hid (show wr.cell? ⟨b, off + k * 2, none⟩ = some (.int .u64 (v : Int)) ∧ wr.cell? ⟨b, off + k * 2 + 1, none⟩ = some (.int .i64 (q : Int)) ∧ Below w1.heap.size w1 wr from ⟨hcv, hcc, hb⟩)
   clear hxk hvl hql hde hfv hci hb hcv hcc
   go_wp2_with fail
   go_region_held3 (fun w' => w'.cell? ⟨b, off + k * 2, none⟩ = some (.int .u64 (v : Int)) ∧ w'.cell? ⟨b, off + k * 2 + 1, none⟩ = some (.int .i64 (q : Int)) ∧ Below w1.heap.size w1 w')
     (first
      | (exact HS.out)
      | (exact run_drew hbl HS.out)
      | (exact run_keep hbl (by assumption) hm)
      | (exact run_drew hbl (by assumption))
      | go_keep)
     (first
      | (go_at_call 46; with_reducible refine (rPut_c v HV.out.1 _).mono ?_; rintro e w2 ⟨rfl, hm⟩)
      | (go_at_call 46; with_reducible refine (rPut_c q HV.out.2 _).mono ?_; rintro e w2 ⟨rfl, hm⟩))
   all_goals
    rename_i hh
    obtain ⟨-, -, hb2⟩ := hh
    clear hm
    go_wp2_with fail
    go_roundw
    case rel => exact ⟨k + 1, by rw [encR_take HX.out, List.append_assoc], by go_num, by omega, hb2⟩
    case measure => simp only [Go.RowKit.intOf]; omega
  ·obtain rfl : k = D.length := by omega
   rw [List.take_length]
   go_wp2_with fail
   go_ret
   rw [← HD.out]
   exact ⟨rfl, hb1.trans (hb.mono hb1.size)⟩
end Ru
end Go.Proofs.YtojhenpaeedimaaGreat
end
