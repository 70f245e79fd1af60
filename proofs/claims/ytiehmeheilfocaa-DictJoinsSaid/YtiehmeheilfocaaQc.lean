/-
  The document's Runs.
-/
import Derived.Test.YtiehmeheilfocaaQb
import Derived.Test.YtiehmeheilfocaaRj
import Derived.Laws.OwnMore
namespace Go.Proofs.Ytiehmeheilfocaa
open Go.RowKit Go.IntWalk
open Pk
set_option maxRecDepth 100000
attribute [local go_sem] Oper.semAt_some

theorem runs_snoc_same {l : List Nat} {v : Nat} (h : l.getLast? = some v) : ∃ a c, runsL l = a ++ [(v, c)] ∧ runsL (l ++ [v]) = a ++ [(v, c + 1)] := by
  obtain ⟨a, c, d, b, h1, h2, h3⟩ := runs_meet (l := l) (m := [v]) h rfl
  have h4 : runsL [v] = [(v, 1)] := rfl
  rw [h4] at h2
  simp only [List.cons.injEq, Prod.mk.injEq, true_and] at h2
  obtain ⟨rfl, rfl⟩ := h2
  exact ⟨a, c, h1, h3⟩
theorem runs_snoc_other {l : List Nat} {v : Nat} (h : l.getLast? ≠ some v) : runsL (l ++ [v]) = runsL l ++ [(v, 1)] :=
  runs_app (l := l) (m := [v]) fun x y hx hy e => h (by simp at hy; subst hy; rw [← e]; exact hx)
theorem take_snoc {xs : List Nat} {k x : Nat} (h : xs[k]? = some x) : xs.take (k + 1) = xs.take k ++ [x] := by rw [List.take_add_one, h]; rfl
theorem take_last {xs : List Nat} {j y : Nat} (h : xs[j]? = some y) : (xs.take (j + 1)).getLast? = some y := by rw [take_snoc h]; simp
theorem rvs_set (a : List Run) (v : Nat) (c d : Int) : (rvs (a ++ [(v, c)])).set (a.length * 2 + 1) (.int .i64 d) = rvs (a ++ [(v, d)]) := by
  rw [rvs_snoc, rvs_snoc, ← rvs_len, List.set_append_right _ _ (by omega)]
  congr 1
  rw [show (rvs a).length + 1 - (rvs a).length = 1 by omega]
  rfl

set_option maxHeartbeats 4000000 in
theorem rruns_c (A : Option Addr) (cap : Nat) (xs : List Nat) (hx : xs.length ≤ 100000) (w : World) (hc : At w w.heap.size A (uvs xs)) :
    Calls Try.prog 69 #[.slice A xs.length cap] w fun e w' => ∃ A' cap', e = .returned (.slice A' (runsL xs).length cap') ∧ (runsL xs).length ≤ cap' ∧ Fresh w.heap.size A' ∧ At w' w'.heap.size A' (rvs (runsL xs)) ∧ Below w.heap.size w w' := by
  obtain ⟨i0, hi, hz0, hz1, hz2⟩ := info_parts Try.info100
  have HC := Lib.hid hc
  clear hc
  go_enter Try.func69, Try.ntmps69
  go_wp2_with fail
  go_loopw [3, 4] (fun v i wr => ∃ k : Nat, i = .int .i64 (k : Int) ∧ k ≤ xs.length ∧ wr.ownsRow w.heap.size 100 2 v (runsL (xs.take k)).length (rvs (runsL (xs.take k))) ∧ Below w.heap.size w wr)
    (fun _ i _ => xs.length - (intOf i).toNat)
  case atStart => exact ⟨0, rfl, Nat.zero_le _, ⟨rfl, .inl ⟨rfl, rfl⟩⟩, Below.refl _ _⟩
  case round =>
    obtain ⟨k, rfl, hk, hown, hb⟩ := hrel
    have hb0 := hb.size
    have hle : (runsL (xs.take k)).length ≤ 100000 := Nat.le_trans (runs_len _) (by rw [List.length_take]; omega)
    by_cases hlt : k < xs.length
    · obtain ⟨x, hxk⟩ := some_at hlt
      have HX := Lib.hid hxk
      by_cases h0 : k = 0
      · subst h0
        have e0 : runsL (xs.take 0) = [] := by rw [List.take_zero]; rfl
        rw [e0] at hown
        obtain ⟨b, off, rfl, hbl, hcell⟩ := (HC.out.below (hb.drew)) 0 _ (uvs_at hxk)
        rw [Nat.add_zero] at hcell
        clear hxk
        go_wp2_with fail
        go_quiet (fail)
        have hown2 : (wr.drewN nq).ownsRow w.heap.size 100 2 _ 0 (rvs []) := hown
        have hbd := below_drewN hb nq
        have hcell' : (wr.drewN nq).cell? _ = _ := hcell
        clear hown hb hcell hb0
        generalize wr.drewN nq = wr2 at hown2 hbd hcell' ⊢
        have hb0 := hbd.size
        go_wp2_with (at_builtin; refine wpList_append_own _ rfl _ _ 97 rfl w.heap.size 100 i0 (.agg #[.int .u64 0, .int .i64 0]) 2 16 Try.underlying97 hi hz0 hz1 hz2 rfl (by decide) _ _ _ rfl (hown2.alloc _) ⟨wr2.heap.size, 0, none⟩ 1 1 [.int .u64 (x : Int), .int .i64 1] rfl rfl (cells_new wr2 _ [_, _]) (by simp [Value.oneCell']) (by unfold maxLen; omega) (by omega) (by simp; omega) ?_; intro v' w2 hown' hgrow _)
        have hb2 := below_ownI hbd hb0 hown2 hgrow
        clear hown2 hgrow hbd hcell'
        go_wp2_with fail
        go_roundw
        case rel =>
          refine ⟨1, by go_num, by omega, ?_, hb2⟩
          have e1 : runsL (xs.take 1) = [(x, 1)] := by
            have := take_snoc HX.out
            rw [Nat.zero_add, List.take_zero, List.nil_append] at this
            rw [this]; rfl
          rw [e1]
          exact hown'
        case measure => simp only [intOf]; omega
      · obtain ⟨j, rfl⟩ : ∃ j, k = j + 1 := ⟨k - 1, by omega⟩
        have hjl : j < xs.length := by omega
        obtain ⟨y, hyj⟩ := some_at hjl
        have hlast := take_last hyj
        have hsn := take_snoc hxk
        obtain ⟨b, off, rfl, hbl, hcell⟩ := (HC.out.below hb) (j + 1) _ (uvs_at hxk)
        obtain ⟨b', off', hbe, _, hcell2⟩ := (HC.out.below hb) j _ (uvs_at hyj)
        cases hbe
        have hjs : (0 : Int) ≤ (j : Int) + 1 := by omega
        have hj1 : decide ((0 : Int) < (j : Int) + 1) = true := by simp
        have hjw : IntKind.i64.wrap (j : Int) = (j : Int) := by rw [i64_left]; exact wrap64_in _ (by omega)
        have HL := Lib.hid hlast
        have HS := Lib.hid hsn
        clear hlast hsn hxk hyj h0
        by_cases hyx : y = x
        · subst hyx
          have hee : ((y : Int) == (y : Int)) = true := by simp
          obtain ⟨a, c, e1, e2⟩ := runs_snoc_same HL.out
          rw [← HS.out] at e2
          have hci := runs_in (l := xs.take (j + 1)) (x := (y, c)) (by rw [e1]; simp)
          have hc1 : (1 : Int) ≤ c := hci.2.1
          have hc2 : c ≤ 100000 := by have := hci.2.2; rw [List.length_take] at this; omega
          rw [e1, List.length_append, List.length_singleton] at hown
          rw [e1, List.length_append, List.length_singleton] at hle
          obtain ⟨g', cap', rfl⟩ := ownsRow_succ hown
          have hcc := (hown.cellAt (a.length * 2 + 1) (by omega)).trans (rvs_at (r := a ++ [(y, c)]) (k := a.length) (x := (y, c)) (by simp)).2
          have hfr := hown.frozenAt (a.length * 2 + 1)
          have hst := hown.stored (a.length * 2 + 1) (.int .i64 (c + 1))
          rw [rvs_set] at hst
          have HST := Lib.hid hst
          have E2 := Lib.hid e2
          clear hst e1 e2 hci
          go_wp2_with fail
          go_quiet (fail)
          go_wp2_with fail
          go_roundw
          case rel =>
            refine ⟨j + 1 + 1, by go_num, by omega, ?_, below_drewN (hb.grown HST.out.2 hb0 (fun k hk => (hown.lt k hk).1)) nq⟩
            rw [E2.out, List.length_append, List.length_singleton]
            exact HST.out.1
          case measure => simp only [intOf]; omega
        · have hee : ((y : Int) == (x : Int)) = false := by simp; omega
          have e2 := runs_snoc_other (l := xs.take (j + 1)) (v := x) (by rw [HL.out]; intro h; injection h with h; exact hyx h)
          rw [← HS.out] at e2
          have E2 := Lib.hid e2
          clear e2
          go_wp2_with fail
          go_quiet (fail)
          have hown2 : (wr.drewN nq).ownsRow w.heap.size 100 2 _ _ _ := hown
          have hbd := below_drewN hb nq
          have hcell' : (wr.drewN nq).cell? _ = _ := hcell
          clear hown hb hcell hcell2 hb0
          generalize wr.drewN nq = wr2 at hown2 hbd hcell' ⊢
          have hb0 := hbd.size
          go_wp2_with (at_builtin; refine wpList_append_own _ rfl _ _ 97 rfl w.heap.size 100 i0 (.agg #[.int .u64 0, .int .i64 0]) 2 16 Try.underlying97 hi hz0 hz1 hz2 rfl (by decide) _ _ _ rfl (hown2.alloc _) ⟨wr2.heap.size, 0, none⟩ 1 1 [.int .u64 (x : Int), .int .i64 1] rfl rfl (cells_new wr2 _ [_, _]) (by simp [Value.oneCell']) (by unfold maxLen; omega) (by omega) (by simp; omega) ?_; intro v' w2 hown' hgrow _)
          have hb2 := below_ownI hbd hb0 hown2 hgrow
          clear hown2 hgrow hbd hcell'
          go_wp2_with fail
          go_roundw
          case rel =>
            refine ⟨j + 1 + 1, by go_num, by omega, ?_, hb2⟩
            rw [E2.out, List.length_append, List.length_singleton, rvs_snoc]
            exact hown'
          case measure => simp only [intOf]; omega
    · obtain rfl : k = xs.length := by omega
      rw [List.take_length] at hown
      obtain ⟨A', cap', rfl, ha, hfr, hcp⟩ := own_at hown
      go_wp2_with fail
      go_ret
      exact ⟨_, _, rfl, hcp, hfr, ha, hb⟩
end Go.Proofs.Ytiehmeheilfocaa
