/-
  runs' pieces: each number of a list with how often it stands there.
-/
import Derived.Test.YtiehmeheilfocaaRb
import Derived.Test.YtiehmeheilfocaaMr
import Derived.Sort.QuietIn
import Derived.Sort.LoopGhostIn
namespace Go.Proofs.Ytiehmeheilfocaa
open Go.RowKit Go.IntWalk
open Pk
set_option maxRecDepth 100000
attribute [local go_sem] Oper.semAt_some

/-- what a round must keep: all below n₀, and the box of the slice -/
def KeepB (n₀ Bs : Nat) (W W' : World) : Prop := Below n₀ W W' ∧ W'.heap[Bs]? = W.heap[Bs]?
theorem keepB_t {n₀ Bs : Nat} {A B C : World} (h : KeepB n₀ Bs A B) (k : KeepB n₀ Bs B C) : KeepB n₀ Bs A C := ⟨h.1.trans k.1, k.2.trans h.2⟩
theorem keepB_b {n₀ Bs : Nat} {w : World} (hn : n₀ ≤ w.heap.size) (hb : Bs < w.heap.size) (W : World) (l : Nat) (o o' : Obj) (hl : w.heap.size ≤ l) (h : W.heap[l]? = some o) (h1 : o.isCells = false) (h2 : o.isWalk = false) : KeepB n₀ Bs W (W.putObj l o') :=
  ⟨belowK_b hn W l o o' hl h h1 h2, World.putObj_heap_other (by omega)⟩
theorem keepB_cell {n₀ Bs j : Nat} {W W' : World} (h : KeepB n₀ Bs W W') : W'.cell? ⟨Bs, j, none⟩ = W.cell? ⟨Bs, j, none⟩ := World.cell?_of_block h.2
theorem grown_drewN (W : World) (k : Nat) : W.grownBy (W.drewN k) none := ⟨rfl, rfl, rfl, Nat.le_refl _, fun _ _ _ => rfl⟩
theorem keepB_drewE {n₀ Bs : Nat} {W W' W2 : World} (h : KeepB n₀ Bs W W') (hq : ∃ q, W2 = W'.drewN q) : KeepB n₀ Bs W W2 := by
  obtain ⟨q, rfl⟩ := hq
  exact ⟨below_drewN h.1 q, h.2⟩

theorem runs_drop {xs : List Nat} {s v : Nat} (h : xs[s]? = some v) : rn v 1 (xs.drop (s + 1)) = runsL (xs.drop s) := by
  rw [drop_at_cons h]; rfl
theorem rn_same {xs : List Nat} {j v : Nat} {c : Int} (h : xs[j]? = some v) : rn v c (xs.drop j) = rn v (c + 1) (xs.drop (j + 1)) := by
  rw [drop_at_cons h, rn, if_pos rfl]
theorem rn_other {xs : List Nat} {j v y : Nat} {c : Int} (h : xs[j]? = some y) (hne : y ≠ v) : rn v c (xs.drop j) = (v, c) :: runsL (xs.drop j) := by
  rw [drop_at_cons h, rn, if_neg hne]; rfl
theorem rn_end {xs : List Nat} {v : Nat} {c : Int} : rn v c (xs.drop xs.length) = (v, c) :: runsL (xs.drop xs.length) := by
  rw [List.drop_length]; rfl

set_option maxHeartbeats 4000000 in
theorem pieces1_in (n : Nat) (hn : 1 ≤ n) (l Bs n₀ : Nat) (A : Option Addr) (cap : Nat) (xs : List Nat) (hx : xs.length ≤ 100000) (J Jx : List Run → World → Prop)
    (hJ : ∀ s W k, J s W → J s (W.drewN k))
    (hY : ∀ pre x W, J pre W → pre.length < xs.length → YieldAt Fence.wide (n - 1) Try.prog l #[.int .u64 (x.1 : Int), .int .i64 x.2] W fun e W' =>
      (e = .returned (.bool true) ∧ J (pre ++ [x]) W' ∧ KeepB n₀ Bs W W') ∨ (e = .returned (.bool false) ∧ Jx (pre ++ [x]) W'))
    (W : World) (hBs : W.cell? ⟨Bs, 0, none⟩ = some (.slice A xs.length cap)) (hc : At W n₀ A (uvs xs)) (h0 : J [] W) :
    CallsIn Fence.wide n Try.prog 82 #[.func (.yield l) #[] #[], .pointer (some ⟨Bs, 0, none⟩)] W fun e W' => (∃ v, e = .returned v) ∧
      ((∃ ys, ys = runsL xs ∧ J ys W') ∨ (∃ pre, pre <+: runsL xs ∧ Jx pre W')) := by
  have HC := Lib.hid hc
  have HB := Lib.hid hBs
  have HJ := Lib.hid hJ
  have hY' := fun pre (v : Nat) (c : Int) => hY pre (v, c)
  dsimp only at hY'
  have HY' := Lib.hid hY'
  clear hc hBs hJ hY hY'
  refine callsIn_of_wp Try.func82 rfl trivial ?_ rfl
  simp only [Try.ntmps82, List.size_toArray, List.length_cons, List.length_nil, Nat.reduceAdd, Nat.reduceSub, Array.replicate_succ, Array.replicate_zero, List.push_toArray, List.append_toArray, List.nil_append, List.cons_append]
  gi_wp2
  gi_loopg [3] xs.length (fun m s0 wr => ∃ (s : Nat) (pre : List Run), s0 = .int .i64 (s : Int) ∧ xs.length - s ≤ m ∧ s ≤ xs.length ∧ pre.length ≤ s ∧ pre ++ runsL (xs.drop s) = runsL xs ∧ J pre wr ∧ KeepB n₀ Bs W wr)
  case atStart => exact ⟨0, [], rfl, by simp, Nat.zero_le _, Nat.le_refl _, rfl, h0, ⟨Below.refl _ _, rfl⟩⟩
  case round =>
    obtain ⟨s, pre, rfl, hms, hs, hps, heq, hJs, hk⟩ := hrel
    have HE := Lib.hid heq
    have hbox := (keepB_cell hk).trans HB.out
    clear heq
    by_cases hlt : s < xs.length
    · obtain ⟨v, hv⟩ := some_at hlt
      have HV := Lib.hid hv
      obtain ⟨b, off, rfl, hbl, hcell⟩ := (HC.out.below hk.1) s _ (uvs_at hv)
      clear hv
      gi_wp2
      gi_loopg [4] xs.length (fun m e0 wr2 => ∃ j : Nat, e0 = .int .i64 (j : Int) ∧ xs.length - j ≤ m ∧ s < j ∧ j ≤ xs.length ∧ rn v ((j : Int) - (s : Int)) (xs.drop j) = runsL (xs.drop s) ∧ ∃ q, wr2 = wr.drewN q)
      case atStart => exact ⟨s + 1, by simp, by omega, by omega, by omega, by rw [← runs_drop HV.out]; congr 1; omega, 0, rfl⟩
      case round =>
        rename_i gk2 wr2
        obtain ⟨j, rfl, hmj, hsj, hjl, hrn, hq⟩ := hrel
        have HRN := Lib.hid hrn
        have HQ := Lib.hid hq
        have hk2 := keepB_drewE hk hq
        have hJ2 : J pre wr := by obtain ⟨q, hq⟩ := hq; rw [hq]; exact HJ.out _ _ q hJs
        have hbox2 := (keepB_cell hk2).trans HB.out
        obtain ⟨b', off', hbe, _, hcell2⟩ := (HC.out.below hk2.1) s _ (uvs_at HV.out)
        cases hbe
        clear hrn hq hbox hcell
        have hsl : (s : Int) < (xs.length : Int) := by omega
        have hs0 : (0 : Int) ≤ (s : Int) := by omega
        by_cases hjlt : j < xs.length
        · obtain ⟨y, hy⟩ := some_at hjlt
          obtain ⟨b', off', hbe, _, hcell3⟩ := (HC.out.below hk2.1) j _ (uvs_at hy)
          cases hbe
          have HY := Lib.hid hy
          have hjl2 : (j : Int) < (xs.length : Int) := by omega
          clear hy
          by_cases hyv : y = v
          · subst hyv
            have hee : ((y : Int) == (y : Int)) = true := by simp
            gi_wp2
            gi_quiet (fail)
            gi_wp2
            gi_roundg (xs.length - (j+1))
            case measure => omega
            case rel =>
              obtain ⟨q, hq⟩ := HQ.out
              exact ⟨j + 1, by simp, Nat.le_refl _, by omega, by omega, by rw [← HRN.out, rn_same HY.out]; congr 1; omega, q + nq, by rw [hq, World.drewN_drewN]⟩
          · have hee : ((y : Int) == (v : Int)) = false := by simp; omega
            have hsub : IntKind.i64.wrap ((j : Int) - (s : Int)) = (j : Int) - (s : Int) := IntWalk.i64_in _ (by omega)
            gi_wp2
            gi_quiet (fail)
            obtain ⟨fn, tmps, assign, body, hy, hR⟩ := HY'.out pre v ((j : Int) - (s : Int)) _ (HJ.out _ _ nq hJ2) (by omega)
            gi_wp2_with fail
            refine hR.mono ?_
            rintro e w3 (⟨rfl, hJ3, hk3⟩ | ⟨rfl, hJx3⟩)
            · gi_wp2_with fail
              gi_roundg (xs.length - j)
              case measure => omega
              case rel => exact ⟨j, pre ++ [(v, (j : Int) - (s : Int))], rfl, Nat.le_refl _, hjl, by simp; omega, by rw [List.append_assoc, ← HE.out, ← HRN.out, rn_other HY.out hyv]; rfl, hJ3, keepB_t (keepB_drewE hk2 ⟨nq, rfl⟩) hk3⟩
            · gi_wp2_with fail
              refine bodyPost_ret (results_none rfl _ _ _) rfl ?_
              exact ⟨⟨_, rfl⟩, .inr ⟨_, ⟨runsL (xs.drop j), by rw [List.append_assoc, ← HE.out, ← HRN.out, rn_other HY.out hyv]; rfl⟩, hJx3⟩⟩
        · obtain rfl : j = xs.length := by omega
          gi_wp2
          gi_quiet (fail)
          obtain ⟨fn, tmps, assign, body, hy, hR⟩ := HY'.out pre v ((xs.length : Int) - (s : Int)) _ (HJ.out _ _ nq hJ2) (by omega)
          gi_wp2_with fail
          refine hR.mono ?_
          rintro e w3 (⟨rfl, hJ3, hk3⟩ | ⟨rfl, hJx3⟩)
          · gi_wp2_with fail
            gi_roundg (xs.length - xs.length)
            case measure => omega
            case rel => exact ⟨xs.length, pre ++ [(v, (xs.length : Int) - (s : Int))], rfl, Nat.le_refl _, hjl, by simp; omega, by rw [List.append_assoc, ← HE.out, ← HRN.out, rn_end]; rfl, hJ3, keepB_t (keepB_drewE hk2 ⟨nq, rfl⟩) hk3⟩
          · gi_wp2_with fail
            refine bodyPost_ret (results_none rfl _ _ _) rfl ?_
            exact ⟨⟨_, rfl⟩, .inr ⟨_, ⟨runsL (xs.drop xs.length), by rw [List.append_assoc, ← HE.out, ← HRN.out, rn_end]; rfl⟩, hJx3⟩⟩
    · obtain rfl : s = xs.length := by omega
      gi_wp2
      go_end0
      have he := HE.out
      rw [List.drop_length] at he
      exact ⟨⟨_, rfl⟩, .inl ⟨pre, by rw [← he]; simp [runsL], hJs⟩⟩
end Go.Proofs.Ytiehmeheilfocaa
