/-
  Spread of flags, the document's.
-/
import Derived.Test.YtiehmeheilfocaaPg
import Derived.Sort.LoopGhostIn
namespace Go.Proofs.Ytiehmeheilfocaa
open Go.RowKit Go.IntWalk
open Pk
set_option maxRecDepth 100000
attribute [local go_sem] Oper.semAt_some

theorem own_snocB {w : World} {base n : Nat} {v : Value} {xs : List Bool} {x : Bool} (h : w.ownsRow base 4 1 v (n + 1) (bvs xs ++ [.bool x])) : w.ownsRow base 4 1 v (n + 1) (bvs (xs ++ [x])) := by
  rw [bvs_snoc]; exact h

set_option maxHeartbeats 8000000 in
theorem rspreadF_c (A : Option Addr) (cap : Nat) (r : List Int) (most : Int) (hr : r.length ≤ 100000) (hm1 : -9223372036854775808 ≤ most) (hm2 : most ≤ 100000) (hri : ∀ x ∈ r, In64 x) (w : World) (hc : At w w.heap.size A (ivs r)) :
    Calls Try.prog 15 #[.slice A r.length cap, .int .i64 most] w (BEnd (sprF r most).1 (.bool (sprF r most).2) w) := by
  obtain ⟨i0, hi, hz0, hz1, hz2⟩ := info_parts Try.info4
  have HC := Lib.hid hc
  have HRI := Lib.hid hri
  clear hc hri
  obtain ⟨res, hres⟩ : ∃ res, res = sprF r most := ⟨_, rfl⟩
  have HR := Lib.hid hres
  rw [← hres]
  clear hres
  by_cases hneg : most < 0
  · have HN := Lib.hid hneg
    have hres2 : res = ([], false) := by
      rw [HR.out]
      cases hz : szR 0 (decide (r.length = 1)) r most with
      | none => exact sprF_none hz
      | some z =>
        obtain ⟨_, h2, h3⟩ := szR_some _ _ _ _ _ hz
        have := h3 false
        have := HN.out
        omega
    go_enter Try.func15, Try.ntmps15
    go_wp2_with fail
    go_ret2
    rw [hres2]
    exact bEnd_nil (Below.refl _ _)
  obtain ⟨N, rfl⟩ := Int.eq_ofNat_of_zero_le (show 0 ≤ most by omega)
  have t1 : decide ((N : Int) < 0) = false := by simp
  have hN : N ≤ 100000 := by omega
  clear hneg hm1 hm2
  by_cases hone : r.length = 1 ∧ r[0]? = some 0
  · obtain ⟨h1, h2⟩ := hone
    have hres2 : res = ([], false) := by
      rw [HR.out]
      refine sprF_none ?_
      have := szR_bad (one := decide (r.length = 1)) (left := (N : Int)) h2 (.inr ⟨rfl, .inr (by simp [h1])⟩)
      simpa using this
    obtain ⟨b, off, rfl, hbl, hcell⟩ := HC.out 0 _ (ivs_at h2)
    rw [Nat.add_zero] at hcell
    have t2 : ((r.length : Int) == 1) = true := by simp [h1]
    go_enter Try.func15, Try.ntmps15
    go_wp2_with fail
    go_ret2
    rw [hres2]
    exact bEnd_nil (Below.refl _ _)
  have HONE := Lib.hid hone
  have hor : (∃ b off x, A = some ⟨b, off, none⟩ ∧ r.length = 1 ∧ r[0]? = some x ∧ x ≠ 0 ∧ w.cell? ⟨b, off, none⟩ = some (.int .i64 x)) ∨ r.length ≠ 1 := by
    by_cases h1 : r.length = 1
    · obtain ⟨x, hx⟩ := some_at (show 0 < r.length by omega)
      obtain ⟨b, off, rfl, hbl, hcell⟩ := HC.out 0 _ (ivs_at hx)
      rw [Nat.add_zero] at hcell
      exact .inl ⟨b, off, x, rfl, h1, hx, fun e => hone ⟨h1, by rw [hx, e]⟩, hcell⟩
    · exact .inr h1
  clear hone
  have hent : Calls Try.prog 15 #[.slice A r.length cap, .int .i64 (N : Int)] w (BEnd res.1 (.bool res.2) w) := by
    rcases hor with ⟨b, off, x, rfl, h1, hx, hx0, hcell⟩ | h1
    · have h1a : r.length ≤ 1 := by omega
      have h1b : 1 ≤ r.length := by omega
      have t3 : (x == 0) = false := by simpa using hx0
      have HX0 := Lib.hid hx0
      clear h1 hx hx0
      go_enter Try.func15, Try.ntmps15
      go_wp2_with fail
      clear hcell h1a h1b t3
      go_loopg [6, 7] r.length (fun m s i wr => ∃ k : Nat, i = .int .i64 (k : Int) ∧ r.length - k ≤ m ∧ k ≤ r.length ∧ (sprI (r.take k)).length ≤ N ∧ szR k (decide (r.length = 1)) (r.drop k) ((N : Int) - ((sprI (r.take k)).length : Int)) = szR 0 (decide (r.length = 1)) r (N : Int) ∧ (∃ A' cap', s = .slice A' (sprI (r.take k)).length cap') ∧ wr.ownsRow w.heap.size 4 1 s (sprI (r.take k)).length (bvs (sprI (r.take k))) ∧ Below w.heap.size w wr)
      case atStart => exact ⟨0, rfl, by omega, Nat.zero_le _, Nat.zero_le _, by simp [sprI, sprB], ⟨none, 0, rfl⟩, World.ownsRow_nil _ _ _ _, Below.refl _ _⟩
      case round =>
        obtain ⟨k, rfl, hmk, hk, hsN, hsz, ⟨A0, cap0, rfl⟩, hown, hb⟩ := hrel
        have hb0 := hb.size
        by_cases hlt : k < r.length
        · obtain ⟨x, hxk⟩ := some_at hlt
          obtain ⟨b', off', hbe', hbl, hcell⟩ := (HC.out.below hb) k _ (ivs_at hxk)
          cases hbe'
          have hxi : In64 x := HRI.out _ (mem_at hxk)
          unfold In64 at hxi
          obtain ⟨hx1, hx2⟩ := hxi
          have HX := Lib.hid hxk
          have HSZ := Lib.hid hsz
          obtain ⟨n, hn⟩ : ∃ n, n = (sprI (r.take k)).length := ⟨_, rfl⟩
          rw [← hn] at hown hsN ⊢
          have HNN := Lib.hid hn
          clear hsz hn
          by_cases hbad : x < 0 ∨ (x = 0 ∧ 0 < k)
          · have hres2 : res = ([], false) := by
              rw [HR.out]
              refine sprF_none ?_
              rw [← HSZ.out]
              exact szR_bad hxk (by rcases hbad with h | ⟨h1, h2⟩; exact .inl h; exact .inr ⟨h1, .inl h2⟩)
            clear hxk
            rcases hbad with hb1 | ⟨hb1, hb2⟩
            · go_wp2_with fail
              go_ret2
              rw [hres2]
              exact bEnd_nil hb
            · have t5 : (x == 0) = true := by simp [hb1]
              have t6 : decide ((0 : Int) < (k : Int)) = true := by simp; omega
              go_wp2_with fail
              all_goals
                go_ret2
                rw [hres2]
                exact bEnd_nil hb
          · have hx0 : 0 ≤ x := by omega
            have hstep := szR_step (r := r) (k := k) (one := decide (r.length = 1)) (x := x) (left := (N : Int) - (n : Int)) hxk (by
              rintro (h | ⟨h1, h2⟩)
              · omega
              · rcases h2 with h2 | h2
                · exact hbad (.inr ⟨h1, h2⟩)
                · simp at h2
                  refine HONE.out ⟨h2, ?_⟩
                  have : k = 0 := by omega
                  rw [this, h1] at hxk
                  exact hxk)
            have HSTEP := Lib.hid hstep
            have t5 : (x == 0 && decide (0 < k)) = false := by
              by_cases h : x = 0
              · have : ¬ 0 < k := fun h2 => hbad (.inr ⟨h, h2⟩)
                simp [h, this]
              · simp [h]
            have hk0 : x = 0 → k = 0 := fun h => by
              have : ¬ 0 < k := fun h2 => hbad (.inr ⟨h, h2⟩)
              omega
            have HK0 := Lib.hid hk0
            clear hstep hbad t5 hk0
            have hsp : ((x == 0) = true ∧ decide ((0 : Int) < (k : Int)) = false ∧ decide (0 < k) = false ∧ ¬ 0 < k) ∨ (x == 0) = false := by
              by_cases h : x = 0
              · have := HK0.out h
                exact .inl ⟨by simp [h], by simp; omega, by simp; omega, by omega⟩
              · exact .inr (by simpa using h)
            have t0 : decide (x < 0) = false := by simp; omega
            rcases hsp with ⟨t5, t6, t7, t8⟩ | t5
            all_goals
              by_cases hfar : (N : Int) - (n : Int) < x
              · have hres2 : res = ([], false) := by
                  rw [HR.out]
                  refine sprF_none ?_
                  rw [← HSZ.out, ← HNN.out]
                  exact szR_far hxk hfar
                have HRES2 := Lib.hid hres2
                clear hxk hres2
                go_wp2_with fail
                go_ret2
                rw [HRES2.out]
                exact bEnd_nil hb
              · obtain ⟨q, rfl⟩ := Int.eq_ofNat_of_zero_le hx0
                have hst := sprI_take hxk
                rw [Int.toNat_natCast] at hst
                have hsl := congrArg List.length hst
                rw [List.length_append, List.length_replicate, ← HNN.out] at hsl
                have HST := Lib.hid hst
                have HSL := Lib.hid hsl
                have hnq : n + q ≤ N := by omega
                have hxx := hxk
                have HXK := Lib.hid hxx
                clear hst hsl hxk hxx hbl
                go_wp2_with fail
                go_loopg [6, 8] q (fun m s j wr2 => ∃ i : Nat, j = .int .i64 (i : Int) ∧ q - i ≤ m ∧ i ≤ q ∧ (∃ A' cap', s = .slice A' (n + i) cap') ∧ wr2.ownsRow w.heap.size 4 1 s (n + i) (bvs (sprI (r.take k) ++ List.replicate i (par k))) ∧ Below w.heap.size w wr2)
                case atStart => exact ⟨0, rfl, by omega, Nat.zero_le _, ⟨_, _, rfl⟩, by simpa using hown, hb⟩
                case round =>
                  clear hcell hown hb hb0
                  obtain ⟨i, rfl, hmi, hi9, ⟨A1, cap1, rfl⟩, hown, hb⟩ := hrel
                  have hb0 := hb.size
                  obtain ⟨b', off', hbe, _, hcell⟩ := (HC.out.below hb) k _ (ivs_at HXK.out)
                  cases hbe
                  have hni : n + i ≤ 100000 := by omega
                  by_cases hiq : i < q
                  · have hp1 : ((k : Int).tmod 2 == 1) = par k := by
                      unfold par
                      rw [show (k : Int).tmod 2 = ((k % 2 : Nat) : Int) by rw [Int.tmod_eq_emod_of_nonneg (by omega)]; omega]
                      by_cases h : k % 2 = 1 <;> simp [h] <;> omega
                    have hp2 : ((k : Int) % 2 == 1) = par k := by
                      unfold par
                      rw [show (k : Int) % 2 = ((k % 2 : Nat) : Int) by omega]
                      by_cases h : k % 2 = 1 <;> simp [h] <;> omega
                    go_wp2_with (at_builtin; refine wpList_append_own _ rfl _ _ 22 rfl w.heap.size 4 i0 (.bool false) 1 1 Try.underlying22 hi hz0 hz1 hz2 rfl (by decide) _ _ _ rfl (hown.alloc _) ⟨wr.heap.size, 0, none⟩ 1 1 [.bool (par k)] rfl rfl (cell_one_new _ _ _) (by simp [Value.oneCell']) (by unfold maxLen; omega) (by omega) (by simp; omega) ?_; intro v' w2 hown' hgrow _)
                    have hb2 := below_ownI hb hb0 hown hgrow
                    obtain ⟨g', cap', rfl⟩ := ownsRow_succ hown'
                    have ho2 := own_snocB hown'
                    rw [List.append_assoc, ← repB_snoc] at ho2
                    clear hown hown' hgrow hb hcell
                    go_roundg (q - (i + 1))
                    case measure => omega
                    case rel => exact ⟨i + 1, by go_num, Nat.le_refl _, by omega, ⟨_, _, rfl⟩, ho2, hb2⟩
                  · obtain rfl : i = q := by omega
                    go_wp2_with fail
                    rw [← HST.out] at hown
                    have hfin : szR (k + 1) (decide (r.length = 1)) (r.drop (k + 1)) ((N : Int) - ((sprI (r.take (k + 1))).length : Int)) = szR 0 (decide (r.length = 1)) r (N : Int) := by
                      rw [show ((N : Int) - ((sprI (r.take (k + 1))).length : Int)) = (N : Int) - (n : Int) - (i : Int) by rw [HSL.out]; omega, ← HSTEP.out (by omega), HNN.out]
                      exact HSZ.out
                    go_roundg (r.length - (k + 1))
                    case measure => omega
                    case rel => exact ⟨k + 1, by go_num, Nat.le_refl _, by omega, by rw [HSL.out]; exact hnq, hfin, ⟨_, _, by rw [HSL.out]⟩, by rw [HSL.out]; exact hown, hb⟩
        · obtain rfl : k = r.length := by omega
          rw [szR_end] at hsz
          rw [List.take_length] at hown hsN hsz
          obtain ⟨A', cap', hA, ha, hfr, hcp⟩ := own_at hown
          cases hA
          have hres2 : res = (sprI r, true) := by
            rw [HR.out]
            rw [if_neg (by omega)] at hsz
            exact sprF_some hsz.symm
          rw [List.take_length]
          clear hsz hown
          go_wp2_with fail
          go_ret2
          rw [hres2]
          exact ⟨_, _, rfl, hcp, hfr, ha, hb⟩
    · have t2 : ((r.length : Int) == 1) = false := by simp; omega
      go_enter Try.func15, Try.ntmps15
      go_wp2_with fail
      go_loopg [6, 7] r.length (fun m s i wr => ∃ k : Nat, i = .int .i64 (k : Int) ∧ r.length - k ≤ m ∧ k ≤ r.length ∧ (sprI (r.take k)).length ≤ N ∧ szR k (decide (r.length = 1)) (r.drop k) ((N : Int) - ((sprI (r.take k)).length : Int)) = szR 0 (decide (r.length = 1)) r (N : Int) ∧ (∃ A' cap', s = .slice A' (sprI (r.take k)).length cap') ∧ wr.ownsRow w.heap.size 4 1 s (sprI (r.take k)).length (bvs (sprI (r.take k))) ∧ Below w.heap.size w wr)
      case atStart => exact ⟨0, rfl, by omega, Nat.zero_le _, Nat.zero_le _, by simp [sprI, sprB], ⟨none, 0, rfl⟩, World.ownsRow_nil _ _ _ _, Below.refl _ _⟩
      case round =>
        obtain ⟨k, rfl, hmk, hk, hsN, hsz, ⟨A0, cap0, rfl⟩, hown, hb⟩ := hrel
        have hb0 := hb.size
        by_cases hlt : k < r.length
        · obtain ⟨x, hxk⟩ := some_at hlt
          obtain ⟨b, off, rfl, hbl, hcell⟩ := (HC.out.below hb) k _ (ivs_at hxk)
          have hxi : In64 x := HRI.out _ (mem_at hxk)
          unfold In64 at hxi
          obtain ⟨hx1, hx2⟩ := hxi
          have HX := Lib.hid hxk
          have HSZ := Lib.hid hsz
          obtain ⟨n, hn⟩ : ∃ n, n = (sprI (r.take k)).length := ⟨_, rfl⟩
          rw [← hn] at hown hsN ⊢
          have HNN := Lib.hid hn
          clear hsz hn
          by_cases hbad : x < 0 ∨ (x = 0 ∧ 0 < k)
          · have hres2 : res = ([], false) := by
              rw [HR.out]
              refine sprF_none ?_
              rw [← HSZ.out]
              exact szR_bad hxk (by rcases hbad with h | ⟨h1, h2⟩; exact .inl h; exact .inr ⟨h1, .inl h2⟩)
            clear hxk
            rcases hbad with hb1 | ⟨hb1, hb2⟩
            · go_wp2_with fail
              go_ret2
              rw [hres2]
              exact bEnd_nil hb
            · have t5 : (x == 0) = true := by simp [hb1]
              have t6 : decide ((0 : Int) < (k : Int)) = true := by simp; omega
              go_wp2_with fail
              go_ret2
              rw [hres2]
              exact bEnd_nil hb
          · have hx0 : 0 ≤ x := by omega
            have hstep := szR_step (r := r) (k := k) (one := decide (r.length = 1)) (x := x) (left := (N : Int) - (n : Int)) hxk (by
              rintro (h | ⟨h1, h2⟩)
              · omega
              · rcases h2 with h2 | h2
                · exact hbad (.inr ⟨h1, h2⟩)
                · simp at h2
                  refine HONE.out ⟨h2, ?_⟩
                  have : k = 0 := by omega
                  rw [this, h1] at hxk
                  exact hxk)
            have HSTEP := Lib.hid hstep
            have t5 : (x == 0 && decide (0 < k)) = false := by
              by_cases h : x = 0
              · have : ¬ 0 < k := fun h2 => hbad (.inr ⟨h, h2⟩)
                simp [h, this]
              · simp [h]
            have hk0 : x = 0 → k = 0 := fun h => by
              have : ¬ 0 < k := fun h2 => hbad (.inr ⟨h, h2⟩)
              omega
            have HK0 := Lib.hid hk0
            clear hstep hbad t5 hk0
            have hsp : ((x == 0) = true ∧ decide ((0 : Int) < (k : Int)) = false ∧ decide (0 < k) = false ∧ ¬ 0 < k) ∨ (x == 0) = false := by
              by_cases h : x = 0
              · have := HK0.out h
                exact .inl ⟨by simp [h], by simp; omega, by simp; omega, by omega⟩
              · exact .inr (by simpa using h)
            have t0 : decide (x < 0) = false := by simp; omega
            rcases hsp with ⟨t5, t6, t7, t8⟩ | t5
            all_goals
              by_cases hfar : (N : Int) - (n : Int) < x
              · have hres2 : res = ([], false) := by
                  rw [HR.out]
                  refine sprF_none ?_
                  rw [← HSZ.out, ← HNN.out]
                  exact szR_far hxk hfar
                have HRES2 := Lib.hid hres2
                clear hxk hres2
                go_wp2_with fail
                go_ret2
                rw [HRES2.out]
                exact bEnd_nil hb
              · obtain ⟨q, rfl⟩ := Int.eq_ofNat_of_zero_le hx0
                have hst := sprI_take hxk
                rw [Int.toNat_natCast] at hst
                have hsl := congrArg List.length hst
                rw [List.length_append, List.length_replicate, ← HNN.out] at hsl
                have HST := Lib.hid hst
                have HSL := Lib.hid hsl
                have hnq : n + q ≤ N := by omega
                have hxx := hxk
                have HXK := Lib.hid hxx
                clear hst hsl hxk hxx hbl
                go_wp2_with fail
                go_loopg [6, 8] q (fun m s j wr2 => ∃ i : Nat, j = .int .i64 (i : Int) ∧ q - i ≤ m ∧ i ≤ q ∧ (∃ A' cap', s = .slice A' (n + i) cap') ∧ wr2.ownsRow w.heap.size 4 1 s (n + i) (bvs (sprI (r.take k) ++ List.replicate i (par k))) ∧ Below w.heap.size w wr2)
                case atStart => exact ⟨0, rfl, by omega, Nat.zero_le _, ⟨_, _, rfl⟩, by simpa using hown, hb⟩
                case round =>
                  clear hcell hown hb hb0
                  obtain ⟨i, rfl, hmi, hi9, ⟨A1, cap1, rfl⟩, hown, hb⟩ := hrel
                  have hb0 := hb.size
                  obtain ⟨b', off', hbe, _, hcell⟩ := (HC.out.below hb) k _ (ivs_at HXK.out)
                  cases hbe
                  have hni : n + i ≤ 100000 := by omega
                  by_cases hiq : i < q
                  · have hp1 : ((k : Int).tmod 2 == 1) = par k := by
                      unfold par
                      rw [show (k : Int).tmod 2 = ((k % 2 : Nat) : Int) by rw [Int.tmod_eq_emod_of_nonneg (by omega)]; omega]
                      by_cases h : k % 2 = 1 <;> simp [h] <;> omega
                    have hp2 : ((k : Int) % 2 == 1) = par k := by
                      unfold par
                      rw [show (k : Int) % 2 = ((k % 2 : Nat) : Int) by omega]
                      by_cases h : k % 2 = 1 <;> simp [h] <;> omega
                    go_wp2_with (at_builtin; refine wpList_append_own _ rfl _ _ 22 rfl w.heap.size 4 i0 (.bool false) 1 1 Try.underlying22 hi hz0 hz1 hz2 rfl (by decide) _ _ _ rfl (hown.alloc _) ⟨wr.heap.size, 0, none⟩ 1 1 [.bool (par k)] rfl rfl (cell_one_new _ _ _) (by simp [Value.oneCell']) (by unfold maxLen; omega) (by omega) (by simp; omega) ?_; intro v' w2 hown' hgrow _)
                    have hb2 := below_ownI hb hb0 hown hgrow
                    obtain ⟨g', cap', rfl⟩ := ownsRow_succ hown'
                    have ho2 := own_snocB hown'
                    rw [List.append_assoc, ← repB_snoc] at ho2
                    clear hown hown' hgrow hb hcell
                    go_roundg (q - (i + 1))
                    case measure => omega
                    case rel => exact ⟨i + 1, by go_num, Nat.le_refl _, by omega, ⟨_, _, rfl⟩, ho2, hb2⟩
                  · obtain rfl : i = q := by omega
                    go_wp2_with fail
                    rw [← HST.out] at hown
                    have hfin : szR (k + 1) (decide (r.length = 1)) (r.drop (k + 1)) ((N : Int) - ((sprI (r.take (k + 1))).length : Int)) = szR 0 (decide (r.length = 1)) r (N : Int) := by
                      rw [show ((N : Int) - ((sprI (r.take (k + 1))).length : Int)) = (N : Int) - (n : Int) - (i : Int) by rw [HSL.out]; omega, ← HSTEP.out (by omega), HNN.out]
                      exact HSZ.out
                    go_roundg (r.length - (k + 1))
                    case measure => omega
                    case rel => exact ⟨k + 1, by go_num, Nat.le_refl _, by omega, by rw [HSL.out]; exact hnq, hfin, ⟨_, _, by rw [HSL.out]⟩, by rw [HSL.out]; exact hown, hb⟩
        · obtain rfl : k = r.length := by omega
          rw [szR_end] at hsz
          rw [List.take_length] at hown hsN hsz
          obtain ⟨A', cap', hA, ha, hfr, hcp⟩ := own_at hown
          cases hA
          have hres2 : res = (sprI r, true) := by
            rw [HR.out]
            rw [if_neg (by omega)] at hsz
            exact sprF_some hsz.symm
          rw [List.take_length]
          clear hsz hown
          go_wp2_with fail
          go_ret2
          rw [hres2]
          exact ⟨_, _, rfl, hcp, hfr, ha, hb⟩
  exact hent
end Go.Proofs.Ytiehmeheilfocaa
