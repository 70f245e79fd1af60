/-
  The walk of RunsFew.
-/
import Derived.Test.YtacnbgfddidfiaaSh
namespace Go.Proofs.Ytacnbgfddidfiaa
open Go.RowKit Go.IntWalk
open Pk
set_option maxRecDepth 100000
attribute [local go_sem] Oper.semAt_some
attribute [-go_sem] run_neq_struct
attribute [local go_sem] run_guard neq_runs

theorem cnt_step {us : List Nat} {m x y : Nat} (hy : us[m]? = some y) (hx : us[m + 1]? = some x) : chg (us.drop m) = (if y = x then 0 else 1) + chg (us.drop (m + 1)) := by
  rw [drop_at_cons hy, drop_at_cons hx, chg]
theorem rev_step {us : List Nat} {j x : Nat} (h : us[j]? = some x) : (us.drop j).reverse = (us.drop (j + 1)).reverse ++ [x] := by
  rw [drop_at_cons h, List.reverse_cons]
theorem cnt_end (us : List Nat) : chg (us.drop (us.length - 1)) = 0 := by
  rcases Nat.eq_zero_or_pos us.length with h | h
  · rw [List.eq_nil_of_length_eq_zero h]; rfl
  · have hl : (us.drop (us.length - 1)).length = 1 := by rw [List.length_drop]; omega
    obtain ⟨a, ha⟩ := List.length_eq_one_iff.1 hl
    rw [ha]; rfl
theorem chg_le (l : List Nat) : chg l ≤ l.length := by
  match l with
  | [] => exact Nat.le_refl _
  | [_] => exact Nat.zero_le _
  | x :: y :: l =>
    rw [chg]
    have := chg_le (y :: l)
    simp only [List.length_cons] at this ⊢
    split <;> omega

namespace runsFew
set_option maxHeartbeats 8000000 in
theorem walk (A : Option Addr) (cap : Nat) (xs : List Int) (hz : xs.length ≤ maxLen) (hw : ∀ x ∈ xs, (Lit.int .u64 x).wf = true) (w : World) (hc : At w w.heap.size A (xs.map (Value.int .u64))) :
    Calls Try.prog 11 #[.slice A xs.length cap] w fun e w' => e = .returned (.bool true) ∧ Below w.heap.size w w' := by
  obtain ⟨us, rfl, hus⟩ := nats_of hw
  rw [uvs_map] at hc
  rw [List.length_map] at hz ⊢
  have HC := Lib.hid hc
  unfold maxLen at hz
  clear hw hc hus
  by_cases h : 200 < us.length
  · go_enter Try.func11, Try.ntmps11
    go_wp2_with fail
    refine (live6_c _).mono ?_
    rintro e w1 ⟨rfl, hb1⟩
    go_wp2
    go_ret
    exact ⟨rfl, hb1⟩
  · have h1 : us.length ≤ 200 := by omega
    have t0 : decide ((200 : Int) < (us.length : Int)) = false := by simp; omega
    obtain ⟨i0, hi, hz0, hz1, hz2⟩ := info_parts Try.info34
    have HCE := Lib.hid (cnt_end us)
    clear h hz
    go_enter Try.func11, Try.ntmps11
    go_wp2_with fail
    go_loopw [3, 4, 5] (fun c b i wr => ∃ (k : Nat) (x : Int), c = .int .i64 (chg (us.drop (k - 1)) : Int) ∧ i = .int .i64 x ∧ x = (k : Int) - 1 ∧ k ≤ us.length ∧ (∃ A1 c1, b = .slice A1 (us.drop k).reverse.length c1) ∧ wr.ownsRow w.heap.size 34 1 b (us.drop k).reverse.length (uvs (us.drop k).reverse) ∧ Below w.heap.size w wr)
      (fun _ _ i _ => (intOf i + 1).toNat)
    case atStart => exact ⟨us.length, _, by rw [HCE.out]; rfl, rfl, rfl, Nat.le_refl _, ⟨none, 0, by rw [List.drop_length]; rfl⟩, by rw [List.drop_length]; exact World.ownsRow_nil _ _ _ _, Below.refl _ _⟩
    case round =>
      obtain ⟨k, x, rfl, rfl, hx, hk, ⟨A1, c1, rfl⟩, hown, hb⟩ := hrel
      have hb0 := hb.size
      by_cases hk0 : k = 0
      · subst hk0
        have hxn : decide (0 ≤ x) = false := by simp; omega
        have hxl : x < 0 := by omega
        rw [show chg (us.drop (0 - 1)) = chg us from rfl, show us.drop 0 = us from rfl]
        rw [show us.drop 0 = us from rfl] at hown
        obtain ⟨A2, c2, hA2, hat, -, -⟩ := own_at hown
        cases hA2
        have hrl : us.reverse.length ≤ 100000 := by rw [List.length_reverse]; omega
        have hrr := runs_rev us
        have hch := chg_le us
        obtain ⟨bk, hbk⟩ : ∃ bk, bk = us.reverse := ⟨_, rfl⟩
        rw [← hbk] at hat hrl hrr ⊢
        obtain ⟨rs, hrs⟩ : ∃ rs, rs = runsL us := ⟨_, rfl⟩
        have hrn : rs.length ≤ 200 := by rw [hrs]; exact Nat.le_trans (runs_len us) h1
        have HEMP := Lib.hid (show us.length = 0 → rs.length = 0 by rw [hrs]; intro h0; have := runs_len us; omega)
        have HCHG := Lib.hid (show us.length ≠ 0 → rs.length = chg us + 1 by rw [hrs]; intro h0; exact runs_chg (fun e => h0 (by rw [e]; rfl)))
        have HSPR := Lib.hid (show spr rs = us by rw [hrs]; exact runs_spr us)
        have HPOS := Lib.hid (show ∀ x ∈ rs, (1 : Int) ≤ x.2 ∧ x.2 ≤ (us.length : Int) by rw [hrs]; exact fun x hx => (runs_in hx).2)
        rw [← hrs] at hrr
        have HRS := Lib.hid hrs
        have HRR := Lib.hid hrr
        have HAT := Lib.hid hat
        have hx2 : us.length ≤ 100000 := by omega
        have hrlen : rs.reverse.length = rs.length := List.length_reverse
        clear hx hown hat hbk hrs hrr hk
        go_wp2_with fail
        refine (runs_k us rs HRS.out.symm rfl rfl hx2 (HC.out.keep hb)).mono ?_
        rintro e w2 ⟨B2, k2, rfl, hat2, hm2⟩
        have HAT2 := Lib.hid hat2
        have HAT := Lib.hid (HAT.out.keep hm2)
        have hb2 := hb.trans (hm2.mono hb.size)
        clear hat2 hm2 hb
        go_wp2_with fail
        refine (runs_k bk rs.reverse HRR.out rfl hrlen hrl HAT.out).mono ?_
        rintro e w3 ⟨B3, k3, rfl, hat3, hm3⟩
        have HAT3 := Lib.hid hat3
        have HAT2 := Lib.hid (HAT2.out.keep hm3)
        have hb3 := hb2.trans (hm3.mono hb2.size)
        clear hat3 hm3 hb2 HAT
        by_cases he : us.length = 0
        · have hr0 : rs.length = 0 := HEMP.out he
          have e1 : ((us.length : Int) == 0) = true := by rw [he]; rfl
          have e2 : ((rs.length : Int) == 0) = true := by rw [hr0]; rfl
          clear he hr0
          go_wp2_with fail
          refine (live6_c _).mono ?_
          rintro e w4 ⟨rfl, hm4⟩
          go_wp2
          go_ret
          exact ⟨rfl, hb3.trans (hm4.mono hb3.size)⟩
        · have e1 : ((us.length : Int) == 0) = false := by simp only [beq_eq_false_iff_ne, ne_eq]; omega
          have hrc := HCHG.out he
          have e2 : ((rs.length : Int) != (chg us : Int) + 1) = false := by rw [hrc]; simp
          have e3 : ((rs.length : Int) != (rs.length : Int)) = false := by simp
          clear he hrc
          go_wp2_with fail
          go_loopw [8, 9] (fun n i wr => ∃ k : Nat, n = .int .i64 ((spr (rs.take k)).length : Int) ∧ i = .int .i64 (k : Int) ∧ k ≤ rs.length ∧ ∃ q, wr = w3.drewN q)
            (fun _ i _ => rs.length - (intOf i).toNat)
          case atStart => exact ⟨0, rfl, rfl, Nat.zero_le _, 0, rfl⟩
          case round =>
            obtain ⟨k, rfl, rfl, hk, hq⟩ := hrel
            have HQ := Lib.hid hq
            clear hq
            have hle := spr_take_le rs k
            rw [HSPR.out] at hle
            by_cases hlt : k < rs.length
            · obtain ⟨⟨v, c⟩, hxk⟩ := some_at hlt
              have hpos := HPOS.out _ (mem_at hxk)
              obtain ⟨p, hp⟩ : ∃ p, p = rs.length - 1 - k := ⟨_, rfl⟩
              have hxp : rs.reverse[p]? = some (v, c) := by
                rw [List.getElem?_reverse (by omega), ← hxk]
                congr 1
                omega
              obtain ⟨b1, o1, rfl, _, hc1, hd1⟩ := run_cells (at_drewE HAT2.out HQ.out) hxk
              obtain ⟨b2, o2, rfl, _, hc2, hd2⟩ := run_cells (at_drewE HAT3.out HQ.out) hxp
              have hst := congrArg List.length (spr_take_step hxk)
              rw [List.length_append, List.length_replicate] at hst
              have HST := Lib.hid hst
              have hne := runNe_same (v, c)
              dsimp only at hpos hc1 hd1 hc2 hd2 hne
              obtain ⟨hp1, hp2⟩ := hpos
              obtain ⟨n, hn⟩ : ∃ n, n = (spr (rs.take k)).length := ⟨_, rfl⟩
              rw [← hn] at hle hst ⊢
              have HN := Lib.hid hn
              have hpi : (rs.length : Int) - 1 - (k : Int) = (p : Int) := by omega
              have hp3 : p < rs.length := by omega
              have hp4 : (p : Int) < (rs.length : Int) := by omega
              clear hp hxk hxp hst hn
              go_wp2_with fail
              go_quiet (fail)
              go_wp2_with fail
              go_roundw
              case rel => exact ⟨k + 1, by rw [HST.out, ← HN.out]; congr 1; omega, by go_num, by omega, drewE HQ.out _⟩
              case measure => simp only [intOf]; omega
            · obtain rfl : k = rs.length := by omega
              rw [show (spr (rs.take rs.length)).length = us.length by rw [List.take_length, HSPR.out]]
              have e4 : ((us.length : Int) == (us.length : Int)) = true := by simp
              obtain ⟨q, hq⟩ := HQ.out
              have hb4 : Below w.heap.size w wr := by rw [hq]; exact below_drewN hb3 q
              clear hle hq
              go_wp2_with fail
              refine (live6_c _).mono ?_
              rintro e w4 ⟨rfl, hm4⟩
              go_wp2
              go_ret
              exact ⟨rfl, hb4.trans (hm4.mono hb4.size)⟩
      · obtain ⟨j, rfl⟩ : ∃ j, k = j + 1 := ⟨k - 1, by omega⟩
        obtain rfl : x = (j : Int) := by omega
        rw [Nat.add_sub_cancel]
        have hjl : j < us.length := by omega
        obtain ⟨y, hyj⟩ := some_at hjl
        obtain ⟨b, off, rfl, hbl, hcell⟩ := (HC.out.below hb) j _ (uvs_at hyj)
        have hrev := rev_step hyj
        have HREV := Lib.hid hrev
        have hlen : (us.drop (j + 1)).reverse.length + 1 ≤ 200 := by rw [List.length_reverse, List.length_drop]; omega
        obtain ⟨back, hback⟩ : ∃ back, back = (us.drop (j + 1)).reverse := ⟨_, rfl⟩
        rw [← hback] at hown hlen hrev ⊢
        have HBACK := Lib.hid hback
        have hjs : (0 : Int) ≤ (j : Int) := by omega
        have HYJ := Lib.hid hyj
        have hcc := Nat.le_trans (chg_le (us.drop j)) (by rw [List.length_drop]; omega : (us.drop j).length ≤ 200)
        obtain ⟨cc, hccd⟩ : ∃ cc, cc = chg (us.drop j) := ⟨_, rfl⟩
        rw [← hccd] at hcc ⊢
        have HCC := Lib.hid hccd
        clear hx hrev hback hyj hccd hk0
        go_wp2_with (at_builtin; refine wpList_append_own _ rfl _ _ 37 rfl w.heap.size 34 i0 (.int .u64 0) 1 8 Try.underlying37 hi hz0 hz1 hz2 rfl (by decide) _ _ _ rfl (hown.alloc _) ⟨wr.heap.size, 0, none⟩ 1 1 [.int .u64 (y : Int)] rfl rfl (cell_one_new _ _ _) (by simp [Value.oneCell']) (by unfold maxLen; omega) (by omega) (by simp; omega) ?_; intro v' w2 hown' hgrow _)
        have hb2 := below_ownI hb hb0 hown hgrow
        obtain ⟨g', cap', rfl⟩ := ownsRow_succ hown'
        have ho2 := own_snocU hown'
        clear hown hown' hgrow
        have hlr : ((us.drop j).reverse).length = back.length + 1 := by rw [HREV.out, List.length_append, ← HBACK.out]; rfl
        have HLR := Lib.hid hlr
        have ho3 : w2.ownsRow w.heap.size 34 1 (.slice (some ⟨g', 0, none⟩) (back.length + 1) cap') ((us.drop j).reverse).length (uvs (us.drop j).reverse) := by rw [hlr, HREV.out, ← HBACK.out]; exact ho2
        clear hlr ho2 hlen
        by_cases hj0 : j = 0
        · subst hj0
          clear hcell hb
          go_wp2_with fail
          go_quiet (fail)
          go_wp2_with fail
          go_roundw
          case rel => exact ⟨0, _, by rw [HCC.out], rfl, by simp, by omega, ⟨_, _, by rw [HLR.out]⟩, ho3, below_drewN hb2 _⟩
          case measure => simp [intOf]
        · obtain ⟨m, rfl⟩ : ∃ m, j = m + 1 := ⟨j - 1, by omega⟩
          have hml : m < us.length := by omega
          obtain ⟨z, hzm⟩ := some_at hml
          obtain ⟨b', off', hbe, _, hcell1⟩ := (HC.out.below hb2) (m + 1) _ (uvs_at HYJ.out)
          cases hbe
          obtain ⟨b', off', hbe, _, hcell2⟩ := (HC.out.below hb2) m _ (uvs_at hzm)
          cases hbe
          have hst := cnt_step hzm HYJ.out
          rw [← HCC.out] at hst
          have HST := Lib.hid hst
          have hm1 : decide ((0 : Int) < (m : Int) + 1) = true := by simp
          have hmw : IntKind.i64.wrap (m : Int) = (m : Int) := by rw [i64_left]; exact wrap64_in _ (by omega)
          have hms : (0 : Int) ≤ (m : Int) + 1 := by omega
          clear hcell hb hzm hst hj0
          by_cases hyz : z = y
          · have ee : ((y : Int) != (z : Int)) = false := by rw [hyz]; simp
            have HYZ := Lib.hid hyz
            clear hyz
            go_wp2_with fail
            go_quiet (fail)
            go_wp2_with fail
            go_roundw
            case rel => exact ⟨m + 1, _, by rw [Nat.add_sub_cancel, HST.out, if_pos HYZ.out, Nat.zero_add], rfl, by simp, by omega, ⟨_, _, by rw [HLR.out]⟩, ho3, below_drewN hb2 _⟩
            case measure => simp only [intOf]; omega
          · have ee : ((y : Int) != (z : Int)) = true := by simp; omega
            have HYZ := Lib.hid hyz
            clear hyz
            go_wp2_with fail
            go_quiet (fail)
            go_wp2_with fail
            go_roundw
            case rel => exact ⟨m + 1, _, by rw [Nat.add_sub_cancel, HST.out, if_neg HYZ.out]; congr 1; omega, rfl, by simp, by omega, ⟨_, _, by rw [HLR.out]⟩, ho3, below_drewN hb2 _⟩
            case measure => simp only [intOf]; omega
end runsFew
end Go.Proofs.Ytacnbgfddidfiaa
