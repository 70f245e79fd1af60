/-
  flags: one length laid; how many flags any lengths spread to.
-/
import Derived.Test.YtiehmeheilfocaaPa
import Derived.Test.YtiehmeheilfocaaMu
import Derived.Test.YtiehmeheilfocaaQe
namespace Go.Proofs.Ytiehmeheilfocaa
open Go.RowKit Go.IntWalk
open Pk
set_option maxRecDepth 100000
attribute [local go_sem] Oper.semAt_some

theorem repB_snoc (v : Bool) (k : Nat) : List.replicate (k + 1) v = List.replicate k v ++ [v] := by rw [List.replicate_succ']

set_option maxHeartbeats 4000000 in
theorem layF_c (base g n cap m : Nat) (v : Bool) (xs : List Bool) (hm : m ≤ 100000) (_ : n ≤ 100000) (hcap : n + m ≤ cap) (w : World) (hown : w.ownsRow base 4 1 (.slice (some ⟨g, 0, none⟩) n cap) n (bvs xs)) :
    Calls Try.prog 43 #[.slice (some ⟨g, 0, none⟩) n cap, .bool v, .int .i64 (m : Int)] w fun e w' => e = .returned (.slice (some ⟨g, 0, none⟩) (n + m) cap) ∧
      w'.ownsRow base 4 1 (.slice (some ⟨g, 0, none⟩) (n + m) cap) (n + m) (bvs (xs ++ List.replicate m v)) ∧ w.grownBy w' (some g) := by
  obtain ⟨i0, hi, hz0, hz1, hz2⟩ := info_parts Try.info4
  go_enter Try.func43, Try.ntmps43
  go_wp2_with fail
  go_loopw [0, 8] (fun s i wr => ∃ k : Nat, s = .slice (some ⟨g, 0, none⟩) (n + k) cap ∧ i = .int .i64 (k : Int) ∧ k ≤ m ∧ wr.ownsRow base 4 1 (.slice (some ⟨g, 0, none⟩) (n + k) cap) (n + k) (bvs (xs ++ List.replicate k v)) ∧ w.grownBy wr (some g))
    (fun _ i _ => m - (intOf i).toNat)
  case atStart => exact ⟨0, rfl, rfl, Nat.zero_le _, by simpa using hown, ⟨rfl, rfl, rfl, Nat.le_refl _, fun _ _ _ => rfl⟩⟩
  case round =>
    clear hown
    obtain ⟨k, rfl, rfl, hk, hown, hgr⟩ := hrel
    by_cases hlt : k < m
    · go_wp2_with (at_builtin; refine wpList_append_fits _ rfl _ _ 22 rfl base 4 i0 1 Try.underlying22 hi hz1 g (n + k) cap _ rfl (hown.alloc _) ⟨wr.heap.size, 0, none⟩ 1 1 [.bool v] rfl rfl (cell_one_new _ _ _) (by simp [Value.oneCell']) (by omega) ?_; intro w2 hown' hgrow)
      go_roundw
      case rel =>
        refine ⟨k + 1, rfl, by go_num, by omega, ?_, grown_tr (grown_tr hgr (World.grownBy_alloc _ _ _)) hgrow⟩
        rw [repB_snoc, ← List.append_assoc, bvs_snoc]
        exact hown'
      case measure => simp only [intOf]; omega
    · obtain rfl : k = m := by omega
      go_wp2_with fail
      go_ret
      exact ⟨rfl, hown, hgr⟩

def szF (r : List Int) (most : Int) : Value := match szR 0 (decide (r.length = 1)) r most with
  | none => .tuple #[.int .i64 0, .bool false]
  | some z => .tuple #[.int .i64 (most - z), .bool true]
theorem szF_none {r : List Int} {most : Int} (h : szR 0 (decide (r.length = 1)) r most = none) : szF r most = .tuple #[.int .i64 0, .bool false] := by unfold szF; rw [h]
theorem szF_some {r : List Int} {most z : Int} (h : szR 0 (decide (r.length = 1)) r most = some z) : szF r most = .tuple #[.int .i64 (most - z), .bool true] := by unfold szF; rw [h]

set_option maxHeartbeats 8000000 in
theorem sizeF_c (A : Option Addr) (cap : Nat) (r : List Int) (most : Int) (hr : r.length ≤ 100000) (hm1 : -9223372036854775808 ≤ most) (hm2 : most ≤ 100000) (hri : ∀ x ∈ r, In64 x) (w : World) (hc : At w w.heap.size A (ivs r)) :
    Calls Try.prog 41 #[.slice A r.length cap, .int .i64 most] w fun e w' => e = .returned (szF r most) ∧ ∃ q, w' = w.drewN q := by
  have HC := Lib.hid hc
  have HRI := Lib.hid hri
  clear hc hri
  obtain ⟨Z, hZ⟩ : ∃ Z, Z = szR 0 (decide (r.length = 1)) r most := ⟨_, rfl⟩
  have HZ := Lib.hid hZ
  clear hZ
  go_enter Try.func41, Try.ntmps41
  go_wp2_with fail
  go_loopw [6, 12] (fun l i wr => ∃ (k : Nat) (L : Int), l = .int .i64 L ∧ i = .int .i64 (k : Int) ∧ k ≤ r.length ∧ szR k (decide (r.length = 1)) (r.drop k) L = Z ∧ (k = 0 ∨ 0 ≤ L) ∧ L ≤ most ∧ -9223372036854775808 ≤ L ∧ ∃ q, wr = w.drewN q)
    (fun _ i _ => r.length - (intOf i).toNat)
  case atStart => exact ⟨0, most, rfl, rfl, Nat.zero_le _, HZ.out.symm, .inl rfl, Int.le_refl _, hm1, 0, rfl⟩
  case round =>
    obtain ⟨k, L, rfl, rfl, hk, hsz, hk0, hLm, hLl, hq⟩ := hrel
    have HQ := Lib.hid hq
    clear hq
    by_cases hlt : k < r.length
    · obtain ⟨x, hxk⟩ := some_at hlt
      obtain ⟨b, off, rfl, hbl, hcell⟩ := (at_drewE HC.out HQ.out) k _ (ivs_at hxk)
      have hxi : In64 x := HRI.out _ (mem_at hxk)
      unfold In64 at hxi
      obtain ⟨hx1, hx2⟩ := hxi
      have HX := Lib.hid hxk
      have HSZ := Lib.hid hsz
      clear hxk hsz hk0
      by_cases hxn : x < 0
      · have HB := Lib.hid ((szR_bad HX.out (.inl hxn)).symm.trans HSZ.out)
        go_wp2_with fail
        go_ret2
        exact ⟨by rw [szF_none (HZ.out.symm.trans HB.out.symm)]; rfl, HQ.out⟩
      · have t0 : decide (x < 0) = false := by simp; omega
        by_cases hx0 : x = 0
        · have t1 : (x == 0) = true := by simp [hx0]
          by_cases hk1 : 0 < k
          · have HB := Lib.hid ((szR_bad (one := decide (r.length = 1)) (left := L) HX.out (.inr ⟨hx0, .inl hk1⟩)).symm.trans HSZ.out)
            have t2 : decide ((0 : Int) < (k : Int)) = true := by simp; omega
            clear hx0 hxn
            go_wp2_with fail
            go_ret2
            exact ⟨by rw [szF_none (HZ.out.symm.trans HB.out.symm)]; rfl, HQ.out⟩
          · have t2 : decide ((0 : Int) < (k : Int)) = false := by simp; omega
            by_cases h1 : r.length = 1
            · have HB := Lib.hid ((szR_bad (one := decide (r.length = 1)) (left := L) HX.out (.inr ⟨hx0, .inr (by simp [h1])⟩)).symm.trans HSZ.out)
              have t3 : ((r.length : Int) == 1) = true := by simp [h1]
              clear hx0 hxn h1
              go_wp2_with fail
              go_ret2
              exact ⟨by rw [szF_none (HZ.out.symm.trans HB.out.symm)]; rfl, HQ.out⟩
            · have HO := Lib.hid (show ¬ (x < 0 ∨ (x = 0 ∧ (0 < k ∨ decide (r.length = 1) = true))) by simp [h1]; omega)
              have t3 : ((r.length : Int) == 1) = false := by simp; omega
              by_cases hL : L < x
              · have HB := Lib.hid ((szR_far (one := decide (r.length = 1)) HX.out hL).symm.trans HSZ.out)
                have t4 : decide (L < x) = true := by simp [hL]
                clear hx0 hxn h1 hL
                go_wp2_with fail
                go_ret2
                exact ⟨by rw [szF_none (HZ.out.symm.trans HB.out.symm)]; rfl, HQ.out⟩
              · have HB := Lib.hid ((szR_step HX.out HO.out hL).symm.trans HSZ.out)
                have t4 : decide (L < x) = false := by simp; omega
                have hB2 := HB.out
                rw [show L - x = L by omega] at hB2
                have HB := Lib.hid hB2
                clear hB2
                go_wp2_with fail
                go_roundw
                case rel => exact ⟨k + 1, L, rfl, by go_num, by omega, HB.out, .inr (by omega), by omega, by omega, HQ.out⟩
                case measure => simp only [intOf]; omega
        · have t1 : (x == 0) = false := by simpa using hx0
          have HO := Lib.hid (show ¬ (x < 0 ∨ (x = 0 ∧ (0 < k ∨ decide (r.length = 1) = true))) by omega)
          by_cases hL : L < x
          · have HB := Lib.hid ((szR_far (one := decide (r.length = 1)) HX.out hL).symm.trans HSZ.out)
            have t4 : decide (L < x) = true := by simp [hL]
            clear hx0 hxn hL
            go_wp2_with fail
            go_ret2
            exact ⟨by rw [szF_none (HZ.out.symm.trans HB.out.symm)]; rfl, HQ.out⟩
          · have HB := Lib.hid ((szR_step HX.out HO.out hL).symm.trans HSZ.out)
            have t4 : decide (L < x) = false := by simp; omega
            clear hx0
            go_wp2_with fail
            go_roundw
            case rel => exact ⟨k + 1, L - x, rfl, by go_num, by omega, HB.out, .inr (by omega), by omega, by omega, HQ.out⟩
            case measure => simp only [intOf]; omega
    · obtain rfl : k = r.length := by omega
      rw [szR_end] at hsz
      by_cases hneg : L < 0
      · rw [if_pos hneg] at hsz
        have HN := Lib.hid (hsz.trans HZ.out)
        clear hsz
        go_wp2_with fail
        go_ret2
        exact ⟨by rw [szF_none HN.out.symm]; rfl, HQ.out⟩
      · rw [if_neg hneg] at hsz
        have HN := Lib.hid (hsz.trans HZ.out)
        clear hsz hk0
        go_wp2_with fail
        go_ret2
        exact ⟨by rw [szF_some HN.out.symm]; rfl, HQ.out⟩
end Go.Proofs.Ytiehmeheilfocaa
