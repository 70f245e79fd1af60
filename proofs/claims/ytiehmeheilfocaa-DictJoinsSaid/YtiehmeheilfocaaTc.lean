/-
  Words of a list of texts, the document's; Pick, the program's and the document's.
-/
import Derived.Test.YtiehmeheilfocaaTb
namespace Go.Proofs.Ytiehmeheilfocaa
open Go.RowKit Go.IntWalk
open Pk Dc
set_option maxRecDepth 100000
attribute [local go_sem] Oper.semAt_some

set_option maxHeartbeats 8000000 in
theorem rwords_c (A : Option Addr) (cap : Nat) (l : List Tx) (hx : l.length ≤ 100000) (w : World) (hc : At w w.heap.size A (svs l)) :
    Calls Try.prog 29 #[.slice A l.length cap] w (WEnd l w) := by
  obtain ⟨i0, hi, hz0, hz1, hz2⟩ := info_parts Try.info9
  obtain ⟨j0, hj, hy0, hy1, hy2⟩ := info_parts Try.info56
  have HC := Lib.hid hc
  clear hc
  go_enter Try.func29, Try.ntmps29
  go_wp2_with fail
  go_loopw [4, 5, 6] (fun v a i wr => ∃ k : Nat, i = .int .i64 (k : Int) ∧ k ≤ l.length ∧ (∃ A2 c2, a = .slice A2 k c2) ∧ wr.ownsRow w.heap.size 56 1 a k (uvs (pl [] (l.take k))) ∧ (∃ A1 c1, v = .slice A1 (ws [] (l.take k)).length c1) ∧ wr.ownsRow w.heap.size 9 1 v (ws [] (l.take k)).length (svs (ws [] (l.take k))) ∧ Below w.heap.size w wr)
    (fun _ _ i _ => l.length - (intOf i).toNat)
  case atStart => exact ⟨0, rfl, Nat.zero_le _, ⟨none, 0, rfl⟩, World.ownsRow_nil _ _ _ _, ⟨none, 0, rfl⟩, World.ownsRow_nil _ _ _ _, Below.refl _ _⟩
  case round =>
    obtain ⟨k, rfl, hk, ⟨A2, c2, rfl⟩, ha, ⟨A1, c1, rfl⟩, hv, hb⟩ := hrel
    have hb0 := hb.size
    by_cases hlt : k < l.length
    · obtain ⟨t, htk⟩ := some_at hlt
      obtain ⟨b', off, rfl, hbl, hcell⟩ := (HC.out.below hb) k _ (svs_at htk)
      have hwl := ws_len (l.take k) []
      rw [List.length_take, List.length_nil] at hwl
      have HW1 := Lib.hid (ws_take htk [])
      have HP1 := Lib.hid (pl_take htk [])
      obtain ⟨V, hV⟩ : ∃ V, V = ws [] (l.take k) := ⟨_, rfl⟩
      rw [← hV] at hv hwl HW1 HP1 ⊢
      have hVl : V.length ≤ 100000 := by omega
      have hkc : k ≤ 100000 := by omega
      have HTK := Lib.hid htk
      obtain ⟨A3, c3, hA3, hat3, -, -⟩ := own_at hv
      cases hA3
      have HAT3 := Lib.hid hat3
      have hile := ix_le t V
      clear hV hwl htk hat3
      go_wp2_with fail
      refine (place_c A1 c1 V t hVl _ HAT3.out).mono ?_
      rintro e wr ⟨rfl, rfl⟩
      have hwu : IntKind.u64.wrap (ix t V : Int) = (ix t V : Int) := by rw [IntKind.wrap_u64]; omega
      by_cases hin : t ∈ V
      · have hil := (ix_mem hin).1
        have hne : ((ix t V : Int) == (V.length : Int)) = false := by simp only [beq_eq_false_iff_ne, ne_eq]; omega
        have HADD := Lib.hid (add_mem hin)
        clear hin
        go_wp2_with (at_builtin; refine wpList_append_own _ rfl _ _ 40 rfl w.heap.size 56 j0 (.int .u64 0) 1 8 Try.underlying40 hj hy0 hy1 hy2 rfl (by decide) _ _ _ rfl (ha.alloc _) ⟨wr.heap.size, 0, none⟩ 1 1 [.int .u64 (ix t V : Int)] rfl rfl (cell_one_new _ _ _) (by simp [Value.oneCell']) (by unfold maxLen; omega) (by omega) (by simp; omega) ?_; intro v' w2 ha2 hgrow2 _)
        have hb2 := below_ownI hb hb0 ha hgrow2
        have hv2 := row_beside (by decide) hv ha hgrow2
        obtain ⟨g', cap', rfl⟩ := ownsRow_succ ha2
        have R1 : ws [] (l.take (k + 1)) = V := by rw [HW1.out, HADD.out]
        have R2 : w2.ownsRow w.heap.size 56 1 (.slice (some ⟨g', 0, none⟩) (k + 1) cap') (k + 1) (uvs (pl [] (l.take (k + 1)))) := by rw [HP1.out, uvs_snoc]; exact ha2
        clear ha hv hb ha2 hgrow2
        go_roundw
        case rel => exact ⟨k + 1, by go_num, by omega, ⟨_, _, rfl⟩, R2, ⟨_, _, by rw [R1]⟩, by rw [R1]; exact hv2, hb2⟩
        case measure => simp only [intOf]; omega
      · have hne : ((ix t V : Int) == (V.length : Int)) = true := by rw [ix_not hin]; simp
        have HADD := Lib.hid (add_not hin)
        have HIX := Lib.hid (ix_not hin)
        obtain ⟨b2, o2, hbe, _, hcell2⟩ := (HC.out.below hb) k _ (svs_at HTK.out)
        cases hbe
        rw [ix_not hin]
        rw [ix_not hin] at hne hwu
        clear hin hile
        go_wp2_with (first
          | (at_builtin; refine wpList_append_own _ rfl _ _ 39 rfl w.heap.size 9 i0 (.string ByteArray.empty) 1 16 Try.underlying39 hi hz0 hz1 hz2 rfl (by decide) _ _ _ rfl (hv.alloc _) ⟨wr.heap.size, 0, none⟩ 1 1 [.string (ba t)] rfl rfl (cell_one_new _ _ _) (by simp [Value.oneCell']) (by unfold maxLen; omega) (by omega) (by simp; omega) ?_; intro v' w3 hv3 hgr3 _; have ha3 := row_beside (by decide) ha hv hgr3; have hb3 := below_ownI hb hb0 hv hgr3; have hb30 := hb3.size)
          | (at_builtin; refine wpList_append_own _ rfl _ _ 40 rfl w.heap.size 56 j0 (.int .u64 0) 1 8 Try.underlying40 hj hy0 hy1 hy2 rfl (by decide) _ _ _ rfl (ha3.alloc _) ⟨w3.heap.size, 0, none⟩ 1 1 [.int .u64 (V.length : Int)] rfl rfl (cell_one_new _ _ _) (by simp [Value.oneCell']) (by unfold maxLen; omega) (by omega) (by simp; omega) ?_; intro v2 w4 ha4 hgr4 _))
        have hb4 := below_ownI hb3 hb30 ha3 hgr4
        have hv4 := row_beside (by decide) hv3 ha3 hgr4
        obtain ⟨g', cap', rfl⟩ := ownsRow_succ ha4
        obtain ⟨g2, cap2, rfl⟩ := ownsRow_succ hv3
        have R1 : ws [] (l.take (k + 1)) = V ++ [t] := by rw [HW1.out, HADD.out]
        have R2 : w4.ownsRow w.heap.size 56 1 (.slice (some ⟨g', 0, none⟩) (k + 1) cap') (k + 1) (uvs (pl [] (l.take (k + 1)))) := by rw [HP1.out, HIX.out, uvs_snoc]; exact ha4
        have R3 : w4.ownsRow w.heap.size 9 1 (.slice (some ⟨g2, 0, none⟩) (V.length + 1) cap2) (V ++ [t]).length (svs (V ++ [t])) := by rw [svs_snoc, List.length_append]; exact hv4
        clear ha hv hb hgr3 hgr4 hv3 ha3 ha4 hv4 hb3
        go_roundw
        case rel => exact ⟨k + 1, by go_num, by omega, ⟨_, _, rfl⟩, R2, ⟨_, _, by rw [R1, List.length_append]; rfl⟩, by rw [R1]; exact R3, hb4⟩
        case measure => simp only [intOf]; omega
    · obtain rfl : k = l.length := by omega
      rw [List.take_length] at ha hv
      obtain ⟨A4, c4, hA4, hat4, hfr4, hcp4⟩ := own_at hv
      cases hA4
      obtain ⟨A3, c3, hA3, hat3, hfr3, hcp3⟩ := own_at ha
      cases hA3
      rw [List.take_length]
      clear ha hv
      go_wp2_with fail
      go_ret2
      exact ⟨_, _, _, _, rfl, hcp4, hcp3, hfr4, hfr3, hat4, hat3, hb⟩
end Go.Proofs.Ytiehmeheilfocaa
