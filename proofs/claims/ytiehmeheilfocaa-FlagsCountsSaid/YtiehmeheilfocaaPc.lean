/-
  Lengths, the document's.
-/
import Derived.Test.YtiehmeheilfocaaPb
namespace Go.Proofs.Ytiehmeheilfocaa
open Go.RowKit Go.IntWalk
open Pk
set_option maxRecDepth 100000
attribute [local go_sem] Oper.semAt_some

set_option maxHeartbeats 4000000 in
theorem rlengths_c (A : Option Addr) (cap : Nat) (l : List Bool) (hx : l.length ≤ 100000) (w : World) (hc : At w w.heap.size A (bvs l)) :
    Calls Try.prog 18 #[.slice A l.length cap] w fun e w' => ∃ A' cap', e = .returned (.slice A' (lenI l).length cap') ∧ (lenI l).length ≤ cap' ∧ Fresh w.heap.size A' ∧ At w' w'.heap.size A' (ivs (lenI l)) ∧ Below w.heap.size w w' := by
  obtain ⟨i0, hi, hz0, hz1, hz2⟩ := info_parts Try.info3
  have hnot : ∀ (x : Bool) (w : World), (Op.unary .not (.bool x)).run Try.prog w = .ok (.bool (!x)) w := fun _ _ => rfl
  have HC := Lib.hid hc
  clear hc
  go_enter Try.func18, Try.ntmps18
  go_wp2_with fail
  go_loopg [3, 4, 5] (2 * l.length + 1) (fun m v nf i wr => ∃ (k : Nat) (f : Bool) (out : List Nat) (c : Nat), i = .int .i64 (k : Int) ∧ nf = .bool f ∧ k ≤ l.length ∧ 2 * (l.length - k) + c ≤ m ∧ (c = 0 → l.length ≤ k ∨ l[k]? = some f) ∧ c ≤ 1 ∧ out ++ lens f (l.drop k) = lens false l ∧ (∃ A' cap', v = .slice A' out.length cap') ∧ wr.ownsRow w.heap.size 3 1 v out.length (ivs (out.map fun (n : Nat) => (n : Int))) ∧ Below w.heap.size w wr)
  case atStart => exact ⟨0, false, [], 1, rfl, rfl, Nat.zero_le _, by omega, by simp, by omega, rfl, ⟨_, _, rfl⟩, World.ownsRow_nil _ _ _ _, Below.refl _ _⟩
  case round =>
    obtain ⟨k, f, out, c, rfl, rfl, hk, hm, hcf, hc1, hout, ⟨A0, cap0, rfl⟩, hown2, hb2⟩ := hrel
    have hb0 := hb2.size
    have hol : out.length ≤ 200001 := by
      have h1 := congrArg List.length hout
      have h2 := lens_len false l
      rw [List.length_append] at h1
      omega
    have HOUT := Lib.hid hout
    have HCF := Lib.hid hcf
    clear hout hcf
    by_cases hlt : k < l.length
    · go_wp2_with fail
      go_loopg [5, 6] (l.length - k) (fun m i n wr2 => ∃ j : Nat, i = .int .i64 ((k + j : Nat) : Int) ∧ n = .int .i64 (j : Int) ∧ k + j ≤ l.length ∧ l.length - (k + j) ≤ m ∧ l.drop k = List.replicate j f ++ l.drop (k + j) ∧ wr2 = wr)
      case atStart => exact ⟨0, rfl, rfl, hk, Nat.le_refl _, by simp, rfl⟩
      case round =>
        obtain ⟨j, rfl, rfl, hkj, hmj, hdr, rfl⟩ := hrel
        have HDR := Lib.hid hdr
        clear hdr
        by_cases hgo : l[k + j]? = some f
        · have hjl : k + j < l.length := (List.getElem?_eq_some_iff.1 hgo).1
          obtain ⟨b, off, rfl, hbl, hcell⟩ := (HC.out.below hb2) (k + j) _ (bvs_at hgo)
          have ht : (f == f) = true := by simp
          have HT := Lib.hid hgo
          clear hgo
          go_wp2_with fail
          go_roundg (l.length - (k + (j + 1)))
          case measure => omega
          case rel => exact ⟨j + 1, by go_num, by go_num, by omega, Nat.le_refl _, run_more HDR.out HT.out, rfl⟩
        · have HR := Lib.hid (run_end hlt HDR.out hgo)
          have hcj : j = 0 → c = 1 := fun h0 => by
            apply Classical.byContradiction
            intro hc0
            rcases HCF.out (by omega) with h | h
            · omega
            · rw [h0] at hgo; exact hgo h
          have HN := Lib.hid (show l.length ≤ k + j ∨ l[k + j]? = some (!f) from by
            by_cases h : l.length ≤ k + j
            · exact .inl h
            · obtain ⟨x, hx⟩ := some_at (show k + j < l.length by omega)
              refine .inr ?_
              rw [hx] at hgo ⊢
              cases x <;> cases f <;> simp_all)
          have hstep : out ++ lens f (l.drop k) = (out ++ [j]) ++ lens (!f) (l.drop (k + j)) := by rw [HR.out]; simp
          rw [HOUT.out] at hstep
          have HST := Lib.hid hstep
          have HCJ := Lib.hid hcj
          clear hstep hcj
          rcases Nat.lt_or_ge (k + j) l.length with hjl | hjl
          · obtain ⟨x, hxk⟩ := some_at hjl
            obtain ⟨b, off, rfl, hbl, hcell⟩ := (HC.out.below hb2) (k + j) _ (bvs_at hxk)
            have ht : (x == f) = false := by
              rw [hxk] at hgo
              simpa using hgo
            clear hgo hxk
            go_wp2_with (at_builtin; refine wpList_append_own _ rfl _ _ 23 rfl w.heap.size 3 i0 (.int .i64 0) 1 8 Try.underlying23 hi hz0 hz1 hz2 rfl (by decide) _ _ _ rfl (hown2.alloc _) ⟨wr.heap.size, 0, none⟩ 1 1 [.int .i64 (j : Int)] rfl rfl (cell_one_new _ _ _) (by simp [Value.oneCell']) (by unfold maxLen; omega) (by omega) (by simp; omega) ?_; intro v' w3 hown' hgrow _)
            have hb3 := below_ownI hb2 hb0 hown2 hgrow
            obtain ⟨g', cap', rfl⟩ := ownsRow_succ hown'
            go_roundg (2 * (l.length - (k + j)))
            case measure => have := HCJ.out; omega
            case rel =>
              refine ⟨k + j, !f, out ++ [j], 0, by go_num, rfl, hkj, by omega, fun _ => HN.out, by omega, HST.out.symm, ⟨_, _, by rw [List.length_append]; rfl⟩, ?_, hb3⟩
              rw [int_snoc, List.length_append]
              simpa [ivs] using hown'
          · clear hgo
            go_wp2_with (at_builtin; refine wpList_append_own _ rfl _ _ 23 rfl w.heap.size 3 i0 (.int .i64 0) 1 8 Try.underlying23 hi hz0 hz1 hz2 rfl (by decide) _ _ _ rfl (hown2.alloc _) ⟨wr.heap.size, 0, none⟩ 1 1 [.int .i64 (j : Int)] rfl rfl (cell_one_new _ _ _) (by simp [Value.oneCell']) (by unfold maxLen; omega) (by omega) (by simp; omega) ?_; intro v' w3 hown' hgrow _)
            have hb3 := below_ownI hb2 hb0 hown2 hgrow
            obtain ⟨g', cap', rfl⟩ := ownsRow_succ hown'
            go_roundg (2 * (l.length - (k + j)))
            case measure => have := HCJ.out; omega
            case rel =>
              refine ⟨k + j, !f, out ++ [j], 0, by go_num, rfl, hkj, by omega, fun _ => HN.out, by omega, HST.out.symm, ⟨_, _, by rw [List.length_append]; rfl⟩, ?_, hb3⟩
              rw [int_snoc, List.length_append]
              simpa [ivs] using hown'
    · obtain rfl : k = l.length := by omega
      have hfin : out = lens false l := by have := HOUT.out; rw [List.drop_length] at this; simpa [lens] using this
      obtain ⟨A', cap', hA, ha, hfr, hcp⟩ := own_at hown2
      cases hA
      clear hm hown2
      go_wp2_with fail
      go_ret
      have hln : out.length = (lenI l).length := by unfold lenI; rw [List.length_map, hfin]
      have hiv : ivs (out.map fun (n : Nat) => (n : Int)) = ivs (lenI l) := by unfold lenI; rw [hfin]
      rw [hiv] at ha
      exact ⟨_, _, by rw [hln]; rfl, by rw [← hln]; exact hcp, hfr, ha, hb2⟩
end Go.Proofs.Ytiehmeheilfocaa
