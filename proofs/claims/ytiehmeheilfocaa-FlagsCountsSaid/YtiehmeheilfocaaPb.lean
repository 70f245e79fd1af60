/-
  Lengths, the program's and the document's.
-/
import Derived.Test.YtiehmeheilfocaaPa
import Derived.Sort.LoopGhostIn
namespace Go.Proofs.Ytiehmeheilfocaa
open Go.RowKit Go.IntWalk
open Pk
set_option maxRecDepth 100000
attribute [local go_sem] Oper.semAt_some

/-- lengths as ints -/
def lenI (l : List Bool) : List Int := (lens false l).map fun (n : Nat) => (n : Int)
theorem lenI_len (l : List Bool) : (lenI l).length ≤ l.length + 1 := by unfold lenI; rw [List.length_map]; exact lens_len _ _
theorem int_snoc (out : List Nat) (j : Nat) : ((out ++ [j]).map fun (n : Nat) => (n : Int)) = (out.map fun (n : Nat) => (n : Int)) ++ [(j : Int)] := by simp
/-- the flags so far, of one kind -/
theorem run_more {l : List Bool} {k j : Nat} {f : Bool} (h : l.drop k = List.replicate j f ++ l.drop (k + j)) (hx : l[k + j]? = some f) : l.drop k = List.replicate (j + 1) f ++ l.drop (k + (j + 1)) := by
  have : l.drop (k + j) = f :: l.drop (k + (j + 1)) := drop_at_cons hx
  rw [h, this, List.replicate_succ']; simp
theorem run_end {l : List Bool} {k j : Nat} {f : Bool} (hk : k < l.length) (h : l.drop k = List.replicate j f ++ l.drop (k + j)) (hx : l[k + j]? ≠ some f) : lens f (l.drop k) = j :: lens (!f) (l.drop (k + j)) := by
  rw [h, lens_run]
  · rw [List.head?_drop]; exact hx
  · by_cases hj : 1 ≤ j
    · exact .inl hj
    · refine .inr fun e => ?_
      have h0 : j = 0 := by omega
      subst h0
      have := congrArg List.length e
      simp at this
      omega
theorem run_len {l : List Bool} {k j : Nat} {f : Bool} (hk : k ≤ l.length) (h : l.drop k = List.replicate j f ++ l.drop (k + j)) : k + j ≤ l.length ∨ j = 0 := by
  have := congrArg List.length h
  simp at this
  omega

set_option maxHeartbeats 4000000 in
theorem lengths_c (A : Option Addr) (cap : Nat) (l : List Bool) (hx : l.length ≤ 100000) (w : World) (hc : At w w.heap.size A (bvs l)) :
    Calls Try.prog 17 #[.slice A l.length cap] w fun e w' => ∃ A' cap', e = .returned (.slice A' (lenI l).length cap') ∧ (lenI l).length ≤ cap' ∧ Fresh w.heap.size A' ∧ At w' w'.heap.size A' (ivs (lenI l)) ∧ Below w.heap.size w w' := by
  obtain ⟨i0, hi, hz0, hz1, hz2⟩ := info_parts Try.info3
  have HC := Lib.hid hc
  clear hc
  go_enter Try.func17, Try.ntmps17
  go_wp2_with fail
  refine (turns_c _).mono ?_
  rintro e w1 ⟨rfl, rfl⟩
  obtain ⟨q, hq⟩ : ∃ q, q = w.heap.size := ⟨_, rfl⟩
  have his : Is (w.alloc (.cells #[.bool true] 4)) q 4 [.bool (!false)] := by rw [hq]; exact is_new w _ _
  have hb1 : Below w.heap.size w (w.alloc (.cells #[.bool true] 4)) := (Below.refl _ _).alloc (Nat.le_refl _) _
  rw [← hq]
  have HQ := Lib.hid hq
  have hqs : w.heap.size = q := hq.symm
  have hsz : (w.alloc (.cells #[.bool true] 4)).heap.size = q + 1 := by rw [World.size_alloc, hq]
  obtain ⟨W, hW⟩ : ∃ W, W = w.alloc (.cells #[.bool true] 4) := ⟨_, rfl⟩
  rw [← hW] at his hb1 hsz ⊢
  clear hq hW
  go_wp2_with fail
  go_loopg [3, 5] (2 * l.length + 1) (fun m v i wr => ∃ (k : Nat) (f : Bool) (out : List Nat) (c : Nat), i = .int .i64 (k : Int) ∧ k ≤ l.length ∧ 2 * (l.length - k) + c ≤ m ∧ (c = 0 → l.length ≤ k ∨ l[k]? = some f) ∧ c ≤ 1 ∧ out ++ lens f (l.drop k) = lens false l ∧ (∃ A' cap', v = .slice A' out.length cap') ∧ wr.ownsRow (q + 1) 3 1 v out.length (ivs (out.map fun (n : Nat) => (n : Int))) ∧ Is wr q 4 [.bool (!f)] ∧ Below q w wr ∧ q + 1 ≤ wr.heap.size)
  case atStart => exact ⟨0, false, [], 1, rfl, Nat.zero_le _, by omega, by simp, by omega, rfl, ⟨_, _, rfl⟩, World.ownsRow_nil _ _ _ _, his, by rw [← hqs]; exact hb1, by omega⟩
  case round =>
    clear his hb1 hsz
    obtain ⟨k, f, out, c, rfl, hk, hm, hcf, hc1, hout, ⟨A0, cap0, rfl⟩, hown, his, hb, hwq⟩ := hrel
    have hol : out.length ≤ 200001 := by
      have h1 := congrArg List.length hout
      have h2 := lens_len false l
      rw [List.length_append] at h1
      omega
    have HOUT := Lib.hid hout
    have HCF := Lib.hid hcf
    clear hout hcf
    by_cases hlt : k < l.length
    · go_wp2_with fail
      refine (flip_c q (!f) _ his).mono ?_
      rintro e w2 ⟨rfl, his2, hg2⟩
      rw [Bool.not_not] at his2 ⊢
      have hown2 := own_only hown hg2 (Nat.lt_succ_self q)
      have hb2 := below_only hb hg2 (by omega) (Nat.le_refl _)
      have hwq2 : q + 1 ≤ w2.heap.size := Nat.le_trans hwq hg2.size
      clear his hown hb hg2 hwq
      go_wp2_with fail
      go_loopg [6] (l.length - k) (fun m i wr2 => ∃ j : Nat, i = .int .i64 ((k + j : Nat) : Int) ∧ k + j ≤ l.length ∧ l.length - (k + j) ≤ m ∧ l.drop k = List.replicate j f ++ l.drop (k + j) ∧ wr2 = w2)
      case atStart => exact ⟨0, rfl, hk, Nat.le_refl _, by simp, rfl⟩
      case round =>
        obtain ⟨j, rfl, hkj, hmj, hdr, rfl⟩ := hrel
        have HDR := Lib.hid hdr
        clear hdr
        by_cases hgo : l[k + j]? = some f
        · have hjl : k + j < l.length := (List.getElem?_eq_some_iff.1 hgo).1
          obtain ⟨b, off, rfl, hbl, hcell⟩ := (HC.out.below (by rw [hqs]; exact hb2)) (k + j) _ (bvs_at hgo)
          have ht : (f == f) = true := by simp
          have HT := Lib.hid hgo
          clear hgo
          go_wp2_with fail
          go_roundg (l.length - (k + (j + 1)))
          case measure => omega
          case rel => exact ⟨j + 1, by go_num, by omega, Nat.le_refl _, run_more HDR.out HT.out, rfl⟩
        · have HR := Lib.hid (run_end hlt HDR.out hgo)
          have hcj : j = 0 → c = 1 := fun h0 => by
            apply Classical.byContradiction
            intro hc0
            rcases HCF.out (by omega) with h | h
            · omega
            · rw [h0] at hgo; exact hgo h
          have HN := Lib.hid (show l.length ≤ k + j ∨ l[k + j]? = some (!f) from by
            by_cases h : l.length ≤ k + j
            · exact .inl h
            · obtain ⟨x, hx⟩ := some_at (show k + j < l.length by omega)
              refine .inr ?_
              rw [hx] at hgo ⊢
              cases x <;> cases f <;> simp_all)
          have hee : (k : Int) + (j : Int) - (k : Int) = (j : Int) := by omega
          have hstep : out ++ lens f (l.drop k) = (out ++ [j]) ++ lens (!f) (l.drop (k + j)) := by rw [HR.out]; simp
          rw [HOUT.out] at hstep
          have HST := Lib.hid hstep
          have HEE := Lib.hid hee
          have HCJ := Lib.hid hcj
          clear hee hstep hcj
          have hmid : (out.map fun (n : Nat) => (n : Int)).length = out.length := List.length_map _
          rcases Nat.lt_or_ge (k + j) l.length with hjl | hjl
          · obtain ⟨x, hxk⟩ := some_at hjl
            obtain ⟨b, off, rfl, hbl, hcell⟩ := (HC.out.below (by rw [hqs]; exact hb2)) (k + j) _ (bvs_at hxk)
            have ht : (x == f) = false := by
              rw [hxk] at hgo
              simpa using hgo
            clear hgo hxk
            go_wp2_with (at_builtin; refine wpList_append_own _ rfl _ _ 23 rfl (q + 1) 3 i0 (.int .i64 0) 1 8 Try.underlying23 hi hz0 hz1 hz2 rfl (by decide) _ _ _ rfl (hown2.alloc _) ⟨wr.heap.size, 0, none⟩ 1 1 [.int .i64 ((k : Int) + (j : Int) - (k : Int))] rfl rfl (cell_one_new _ _ _) (by simp [Value.oneCell']) (by unfold maxLen; omega) (by omega) (by simp; omega) ?_; intro v' w3 hown' hgrow _)
            have hb3 := below_ownI hb2 (by omega) (ownsRow_lower hown2 (Nat.le_succ q)) hgrow
            have his3 := is_grown (is_alloc his2 _) hgrow (fun e => by have := (hown2.lt q e.symm).1; omega)
            have hs3 := hgrow.size
            obtain ⟨g', cap', rfl⟩ := ownsRow_succ hown'
            rw [HEE.out] at hown'
            go_roundg (2 * (l.length - (k + j)))
            case measure => have := HCJ.out; omega
            case rel =>
              refine ⟨k + j, !f, out ++ [j], 0, by go_num, hkj, by omega, fun _ => HN.out, by omega, HST.out.symm, ⟨_, _, by rw [List.length_append]; rfl⟩, ?_, by rw [Bool.not_not]; exact his3, hb3, by simp at hs3; omega⟩
              rw [int_snoc, List.length_append]
              simpa [ivs] using hown'
          · clear hgo
            go_wp2_with (at_builtin; refine wpList_append_own _ rfl _ _ 23 rfl (q + 1) 3 i0 (.int .i64 0) 1 8 Try.underlying23 hi hz0 hz1 hz2 rfl (by decide) _ _ _ rfl (hown2.alloc _) ⟨wr.heap.size, 0, none⟩ 1 1 [.int .i64 ((k : Int) + (j : Int) - (k : Int))] rfl rfl (cell_one_new _ _ _) (by simp [Value.oneCell']) (by unfold maxLen; omega) (by omega) (by simp; omega) ?_; intro v' w3 hown' hgrow _)
            have hb3 := below_ownI hb2 (by omega) (ownsRow_lower hown2 (Nat.le_succ q)) hgrow
            have his3 := is_grown (is_alloc his2 _) hgrow (fun e => by have := (hown2.lt q e.symm).1; omega)
            have hs3 := hgrow.size
            obtain ⟨g', cap', rfl⟩ := ownsRow_succ hown'
            rw [HEE.out] at hown'
            go_roundg (2 * (l.length - (k + j)))
            case measure => have := HCJ.out; omega
            case rel =>
              refine ⟨k + j, !f, out ++ [j], 0, by go_num, hkj, by omega, fun _ => HN.out, by omega, HST.out.symm, ⟨_, _, by rw [List.length_append]; rfl⟩, ?_, by rw [Bool.not_not]; exact his3, hb3, by simp at hs3; omega⟩
              rw [int_snoc, List.length_append]
              simpa [ivs] using hown'
    · obtain rfl : k = l.length := by omega
      have hfin : out = lens false l := by have := HOUT.out; rw [List.drop_length] at this; simpa [lens] using this
      obtain ⟨A', cap', hA, ha, hfr, hcp⟩ := own_at hown
      cases hA
      clear hm hown his
      go_wp2_with fail
      go_ret
      have hln : out.length = (lenI l).length := by unfold lenI; rw [List.length_map, hfin]
      have hiv : ivs (out.map fun (n : Nat) => (n : Int)) = ivs (lenI l) := by unfold lenI; rw [hfin]
      rw [hiv] at ha
      exact ⟨_, _, by rw [hln]; rfl, by rw [← hln]; exact hcp, fun a h => by have := hfr a h; omega, ha, by rw [hqs]; exact hb⟩
end Go.Proofs.Ytiehmeheilfocaa
