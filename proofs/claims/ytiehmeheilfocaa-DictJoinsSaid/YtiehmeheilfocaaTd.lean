/-
  Pick, the program's and the document's.
-/
import Derived.Test.YtiehmeheilfocaaTc
namespace Go.Proofs.Ytiehmeheilfocaa
open Go.RowKit Go.IntWalk
open Pk Dc
set_option maxRecDepth 100000
attribute [local go_sem] Oper.semAt_some

/-- a list of texts and one value more, as the answer of a call -/
def SEnd (l : List Tx) (t : Value) (w : World) (e : Ending) (w' : World) : Prop :=
  ∃ A cap, e = .returned (.tuple #[.slice A l.length cap, t]) ∧ l.length ≤ cap ∧ Fresh w.heap.size A ∧ At w' w'.heap.size A (svs l) ∧ Below w.heap.size w w'
theorem sEnd_nil {t : Value} {w w' : World} (hb : Below w.heap.size w w') : SEnd [] t w (.returned (.tuple #[.slice none 0 0, t])) w' :=
  ⟨none, 0, rfl, Nat.le_refl _, fun a ha => (by cases ha), At.nil _ _ _, hb⟩

set_option maxHeartbeats 8000000 in
theorem pick_c (A1 A2 : Option Addr) (c1 c2 : Nat) (words : List Tx) (at_ : List Nat) (hx1 : words.length ≤ 100000) (hx2 : at_.length ≤ 100000) (w : World) (h1 : At w w.heap.size A1 (svs words)) (h2 : At w w.heap.size A2 (uvs at_)) :
    Calls Try.prog 30 #[.slice A1 words.length c1, .slice A2 at_.length c2] w (SEnd (pk words [] at_).1 (.bool (pk words [] at_).2) w) := by
  obtain ⟨i0, hi, hz0, hz1, hz2⟩ := info_parts Try.info9
  have H1 := Lib.hid h1
  have H2 := Lib.hid h2
  clear h1 h2
  obtain ⟨res, hres⟩ : ∃ res, res = pk words [] at_ := ⟨_, rfl⟩
  have HR := Lib.hid hres
  rw [← hres]
  clear hres
  have hbx : i0.bytes * at_.length ≤ 281474976710656 := by rw [hz2]; omega
  have hmx : at_.length ≤ maxLen := by unfold maxLen; omega
  go_enter Try.func30, Try.ntmps30
  go_wp2_with (at_make; refine wpList_make_own _ rfl _ _ 39 rfl w.heap.size 9 i0 (.string ByteArray.empty) 1 Try.underlying39 hi hz0 hz1 .i64 .i64 _ at_.length rfl rfl rfl hbx hmx (Nat.le_refl _) ?_; intro w1 hown1 hgrow1)
  have hb1 : Below w.heap.size w w1 := (Below.refl _ w).grown hgrow1 (Nat.le_refl _) (fun k e => by cases e)
  have hgl := (hown1.lt w.heap.size rfl).2
  clear hgrow1 hbx hmx
  go_loopw [6, 14] (fun s i wr => ∃ (k : Nat) (out : List Tx), i = .int .i64 (k : Int) ∧ s = .slice (some ⟨w.heap.size, 0, none⟩) k at_.length ∧ k ≤ at_.length ∧ out.length = k ∧ pk words out (at_.drop k) = res ∧ wr.ownsRow w.heap.size 9 1 (.slice (some ⟨w.heap.size, 0, none⟩) k at_.length) k (svs out) ∧ Below w.heap.size w wr)
    (fun _ i _ => at_.length - (intOf i).toNat)
  case atStart => exact ⟨0, [], rfl, rfl, Nat.zero_le _, rfl, HR.out.symm, hown1, hb1⟩
  case round =>
    clear hown1 hb1
    obtain ⟨k, out, rfl, rfl, hk, hol, hpk, hown, hb⟩ := hrel
    have hb0 := hb.size
    have HPK := Lib.hid hpk
    have HOL := Lib.hid hol
    clear hpk hol
    by_cases hlt : k < at_.length
    · obtain ⟨p, hpk⟩ := some_at hlt
      obtain ⟨b2, o2, rfl, _, hcp⟩ := (H2.out.below hb) k _ (uvs_at hpk)
      have HD := Lib.hid (drop_at_cons hpk)
      have HP := Lib.hid hpk
      clear hpk
      by_cases hin : p < words.length
      · obtain ⟨t, ht⟩ := some_at hin
        obtain ⟨b1, o1, rfl, _, hct⟩ := (H1.out.below hb) p _ (svs_at ht)
        have hst : pk words (out ++ [t]) (at_.drop (k + 1)) = res := by rw [← pk_cons ht, ← HD.out]; exact HPK.out
        have HST := Lib.hid hst
        have hkc : k + 1 ≤ at_.length := by omega
        have hwl : (0 : Int) ≤ (words.length : Int) := by omega
        clear ht hst
        go_wp2_with (at_builtin; refine wpList_append_fits _ rfl _ _ 39 rfl w.heap.size 9 i0 1 Try.underlying39 hi hz1 w.heap.size k at_.length _ rfl (hown.alloc _) ⟨wr.heap.size, 0, none⟩ 1 1 [.string (ba t)] rfl rfl (cell_one_new _ _ _) (by simp [Value.oneCell']) hkc ?_; intro w2 hown2 hgrow2)
        have hb2 := below_ownI hb hb0 hown hgrow2
        refine ⟨⟨k + 1, out ++ [t], by go_num, rfl, by omega, by rw [List.length_append, HOL.out]; rfl, HST.out, by rw [svs_snoc]; exact hown2, hb2⟩, ?_⟩
        simp only [intOf]; omega
      · have hres2 : res = ([], false) := by
          rw [← HPK.out, HD.out, pk_none (by omega)]
        have HRES := Lib.hid hres2
        have hin2 : (words.length : Int) ≤ (p : Int) := by omega
        clear hres2
        go_wp2_with fail
        go_ret2
        rw [HRES.out]
        exact sEnd_nil hb
    · obtain rfl : k = at_.length := by omega
      have hres2 : res = (out, true) := by rw [← HPK.out, List.drop_length]; rfl
      obtain ⟨A3, c3, hA3, hat3, hfr3, hcp3⟩ := own_at hown
      cases hA3
      have HRES := Lib.hid hres2
      clear hres2 hown
      go_wp2_with fail
      go_ret2
      rw [HRES.out]
      have ho := HOL.out
      exact ⟨_, _, by rw [show ((out, true) : List Tx × Bool).1.length = at_.length from ho]; rfl, by rw [show ((out, true) : List Tx × Bool).1.length = at_.length from ho]; exact Nat.le_refl _, hfr3, hat3, hb⟩

set_option maxHeartbeats 8000000 in
theorem rpick_c (A1 A2 : Option Addr) (c1 c2 : Nat) (words : List Tx) (at_ : List Nat) (hx1 : words.length ≤ 100000) (hx2 : at_.length ≤ 100000) (w : World) (h1 : At w w.heap.size A1 (svs words)) (h2 : At w w.heap.size A2 (uvs at_)) :
    Calls Try.prog 31 #[.slice A1 words.length c1, .slice A2 at_.length c2] w (SEnd (pk words [] at_).1 (.bool (pk words [] at_).2) w) := by
  obtain ⟨i0, hi, hz0, hz1, hz2⟩ := info_parts Try.info9
  have H1 := Lib.hid h1
  have H2 := Lib.hid h2
  clear h1 h2
  obtain ⟨res, hres⟩ : ∃ res, res = pk words [] at_ := ⟨_, rfl⟩
  have HR := Lib.hid hres
  rw [← hres]
  clear hres
  go_enter Try.func31, Try.ntmps31
  go_wp2_with fail
  go_loopw [6, 7] (fun s i wr => ∃ (k : Nat) (out : List Tx), i = .int .i64 (k : Int) ∧ (∃ A' c', s = .slice A' k c') ∧ k ≤ at_.length ∧ out.length = k ∧ pk words out (at_.drop k) = res ∧ wr.ownsRow w.heap.size 9 1 s k (svs out) ∧ Below w.heap.size w wr)
    (fun _ i _ => at_.length - (intOf i).toNat)
  case atStart => exact ⟨0, [], rfl, ⟨none, 0, rfl⟩, Nat.zero_le _, rfl, HR.out.symm, World.ownsRow_nil _ _ _ _, Below.refl _ _⟩
  case round =>
    obtain ⟨k, out, rfl, ⟨A', c', rfl⟩, hk, hol, hpk, hown, hb⟩ := hrel
    have hb0 := hb.size
    have HPK := Lib.hid hpk
    have HOL := Lib.hid hol
    clear hpk hol
    by_cases hlt : k < at_.length
    · obtain ⟨p, hpk⟩ := some_at hlt
      obtain ⟨b2, o2, rfl, _, hcp⟩ := (H2.out.below hb) k _ (uvs_at hpk)
      have HD := Lib.hid (drop_at_cons hpk)
      have HP := Lib.hid hpk
      clear hpk
      by_cases hin : p < words.length
      · obtain ⟨t, ht⟩ := some_at hin
        obtain ⟨b1, o1, rfl, _, hct⟩ := (H1.out.below hb) p _ (svs_at ht)
        have hst : pk words (out ++ [t]) (at_.drop (k + 1)) = res := by rw [← pk_cons ht, ← HD.out]; exact HPK.out
        have HST := Lib.hid hst
        have hkc : k + 1 ≤ 100000 := by omega
        clear ht hst
        go_wp2_with (at_builtin; refine wpList_append_own _ rfl _ _ 39 rfl w.heap.size 9 i0 (.string ByteArray.empty) 1 16 Try.underlying39 hi hz0 hz1 hz2 rfl (by decide) _ _ _ rfl (hown.alloc _) ⟨wr.heap.size, 0, none⟩ 1 1 [.string (ba t)] rfl rfl (cell_one_new _ _ _) (by simp [Value.oneCell']) (by unfold maxLen; omega) (by omega) (by simp; omega) ?_; intro v' w2 hown2 hgrow2 _)
        have hb2 := below_ownI hb hb0 hown hgrow2
        obtain ⟨g', cap', rfl⟩ := ownsRow_succ hown2
        clear hown hgrow2 hb
        go_roundw
        case rel => exact ⟨k + 1, out ++ [t], by go_num, ⟨_, _, rfl⟩, by omega, by rw [List.length_append, HOL.out]; rfl, HST.out, by rw [svs_snoc]; exact hown2, hb2⟩
        case measure => simp only [intOf]; omega
      · have hres2 : res = ([], false) := by
          rw [← HPK.out, HD.out, pk_none (by omega)]
        have HRES := Lib.hid hres2
        have hin2 : (words.length : Int) ≤ (p : Int) := by omega
        clear hres2
        go_wp2_with fail
        go_ret2
        rw [HRES.out]
        exact sEnd_nil hb
    · obtain rfl : k = at_.length := by omega
      have hres2 : res = (out, true) := by rw [← HPK.out, List.drop_length]; rfl
      obtain ⟨A3, c3, hA3, hat3, hfr3, hcp3⟩ := own_at hown
      cases hA3
      have HRES := Lib.hid hres2
      clear hres2 hown
      go_wp2_with fail
      go_ret2
      rw [HRES.out]
      have ho := HOL.out
      exact ⟨_, _, by rw [show ((out, true) : List Tx × Bool).1.length = at_.length from ho]; rfl, by rw [show ((out, true) : List Tx × Bool).1.length = at_.length from ho]; exact hcp3, hfr3, hat3, hb⟩
end Go.Proofs.Ytiehmeheilfocaa
