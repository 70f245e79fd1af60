/-
 Drop: the program and the document.
-/
import Derived.Test.YtkobmnbjeppnaaaGreatTi
namespace Go.Proofs.YtkobmnbjeppnaaaGreat
open Go.RowKit Go.IntWalk
attribute [local go_sem] Oper.semAt_some
set_option maxRecDepth 100000
set_option maxHeartbeats 4000000 in
theorem drop_c (A : Option Addr) (cap : Nat) (l : List Rw) (c : Int) (hl : l.length ≤ 100000) (hA : A = none → cap = 0) (hcap : l.length ≤ cap) (w : World) (hc : At w w.heap.size A (tvs l)) :
  Calls Tryz.prog 21 #[.slice A l.length cap, .int .i64 c] w (Fresh_ (dropP l c) w) := by
 have hlm : l.length ≤ maxLen := by unfold maxLen; omega
 rcases plc_drop l c with ⟨h1, h2⟩ | ⟨k, r, h1, hk, h2, hkl⟩
 ·rw [h2]
  have H1 := Lib.hid h1
  have HA := Lib.hid hA
  clear h1 h2 hA
  go_enter Tryz.func21, Tryz.ntmps21
  go_wp2_with fail
  refine (first_k (-1) H1.out hlm hc).mono ?_
  rintro e w1 ⟨rfl, hb1⟩
  go_wp2_with fail
  refine (clone_c A cap l hl HA.out _ (hc.keep hb1)).mono ?_
  rintro e w2 ⟨A2, c2, rfl, hown, hb2⟩
  go_wp2_with fail
  go_ret
  exact ⟨A2, c2, rfl, ownsRow_low hown hb1.size, hb1.trans (hb2.mono hb1.size)⟩
 ·rw [h2]
  obtain ⟨b0, o0, rfl, hb0, -⟩ := row_cells hc hk
  have H1 := Lib.hid h1
  have hF : (l.take k ++ l.drop (k + 1)).length ≤ 200000 := by rw [List.length_append, List.length_take, List.length_drop]; omega
  have hki : (0 : Int) ≤ (k : Int) := by omega
  have hkl2 : (k : Int) < (l.length : Int) := by omega
  have hk1 : (0 : Int) ≤ (k : Int) + 1 := by omega
  have hk2 : (k : Int) + 1 ≤ (l.length : Int) := by omega
  have hk3 : (k : Int) ≤ (cap : Int) := by omega
  have hkw : IntKind.i64.wrap ((k : Int) + 1) = (k : Int) + 1 := IntWalk.i64_in _ (by omega)
  have hk4 : (k : Int) ≤ (k : Int) + 1 := by omega
  have htk : (l.take k).length = k := by rw [List.length_take]; omega
  have hdk : (l.drop (k + 1)).length = l.length - (k + 1) := List.length_drop ..
  obtain ⟨N, hN⟩ : ∃ N, l.take k ++ l.drop (k + 1) = N := ⟨_, rfl⟩
  rw [hN] at hF ⊢
  have HNN := Lib.hid hN
  have HF := Lib.hid hF
  clear h1 h2 hk hA hF hN
  by_cases hcj : cap = k + 1
  ·subst hcj
   have hd0 : l.drop (k + 1) = [] := List.drop_of_length_le hcap
   go_enter Tryz.func21, Tryz.ntmps21
   go_wp2_with fail
   refine (first_k k H1.out hlm hc).mono ?_
   rintro e w1 ⟨rfl, hb1⟩
   have hc1 := hc.keep hb1
   go_wp2_with fail
   have HC1 := Lib.hid hc1
   clear hc hc1
   have hX : Below w1.heap.size w1 (w1.alloc (.cells [.slice (some ⟨b0, o0, none⟩) k (k + 1), .slice (some ⟨b0, o0, none⟩) 0 0].toArray 22)).drew := ((Below.refl _ _).alloc (Nat.le_refl _) _).drew
   have hcX := HC1.out.keep hX
   have hcs : ∀ x ∈ ([(some ⟨b0, o0, none⟩, k + 1, l.take k), (some ⟨b0, o0, none⟩, 0, [])] : List (Option Addr × Nat × List Rw)), At (w1.alloc (.cells [.slice (some ⟨b0, o0, none⟩) k (k + 1), .slice (some ⟨b0, o0, none⟩) 0 0].toArray 22)).drew (w1.alloc (.cells [.slice (some ⟨b0, o0, none⟩) k (k + 1), .slice (some ⟨b0, o0, none⟩) 0 0].toArray 22)).drew.heap.size x.1 (tvs x.2.2) ∧ (x.1 = none → x.2.1 = 0) ∧ x.2.2.length ≤ x.2.1 := by
    intro x hx
    simp only [List.mem_cons, List.not_mem_nil, or_false] at hx
    rcases hx with rfl | rfl
    ·exact ⟨at_takeR hcX k, (fun h => by cases h), by simp only [htk]; omega⟩
    ·exact ⟨At.nil _ _ _, fun _ => rfl, Nat.le_refl _⟩
   have hv : ([.slice (some ⟨b0, o0, none⟩) k (k + 1), .slice (some ⟨b0, o0, none⟩) 0 0] : List Value) = lvs [(some ⟨b0, o0, none⟩, k + 1, l.take k), (some ⟨b0, o0, none⟩, 0, [])] := by simp only [lvs, List.map_cons, List.map_nil, htk, List.length_nil]
   have HV := Lib.hid hv
   have HCS := Lib.hid hcs
   clear hX hcX hcs hv
   go_region_with (go_at_call 47; refine (concat_k (vals := [.slice (some ⟨b0, o0, none⟩) k (k + 1), .slice (some ⟨b0, o0, none⟩) 0 0]) [(some ⟨b0, o0, none⟩, k + 1, l.take k), (some ⟨b0, o0, none⟩, 0, [])] rfl HV.out (by rw [← HNN.out]; simp [flatR, hd0]) (by simp) HF.out (at_newR w1 22 [.slice (some ⟨b0, o0, none⟩) k (k + 1), .slice (some ⟨b0, o0, none⟩) 0 0]) HCS.out).mono ?_; rintro e w2 ⟨A2, c2, rfl, hown, hb2⟩)
   all_goals
    go_wp2_with fail
    go_ret
    have hb3 := (hb1.alloc hb1.size (.cells [.slice (some ⟨b0, o0, none⟩) k (k + 1), .slice (some ⟨b0, o0, none⟩) 0 0].toArray 22)).drew.trans (hb2.mono (Nat.le_trans hb1.size (by show w1.heap.size ≤ (w1.alloc _).heap.size; simp)))
    exact ⟨A2, c2, rfl, ownsRow_low hown (Nat.le_trans hb1.size (by show w1.heap.size ≤ (w1.alloc _).heap.size; simp)), hb3⟩
  ·have hc0 : ¬ cap = k + 1 := hcj
   clear hcj
   go_enter Tryz.func21, Tryz.ntmps21
   go_wp2_with fail
   refine (first_k k H1.out hlm hc).mono ?_
   rintro e w1 ⟨rfl, hb1⟩
   have hc1 := hc.keep hb1
   go_wp2_with fail
   have HC1 := Lib.hid hc1
   clear hc hc1
   have hX : Below w1.heap.size w1 (w1.alloc (.cells [.slice (some ⟨b0, o0, none⟩) k cap, .slice (some ⟨b0, o0 + (k + 1) * 4, none⟩) (l.length - (k + 1)) (cap - (k + 1))].toArray 22)).drew := ((Below.refl _ _).alloc (Nat.le_refl _) _).drew
   have hcX := HC1.out.keep hX
   have hcs : ∀ x ∈ ([(some ⟨b0, o0, none⟩, cap, l.take k), (some ⟨b0, o0 + (k + 1) * 4, none⟩, cap - (k + 1), l.drop (k + 1))] : List (Option Addr × Nat × List Rw)), At (w1.alloc (.cells [.slice (some ⟨b0, o0, none⟩) k cap, .slice (some ⟨b0, o0 + (k + 1) * 4, none⟩) (l.length - (k + 1)) (cap - (k + 1))].toArray 22)).drew (w1.alloc (.cells [.slice (some ⟨b0, o0, none⟩) k cap, .slice (some ⟨b0, o0 + (k + 1) * 4, none⟩) (l.length - (k + 1)) (cap - (k + 1))].toArray 22)).drew.heap.size x.1 (tvs x.2.2) ∧ (x.1 = none → x.2.1 = 0) ∧ x.2.2.length ≤ x.2.1 := by
    intro x hx
    simp only [List.mem_cons, List.not_mem_nil, or_false] at hx
    rcases hx with rfl | rfl
    ·exact ⟨at_takeR hcX k, (fun h => by cases h), by simp only [htk]; omega⟩
    ·exact ⟨at_dropR hcX (k + 1), (fun h => by cases h), by simp only [hdk]; omega⟩
   have hv : ([.slice (some ⟨b0, o0, none⟩) k cap, .slice (some ⟨b0, o0 + (k + 1) * 4, none⟩) (l.length - (k + 1)) (cap - (k + 1))] : List Value) = lvs [(some ⟨b0, o0, none⟩, cap, l.take k), (some ⟨b0, o0 + (k + 1) * 4, none⟩, cap - (k + 1), l.drop (k + 1))] := by simp only [lvs, List.map_cons, List.map_nil, htk, hdk]
   have HV := Lib.hid hv
   have HCS := Lib.hid hcs
   clear hX hcX hcs hv
   go_region_with (go_at_call 47; refine (concat_k (vals := [.slice (some ⟨b0, o0, none⟩) k cap, .slice (some ⟨b0, o0 + (k + 1) * 4, none⟩) (l.length - (k + 1)) (cap - (k + 1))]) [(some ⟨b0, o0, none⟩, cap, l.take k), (some ⟨b0, o0 + (k + 1) * 4, none⟩, cap - (k + 1), l.drop (k + 1))] rfl HV.out (by rw [← HNN.out]; simp [flatR]) (by simp) HF.out (at_newR w1 22 [.slice (some ⟨b0, o0, none⟩) k cap, .slice (some ⟨b0, o0 + (k + 1) * 4, none⟩) (l.length - (k + 1)) (cap - (k + 1))]) HCS.out).mono ?_; rintro e w2 ⟨A2, c2, rfl, hown, hb2⟩)
   all_goals
    go_wp2_with fail
    go_ret
    have hb3 := (hb1.alloc hb1.size (.cells [.slice (some ⟨b0, o0, none⟩) k cap, .slice (some ⟨b0, o0 + (k + 1) * 4, none⟩) (l.length - (k + 1)) (cap - (k + 1))].toArray 22)).drew.trans (hb2.mono (Nat.le_trans hb1.size (by show w1.heap.size ≤ (w1.alloc _).heap.size; simp)))
    exact ⟨A2, c2, rfl, ownsRow_low hown (Nat.le_trans hb1.size (by show w1.heap.size ≤ (w1.alloc _).heap.size; simp)), hb3⟩
set_option maxHeartbeats 4000000 in
theorem rdrop_c (A : Option Addr) (cap : Nat) (l : List Rw) (c : Int) (hl : l.length ≤ 100000) (hA : A = none → cap = 0) (hcap : l.length ≤ cap) (w : World) (hc : At w w.heap.size A (tvs l)) :
  Calls Tryz.prog 22 #[.slice A l.length cap, .int .i64 c] w (Told_ (dropP l c) w) := by
 have hlm : l.length ≤ maxLen := by unfold maxLen; omega
 rcases plc_drop l c with ⟨h1, h2⟩ | ⟨k, r, h1, hk, h2, hkl⟩
 ·rw [h2]
  have H1 := Lib.hid h1
  have HA := Lib.hid hA
  have HC := Lib.hid hcap
  clear h1 h2 hA hcap
  go_enter Tryz.func22, Tryz.ntmps22
  go_wp2_with fail
  refine (rplace_k (-1) H1.out hlm hc).mono ?_
  rintro e w1 ⟨rfl, hb1⟩
  go_wp2_with fail
  go_ret
  exact ⟨A, cap, rfl, (hc.keep hb1).mono (Nat.le_refl _), HA.out, HC.out, hb1⟩
 ·rw [h2]
  obtain ⟨b0, o0, rfl, hb0, -⟩ := row_cells hc hk
  have H1 := Lib.hid h1
  have hkn : ¬ ((k : Int) < 0) := by omega
  have hki : (0 : Int) ≤ (k : Int) := by omega
  have hkl2 : (k : Int) < (l.length : Int) := by omega
  have hk1 : (0 : Int) ≤ (k : Int) + 1 := by omega
  have hk2 : (k : Int) + 1 ≤ (l.length : Int) := by omega
  have hk3 : (k : Int) ≤ (cap : Int) := by omega
  have hkw : IntKind.i64.wrap ((k : Int) + 1) = (k : Int) + 1 := IntWalk.i64_in _ (by omega)
  have hk4 : (k : Int) ≤ (k : Int) + 1 := by omega
  have htk : (l.take k).length = k := by rw [List.length_take]; omega
  have hdk : (l.drop (k + 1)).length = l.length - (k + 1) := List.length_drop ..
  have HTK := Lib.hid htk
  have HDK := Lib.hid hdk
  have HCAP := Lib.hid hcap
  clear h1 h2 hk hA htk hdk
  by_cases hcj : cap = k + 1
  ·subst hcj
   have hd0 : l.drop (k + 1) = [] := List.drop_of_length_le HCAP.out
   have HD := Lib.hid hd0
   clear hd0 hcap
   go_enter Tryz.func22, Tryz.ntmps22
   go_wp2_with fail
   refine (rplace_k (k : Int) H1.out hlm hc).mono ?_
   rintro e w1 ⟨rfl, hb1⟩
   have hc1 := hc.keep hb1
   have HC1 := Lib.hid hc1
   clear hc hc1
   go_wp2_with (at_builtin; refine append_optR _ rfl _ _ rfl w1.heap.size _ 0 [] rfl (made0 _ _ (Nat.le_refl _)) (some ⟨b0, o0, none⟩) (k + 1) (l.take k) (by rw [HTK.out]; rfl) (fun h => by cases h) (by rw [HTK.out]; omega) w1.heap.size ((at_takeR HC1.out k).below ((Below.refl _ _).alloc (Nat.le_refl _) _)) (by rw [HTK.out]; omega) (by simp) ?_)
   intro v2 w2 hown hgrow
   have hb2 := below_own ((Below.refl _ _).alloc (Nat.le_refl _) _) (by simp) (made0 w1.heap.size w1 (Nat.le_refl _)) hgrow
   rw [Nat.min_eq_left (by omega)] at hown
   obtain ⟨A2, c2, rfl, -, -, -⟩ := own_at hown
   have hb3 := hb1.trans (hb2.mono hb1.size)
   have HOWN := Lib.hid hown
   have HC2 := Lib.hid (HC1.out.keep hb2)
   clear hown hgrow
   go_wp2_with (at_builtin; refine append_optR _ rfl _ _ rfl w1.heap.size _ _ _ rfl HOWN.out (some ⟨b0, o0, none⟩) 0 (l.drop (k + 1)) (by rw [HDK.out]; rfl) (fun h => by cases h) (by rw [HDK.out]; have := HCAP.out; omega) w1.heap.size (by rw [HD.out]; exact At.nil _ _ _) (by rw [HDK.out]; omega) hb2.size ?_)
   intro v3 w3 hown3 hgrow3
   have hb4 := below_own hb3 hb3.size (ownsRow_low HOWN.out hb1.size) hgrow3
   have HO3 := Lib.hid hown3
   obtain ⟨A3, c3, rfl, -, -, -⟩ := own_at hown3
   clear hown3 hgrow3
   go_wp2_with fail
   go_ret
   refine own_toldR (B := w1.heap.size) ?_ hb4
   have h := HO3.out
   simpa [HTK.out, HDK.out] using h
  ·have hc0 : ¬ cap = k + 1 := hcj
   clear hcj hcap
   go_enter Tryz.func22, Tryz.ntmps22
   go_wp2_with fail
   refine (rplace_k (k : Int) H1.out hlm hc).mono ?_
   rintro e w1 ⟨rfl, hb1⟩
   have hc1 := hc.keep hb1
   have HC1 := Lib.hid hc1
   clear hc hc1
   go_wp2_with (at_builtin; refine append_optR _ rfl _ _ rfl w1.heap.size _ 0 [] rfl (made0 _ _ (Nat.le_refl _)) (some ⟨b0, o0, none⟩) cap (l.take k) (by rw [HTK.out]; rfl) (fun h => by cases h) (by rw [HTK.out]; have := HCAP.out; omega) w1.heap.size ((at_takeR HC1.out k).below ((Below.refl _ _).alloc (Nat.le_refl _) _)) (by rw [HTK.out]; omega) (by simp) ?_)
   intro v2 w2 hown hgrow
   have hb2 := below_own ((Below.refl _ _).alloc (Nat.le_refl _) _) (by simp) (made0 w1.heap.size w1 (Nat.le_refl _)) hgrow
   rw [Nat.min_eq_left (by omega)] at hown
   obtain ⟨A2, c2, rfl, -, -, -⟩ := own_at hown
   have hb3 := hb1.trans (hb2.mono hb1.size)
   have HOWN := Lib.hid hown
   have HC2 := Lib.hid (HC1.out.keep hb2)
   clear hown hgrow
   go_wp2_with (at_builtin; refine append_optR _ rfl _ _ rfl w1.heap.size _ _ _ rfl HOWN.out (some ⟨b0, o0 + (k + 1) * 4, none⟩) (cap - (k + 1)) (l.drop (k + 1)) (by rw [HDK.out]; rfl) (fun h => by cases h) (by rw [HDK.out]; have := HCAP.out; omega) w2.heap.size (at_dropR HC2.out (k + 1)) (by rw [HDK.out]; omega) hb2.size ?_)
   intro v3 w3 hown3 hgrow3
   have hb4 := below_own hb3 hb3.size (ownsRow_low HOWN.out hb1.size) hgrow3
   have HO3 := Lib.hid hown3
   obtain ⟨A3, c3, rfl, -, -, -⟩ := own_at hown3
   clear hown3 hgrow3
   go_wp2_with fail
   go_ret
   refine own_toldR (B := w1.heap.size) ?_ hb4
   have h := HO3.out
   simpa [HTK.out, HDK.out] using h
end Go.Proofs.YtkobmnbjeppnaaaGreat
