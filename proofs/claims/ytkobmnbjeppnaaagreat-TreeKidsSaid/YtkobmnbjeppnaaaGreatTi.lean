/-
 A row that is set: the document's.
-/
import Derived.Test.YtkobmnbjeppnaaaGreatTh
namespace Go.Proofs.YtkobmnbjeppnaaaGreat
open Go.RowKit Go.IntWalk
set_option maxRecDepth 100000
attribute [local go_sem] Oper.semAt_some
theorem own_setc {w : World} {B g size n cap i : Nat} {e : TypeId} {xs : List Value} (h : w.ownsRow B e size (.slice (some ⟨g, 0, none⟩) n cap) n xs) (u : Value) :
  (w.setCell ⟨g, i, none⟩ u).ownsRow B e size (.slice (some ⟨g, 0, none⟩) n cap) n (xs.set i u) := by
 refine ⟨by rw [List.length_set]; exact h.1, ?_⟩
 rcases h.2 with ⟨h1, _⟩ | ⟨g', cap', cur, hv, hb, hg, h1, h2, h3, h4⟩
 ·cases h1
 ·cases hv
  refine .inr ⟨g, cap, cur.setIfInBounds i u, rfl, hb, ?_, h1, h2, by simpa using h3, ?_⟩
  ·have := heap_setCell_same w g i cur e u hg
   simpa using this
  ·rw [Array.toList_setIfInBounds, ← h4, List.take_set]
theorem tvs_set (r : Rw) : ∀ (l : List Rw) (k : Nat), k < l.length → ((((tvs l).set (k * 4) (.int .i64 (ch r))).set (k * 4 + 1) (.int .i64 (pa r))).set (k * 4 + 2) (.string (ba (nm r)))).set (k * 4 + 3) (.float .f64 (rk r)) = tvs (l.set k r)
 | [], k, h => by simp at h
 | x :: l, 0, _ => by
  have h : tvs (x :: l) = rcs x ++ tvs l := rfl
  have h2 : tvs ((x :: l).set 0 r) = rcs r ++ tvs l := rfl
  rw [h, h2]
  rfl
 | x :: l, k + 1, h => by
  have h1 : tvs (x :: l) = .int .i64 (ch x) :: .int .i64 (pa x) :: .string (ba (nm x)) :: .float .f64 (rk x) :: tvs l := rfl
  have h2 : tvs ((x :: l).set (k + 1) r) = .int .i64 (ch x) :: .int .i64 (pa x) :: .string (ba (nm x)) :: .float .f64 (rk x) :: tvs (l.set k r) := rfl
  rw [h1, h2, ← tvs_set r l k (by simpa using h)]
  rw [show (k + 1) * 4 = k * 4 + 1 + 1 + 1 + 1 by omega]
  rfl
theorem own_set4 {w : World} {B g cap k : Nat} {l : List Rw} (r : Rw) (h : w.ownsRow B 28 4 (.slice (some ⟨g, 0, none⟩) l.length cap) l.length (tvs l)) (hk : k < l.length) :
  ((((w.setCell ⟨g, k * 4, none⟩ (.int .i64 (ch r))).setCell ⟨g, k * 4 + 1, none⟩ (.int .i64 (pa r))).setCell ⟨g, k * 4 + 2, none⟩ (.string (ba (nm r)))).setCell ⟨g, k * 4 + 3, none⟩ (.float .f64 (rk r))).ownsRow B 28 4 (.slice (some ⟨g, 0, none⟩) l.length cap) l.length (tvs (l.set k r)) := by
 have h1 := own_setc h (.int .i64 (ch r)) (i := k * 4)
 have h2 := own_setc h1 (.int .i64 (pa r)) (i := k * 4 + 1)
 have h3 := own_setc h2 (.string (ba (nm r))) (i := k * 4 + 2)
 have h4 := own_setc h3 (.float .f64 (rk r)) (i := k * 4 + 3)
 rw [tvs_set r l k hk] at h4
 exact h4
/-- a row of the call's own that has a first one -/
theorem own_some {w : World} {B size n : Nat} {e : TypeId} {v : Value} {xs : List Value} (h : w.ownsRow B e size v n xs) (hn : 0 < n) :
  ∃ g cap, v = .slice (some ⟨g, 0, none⟩) n cap ∧ B ≤ g ∧ n ≤ cap ∧ cap ≤ maxLen ∧ (∀ i, w.frozen? ⟨g, i, none⟩ = false) ∧ ∀ i u, xs[i]? = some u → w.cell? ⟨g, i, none⟩ = some u := by
 rcases h.2 with ⟨_, h1⟩ | ⟨g, cap, cur, hv, hb, hg, h1, h2, h3, h4⟩
 ·omega
 ·subst hv
  refine ⟨g, cap, rfl, hb, h1, h2, fun i => by simp [World.frozen?, hg], fun i u hu => ?_⟩
  have := h.cells (g := g) rfl i u hu
  rw [add_head] at this
  exact this
theorem setP_at (l : List Rw) (r : Rw) (k : Nat) (hk : k < l.length) : l.take k ++ r :: l.drop (k + 1) = l.set k r := by
 rw [List.set_eq_take_append_cons_drop, if_pos hk]
/-- where the loop stops the new row stands -/
theorem setP_stop {l : List Rw} {r : Rw} {j : Nat} (hp : plc l (ch r) = -1) (hj : j ≤ l.length) (hlo : ∀ x ∈ l.take j, ch x < ch r) (hs : j = l.length ∨ ∃ x, l[j]? = some x ∧ ¬ ch x < ch r) : setP l r = l.take j ++ r :: l.drop j := by
 rcases set_cases l r with ⟨k, x, h1, _⟩ | ⟨k, x, _, h1, hk, h2, hkl⟩ | ⟨_, h1, h2⟩
 ·rw [hp] at h1; omega
 ·have hno : ∀ x ∈ l, ch x ≠ ch r := by
   unfold plc at hp
   intro x hx he
   unfold idx at hp
   cases hf : l.findIdx? (fun x => ch x == ch r) with
   | none => exact absurd he (by simpa using (List.findIdx?_eq_none_iff.1 hf) x hx)
   | some k => rw [hf] at hp; exact absurd hp (by show (k : Int) ≠ -1; omega)
  unfold gtc idx at h1
  cases hf : l.findIdx? (fun x => decide (ch r < ch x)) with
  | none => rw [hf] at h1; exact absurd h1 (by show (-1 : Int) ≠ _; omega)
  | some m =>
   rw [hf] at h1
   obtain rfl : m = k := by have : (m : Int) = k := h1; omega
   obtain ⟨hm, hm1, hm2⟩ := List.findIdx?_eq_some_iff_getElem.1 hf
   have hjm : j = m := by
    rcases Nat.lt_trichotomy j m with hlt | heq | hgt
    ·exfalso
     rcases hs with hs | ⟨y, hy, hyn⟩
     ·omega
     ·have hjl : j < l.length := by omega
      have hy2 : y = l[j] := by rw [List.getElem?_eq_getElem hjl] at hy; exact (Option.some.inj hy).symm
      have h3 := hm2 j hlt
      rw [← hy2] at h3
      have h4 := hno y (List.mem_of_getElem? hy)
      simp at h3
      omega
    ·exact heq
    ·exfalso
     have h3 := hlo l[m] (List.mem_of_getElem? (by rw [List.getElem?_take_of_lt hgt]; exact List.getElem?_eq_getElem hm) )
     simp at hm1
     omega
   rw [h2, hjm]
 ·have hj2 : j = l.length := by
   rcases hs with hs | ⟨y, hy, hyn⟩
   ·exact hs
   ·exfalso
    have hno : ch y ≠ ch r := by
     intro he
     unfold plc idx at hp
     cases hf : l.findIdx? (fun x => ch x == ch r) with
     | none => exact absurd he (by simpa using (List.findIdx?_eq_none_iff.1 hf) y (List.mem_of_getElem? hy))
     | some k => rw [hf] at hp; exact absurd hp (by show (k : Int) ≠ -1; omega)
    unfold gtc idx at h1
    cases hf : l.findIdx? (fun x => decide (ch r < ch x)) with
    | none =>
     have := (List.findIdx?_eq_none_iff.1 hf) y (List.mem_of_getElem? hy)
     simp at this
     omega
    | some k => rw [hf] at h1; exact absurd h1 (by show (k : Int) ≠ -1; omega)
  rw [h2, hj2, List.take_length, List.drop_length]
/-- rows that are told, and lie in memory that was made since -/
def ToldF (l : List Rw) (w : World) (e : Ending) (w' : World) : Prop :=
 ∃ A cap, e = .returned (.slice A l.length cap) ∧ At w' w'.heap.size A (tvs l) ∧ (A = none → cap = 0) ∧ l.length ≤ cap ∧ Below w.heap.size w w' ∧ Fresh w.heap.size A
theorem ToldF.told {l : List Rw} {w w' : World} {e : Ending} (h : ToldF l w e w') : Told_ l w e w' := by
 obtain ⟨A, cap, he, ha, hn, hc, hb, _⟩ := h
 exact ⟨A, cap, he, ha, hn, hc, hb⟩
theorem own_toldF {w w' : World} {B : Nat} {l : List Rw} {v : Value} (h : w'.ownsRow B 28 4 v l.length (tvs l)) (hB : w.heap.size ≤ B) (hb : Below w.heap.size w w') : ToldF l w (.returned v) w' := by
 obtain ⟨A, cap, rfl, ha, hf, hc⟩ := own_at h
 refine ⟨A, cap, rfl, ha, fun hA => ?_, hc, hb, fun a ha' => Nat.le_trans hB (hf a ha')⟩
 subst hA
 rcases h.2 with ⟨hz, _⟩ | ⟨g, c2, cur, hv, _⟩
 ·exact (Value.slice.inj hz).2.2
 ·cases hv
set_option maxHeartbeats 4000000 in
theorem rset_at (A : Option Addr) (cap : Nat) (l : List Rw) (r : Rw) (k : Nat) (hl : l.length ≤ 100000) (hA : A = none → cap = 0) (hcap : l.length ≤ cap) (hp : plc l (ch r) = (k : Int)) (hk : k < l.length) (w : World) (hc : At w w.heap.size A (tvs l)) :
  Calls Tryz.prog 26 #[.slice A l.length cap, .agg #[.int .i64 (ch r), .int .i64 (pa r), .string (ba (nm r)), .float .f64 (rk r)]] w (ToldF (l.set k r) w) := by
 have hlm : l.length ≤ maxLen := by unfold maxLen; omega
 have hbx := (Below.refl w.heap.size w).alloc (Nat.le_refl _) (.cells #[.int .i64 (ch r), .int .i64 (pa r), .string (ba (nm r)), .float .f64 (rk r)] 28)
 have hI0 : Is (w.alloc (.cells #[.int .i64 (ch r), .int .i64 (pa r), .string (ba (nm r)), .float .f64 (rk r)] 28)) w.heap.size 28 [.int .i64 (ch r), .int .i64 (pa r), .string (ba (nm r)), .float .f64 (rk r)] := is_new w 28 [.int .i64 (ch r), .int .i64 (pa r), .string (ba (nm r)), .float .f64 (rk r)]
 have hcx := hc.keep hbx
 have HI0 := Lib.hid hI0
 have HCX := Lib.hid hcx
 have HBX := Lib.hid hbx
 have H1 := Lib.hid hp
 have HA := Lib.hid hA
 have HCAP := Lib.hid hcap
 have hki : (0 : Int) ≤ (k : Int) := by omega
 have hkl2 : (k : Int) < (l.length : Int) := by omega
 clear hI0 hcx hbx hp hc hA hcap
 go_enter Tryz.func26, Tryz.ntmps26
 go_wp2_with fail
 refine (rplace_k (k : Int) H1.out hlm HCX.out).mono ?_
 rintro e w1 ⟨rfl, hb1⟩
 have hI := is_below HI0.out hb1 (is_lt HI0.out)
 have hbw := HBX.out.trans (hb1.mono HBX.out.size)
 have HC1 := Lib.hid (HCX.out.keep hb1)
 go_wp2_with (at_builtin; refine append_optR _ rfl _ _ rfl w1.heap.size _ 0 [] rfl (made0 _ _ (Nat.le_refl _)) A cap l rfl HA.out HCAP.out w1.heap.size (HC1.out.below ((Below.refl _ _).alloc (Nat.le_refl _) _)) (by omega) (by simp) ?_)
 intro v2 w2 hown hgrow
 have hb2 := below_own ((Below.refl _ _).alloc (Nat.le_refl _) _) (by simp) (made0 w1.heap.size w1 (Nat.le_refl _)) hgrow
 have hlt : 0 < l.length := by omega
 obtain ⟨g, c2, rfl, hg, hc2, -, hfz, hcl⟩ := own_some hown hlt
 obtain ⟨x, hx⟩ := some_at hk
 obtain ⟨q0, q1, q2, q3⟩ := tvs_at hx
 have c0 := hcl _ _ q0
 have c1 := hcl _ _ q1
 have c2 := hcl _ _ q2
 have c3 := hcl _ _ q3
 have f0 := hfz (k * 4)
 have f1 := hfz (k * 4 + 1)
 have f2 := hfz (k * 4 + 2)
 have f3 := hfz (k * 4 + 3)
 have hI2 := is_below hI hb2 (is_lt hI)
 obtain ⟨k0, k1, k2, k3⟩ := box4 (r := r) hI2
 have hne : w.heap.size ≠ g := by have := is_lt hI; omega
 have HOWN := Lib.hid hown
 have HGR := Lib.hid hg
 clear hown hgrow q0 q1 q2 q3 hcl hfz
 go_wp2_with fail
 go_ret
 have h4 := own_set4 r HOWN.out hk
 have hb3 := hbw.trans (hb2.mono hbw.size)
 have hgg : w.heap.size ≤ g := Nat.le_trans hbw.size HGR.out
 have hb4 := (((hb3.setCell (p := ⟨g, k * 4, none⟩) hgg (.int .i64 (ch r))).setCell (p := ⟨g, k * 4 + 1, none⟩) hgg (.int .i64 (pa r))).setCell (p := ⟨g, k * 4 + 2, none⟩) hgg (.string (ba (nm r)))).setCell (p := ⟨g, k * 4 + 3, none⟩) hgg (.float .f64 (rk r))
 refine own_toldF (B := w1.heap.size) ?_ hbw.size hb4
 rw [List.length_set]
 exact h4
theorem at_box (w : World) (r : Rw) : At (w.alloc (.cells #[.int .i64 (ch r), .int .i64 (pa r), .string (ba (nm r)), .float .f64 (rk r)] 28)) (w.heap.size + 1) (some ⟨w.heap.size, 0, none⟩) (tvs [r]) := fun i v hv =>
 ⟨w.heap.size, 0, rfl, Nat.lt_succ_self _, by rw [Nat.zero_add]; exact (is_cell (is_new w 28 (tvs [r])) i).trans hv⟩
set_option maxHeartbeats 8000000 in
theorem rset_new (A : Option Addr) (cap : Nat) (l : List Rw) (r : Rw) (hl : l.length ≤ 100000) (hA : A = none → cap = 0) (hcap : l.length ≤ cap) (hp : plc l (ch r) = -1) (w : World) (hc : At w w.heap.size A (tvs l)) :
  Calls Tryz.prog 26 #[.slice A l.length cap, .agg #[.int .i64 (ch r), .int .i64 (pa r), .string (ba (nm r)), .float .f64 (rk r)]] w (ToldF (setP l r) w) := by
 have hlm : l.length ≤ maxLen := by unfold maxLen; omega
 have hbx := (Below.refl w.heap.size w).alloc (Nat.le_refl _) (.cells #[.int .i64 (ch r), .int .i64 (pa r), .string (ba (nm r)), .float .f64 (rk r)] 28)
 have hI0 : Is (w.alloc (.cells #[.int .i64 (ch r), .int .i64 (pa r), .string (ba (nm r)), .float .f64 (rk r)] 28)) w.heap.size 28 [.int .i64 (ch r), .int .i64 (pa r), .string (ba (nm r)), .float .f64 (rk r)] := is_new w 28 [.int .i64 (ch r), .int .i64 (pa r), .string (ba (nm r)), .float .f64 (rk r)]
 have hcx := hc.keep hbx
 have hstop := fun (j : Nat) => setP_stop (j := j) hp
 obtain ⟨N, hN⟩ : ∃ N, setP l r = N := ⟨_, rfl⟩
 rw [hN] at hstop ⊢
 have HN := Lib.hid hN
 have HST := Lib.hid hstop
 have HI0 := Lib.hid hI0
 have HCX := Lib.hid hcx
 have HBX := Lib.hid hbx
 have H1 := Lib.hid hp
 have HA := Lib.hid hA
 have HCAP := Lib.hid hcap
 clear hI0 hcx hbx hp hc hA hcap hN hstop
 go_enter Tryz.func26, Tryz.ntmps26
 go_wp2_with fail
 refine (rplace_k (-1) H1.out hlm HCX.out).mono ?_
 rintro e w1 ⟨rfl, hb1⟩
 have hI := is_below HI0.out hb1 (is_lt HI0.out)
 have hbw := HBX.out.trans (hb1.mono HBX.out.size)
 have HC1 := Lib.hid (HCX.out.keep hb1)
 have HI1 := Lib.hid hI
 obtain ⟨k0, k1, k2, k3⟩ := box4 (r := r) hI
 go_wp2_with fail
 go_loopw [7] (fun i wr => ∃ j : Nat, i = .int .i64 (j : Int) ∧ j ≤ l.length ∧ (∀ x ∈ l.take j, ch x < ch r) ∧ (∃ q, wr = w1.drewN q)) (fun i _ => l.length - (intOf i).toNat)
 case atStart => exact ⟨0, rfl, Nat.zero_le _, fun x hx => by simp at hx, 0, rfl⟩
 case round =>
  obtain ⟨j, rfl, hj, hlo, q, rfl⟩ := hrel
  have HLO := Lib.hid hlo
  clear hlo
  by_cases hlt : j < l.length
  ·obtain ⟨x, hx⟩ := some_at hlt
   obtain ⟨b0, o0, rfl, hb0, c0, -⟩ := row_cells HC1.out hx
   have c0q : (w1.drewN q).cell? ⟨b0, o0 + j * 4, none⟩ = some (.int .i64 (ch x)) := c0
   have k0q : (w1.drewN q).cell? ⟨w.heap.size, 0, none⟩ = some (.int .i64 (ch r)) := k0
   have hji : (j : Int) < (l.length : Int) := by omega
   have hj0 : (0 : Int) ≤ (j : Int) := by omega
   have HX := Lib.hid hx
   clear hx
   by_cases hlt2 : ch x < ch r
   ·have hd : decide (ch x < ch r) = true := decide_eq_true hlt2
    have HL2 := Lib.hid hlt2
    clear hlt2
    go_wp2_with fail
    go_region
    go_wp2_with fail
    go_roundw
    case rel =>
     refine ⟨j + 1, by go_num, by omega, ?_, ⟨_, rfl⟩⟩
     intro y hy
     rw [List.take_add_one, HX.out, List.mem_append] at hy
     rcases hy with hy | hy
     ·exact HLO.out y hy
     ·simp at hy; rw [hy]; exact HL2.out
    case measure => simp only [intOf]; omega
   ·have hd : decide (ch x < ch r) = false := decide_eq_false hlt2
    have HSS := Lib.hid (HST.out j hj HLO.out (.inr ⟨x, HX.out, by omega⟩))
    have htk : (l.take j).length = j := by rw [List.length_take]; omega
    have hdk : (l.drop j).length = l.length - j := List.length_drop ..
    have HTK := Lib.hid htk
    have HDK := Lib.hid hdk
    have hj2 : (j : Int) ≤ (l.length : Int) := by omega
    have hj3 : (j : Int) ≤ (cap : Int) := by have := HCAP.out; omega
    have hc0 : ¬ cap = j := by have := HCAP.out; omega
    clear htk hdk hlt2
    go_wp2_with fail
    go_region
    go_wp2_with (at_builtin; refine append_optR _ rfl _ _ rfl w1.heap.size _ 0 [] rfl (made0 w1.heap.size (w1.drewN _) (Nat.le_refl _)) (some ⟨b0, o0, none⟩) cap (l.take j) (by rw [HTK.out]; rfl) (fun h => by cases h) (by rw [HTK.out]; have := HCAP.out; omega) w1.heap.size (At.below (at_takeR HC1.out j) ((below_drewN (Below.refl w1.heap.size w1) _).alloc (Nat.le_refl _) _)) (by rw [HTK.out]; omega) (by simp) ?_)
    intro v2 w2 hown hgrow
    have hb2 : Below w1.heap.size w1 w2 := below_own ((below_drewN (Below.refl w1.heap.size w1) _).alloc (Nat.le_refl _) _) (by simp) (made0 w1.heap.size (w1.drewN _) (Nat.le_refl _)) hgrow
    obtain ⟨Av, cv, rfl, -, -, -⟩ := own_at hown
    have hI2 := is_below HI1.out hb2 (is_lt HI1.out)
    clear k0 k1 k2 k3
    obtain ⟨k0, k1, k2, k3⟩ := box4 (r := r) hI2
    have HC2 := Lib.hid (HC1.out.keep hb2)
    have HOWN := Lib.hid hown
    clear hown hgrow
    go_wp2_with (at_builtin; refine append_optR _ rfl _ _ rfl w1.heap.size _ _ _ rfl (HOWN.out.alloc (.cells #[.int .i64 (ch r), .int .i64 (pa r), .string (ba (nm r)), .float .f64 (rk r)] 28)) (some ⟨w2.heap.size, 0, none⟩) 1 [r] rfl (fun h => by cases h) (by simp) (w2.heap.size + 1) (at_box w2 r) (by simp <;> omega) (by have := hb2.size; simp <;> omega) ?_)
    intro v3 w3 hown3 hgrow3
    have hb3 : Below w1.heap.size w1 w3 := below_own (hb2.alloc hb2.size (.cells #[.int .i64 (ch r), .int .i64 (pa r), .string (ba (nm r)), .float .f64 (rk r)] 28)) (by have := hb2.size; simp <;> omega) (HOWN.out.alloc _) hgrow3
    obtain ⟨Aw, cw, rfl, -, -, -⟩ := own_at hown3
    have HC3 := Lib.hid (HC1.out.keep hb3)
    have HOW3 := Lib.hid hown3
    clear hown3 hgrow3
    go_wp2_with (at_builtin; refine append_optR _ rfl _ _ rfl w1.heap.size _ _ _ rfl HOW3.out (some ⟨b0, o0 + j * 4, none⟩) (cap - j) (l.drop j) (by rw [HDK.out]; rfl) (fun h => by cases h) (by rw [HDK.out]; have := HCAP.out; omega) w3.heap.size (at_dropR HC3.out j) (by rw [HDK.out]; omega) hb3.size ?_)
    intro v4 w4 hown4 hgrow4
    have hb4 : Below w1.heap.size w1 w4 := below_own hb3 hb3.size HOW3.out hgrow4
    obtain ⟨Ax, cx, rfl, -, -, -⟩ := own_at hown4
    have HOW4 := Lib.hid hown4
    clear hown4 hgrow4
    go_wp2_with fail
    go_ret
    refine own_toldF (B := w1.heap.size) ?_ hbw.size (hbw.trans (hb4.mono hbw.size))
    have h := HOW4.out
    rw [← HSS.out] at h
    have hn : j + 1 + (l.length - j) = N.length := by have := congrArg List.length HSS.out; simp at this; omega
    show w4.ownsRow _ _ 4 (.slice Ax (j + 1 + (l.length - j)) cx) N.length (tvs N)
    rw [hn] at h ⊢
    exact h
  ·obtain rfl : j = l.length := by omega
   have hss := HST.out l.length (Nat.le_refl _) HLO.out (.inl rfl)
   rw [List.take_length, List.drop_length] at hss
   have htk : (l.take l.length).length = l.length := by rw [List.length_take]; omega
   have hdk : (l.drop l.length).length = 0 := by rw [List.length_drop]; omega
   have hdn : l.drop l.length = [] := List.drop_length
   have htn : l.take l.length = l := List.take_length
   have HTK := Lib.hid htk
   have HDK := Lib.hid hdk
   have HDN := Lib.hid hdn
   have HTN := Lib.hid htn
   have hj0 : (0 : Int) ≤ (l.length : Int) := by omega
   have hj3 : (l.length : Int) ≤ (cap : Int) := by have := HCAP.out; omega
   clear htk hdk hdn htn hlt
   rcases A with _ | ⟨b0, o0, sp⟩
   ·obtain rfl := HA.out rfl
    obtain rfl : l = [] := List.eq_nil_of_length_eq_zero (by have := HCAP.out; omega)
    rw [List.nil_append] at hss
    have HSS := Lib.hid hss
    clear hss
    go_wp2_with fail
    go_quiet (fail)
    go_wp2_with (at_builtin; refine append_optR _ rfl _ _ rfl w1.heap.size _ 0 [] rfl (made0 w1.heap.size (w1.drewN _) (Nat.le_refl _)) none 0 [] (by rfl) (fun _ => rfl) (by simp) w1.heap.size (At.below (At.nil _ _ _) ((below_drewN (Below.refl w1.heap.size w1) _).alloc (Nat.le_refl _) _)) (by simp) (by simp) ?_)
    intro v2 w2 hown hgrow
    have hb2 : Below w1.heap.size w1 w2 := below_own ((below_drewN (Below.refl w1.heap.size w1) _).alloc (Nat.le_refl _) _) (by simp) (made0 w1.heap.size (w1.drewN _) (Nat.le_refl _)) hgrow
    obtain ⟨Av, cv, rfl, -, -, -⟩ := own_at hown
    have hI2 := is_below HI1.out hb2 (is_lt HI1.out)
    clear k0 k1 k2 k3
    obtain ⟨k0, k1, k2, k3⟩ := box4 (r := r) hI2
    have HC2 := Lib.hid (HC1.out.keep hb2)
    have HOWN := Lib.hid hown
    clear hown hgrow
    go_wp2_with (at_builtin; refine append_optR _ rfl _ _ rfl w1.heap.size _ _ _ rfl (HOWN.out.alloc (.cells #[.int .i64 (ch r), .int .i64 (pa r), .string (ba (nm r)), .float .f64 (rk r)] 28)) (some ⟨w2.heap.size, 0, none⟩) 1 [r] rfl (fun h => by cases h) (by simp) (w2.heap.size + 1) (at_box w2 r) (by simp <;> omega) (by have := hb2.size; simp <;> omega) ?_)
    intro v3 w3 hown3 hgrow3
    have hb3 : Below w1.heap.size w1 w3 := below_own (hb2.alloc hb2.size (.cells #[.int .i64 (ch r), .int .i64 (pa r), .string (ba (nm r)), .float .f64 (rk r)] 28)) (by have := hb2.size; simp <;> omega) (HOWN.out.alloc _) hgrow3
    obtain ⟨Aw, cw, rfl, -, -, -⟩ := own_at hown3
    have HC3 := Lib.hid (HC1.out.keep hb3)
    have HOW3 := Lib.hid hown3
    clear hown3 hgrow3
    go_wp2_with (at_builtin; refine append_optR _ rfl _ _ rfl w1.heap.size _ _ _ rfl HOW3.out none 0 [] (by rfl) (fun _ => rfl) (by simp) w3.heap.size (At.nil _ _ _) (by simp) hb3.size ?_)
    intro v4 w4 hown4 hgrow4
    have hb4 : Below w1.heap.size w1 w4 := below_own hb3 hb3.size HOW3.out hgrow4
    obtain ⟨Ax, cx, rfl, -, -, -⟩ := own_at hown4
    have HOW4 := Lib.hid hown4
    clear hown4 hgrow4
    go_wp2_with fail
    go_ret
    refine own_toldF (B := w1.heap.size) ?_ hbw.size (hbw.trans (hb4.mono hbw.size))
    have h := HOW4.out
    rw [← HSS.out] at h
    have hn : 1 = N.length := by have := congrArg List.length HSS.out; simp at this; omega
    show w4.ownsRow _ _ 4 (.slice Ax (1) cx) N.length (tvs N)
    rw [hn] at h ⊢
    exact h
   ·by_cases hle : l = []
    ·subst hle
     rw [List.nil_append] at hss
     have HSS := Lib.hid hss
     clear hss
     by_cases hcj : cap = 0
     ·subst hcj
      go_wp2_with fail
      go_quiet (fail)
      go_wp2_with (at_builtin; refine append_optR _ rfl _ _ rfl w1.heap.size _ 0 [] rfl (made0 w1.heap.size (w1.drewN _) (Nat.le_refl _)) (some ⟨b0, o0, sp⟩) 0 [] (by rfl) (fun h => by cases h) (by simp) w1.heap.size (At.below (At.nil _ _ _) ((below_drewN (Below.refl w1.heap.size w1) _).alloc (Nat.le_refl _) _)) (by simp) (by simp) ?_)
      intro v2 w2 hown hgrow
      have hb2 : Below w1.heap.size w1 w2 := below_own ((below_drewN (Below.refl w1.heap.size w1) _).alloc (Nat.le_refl _) _) (by simp) (made0 w1.heap.size (w1.drewN _) (Nat.le_refl _)) hgrow
      obtain ⟨Av, cv, rfl, -, -, -⟩ := own_at hown
      have hI2 := is_below HI1.out hb2 (is_lt HI1.out)
      clear k0 k1 k2 k3
      obtain ⟨k0, k1, k2, k3⟩ := box4 (r := r) hI2
      have HC2 := Lib.hid (HC1.out.keep hb2)
      have HOWN := Lib.hid hown
      clear hown hgrow
      go_wp2_with (at_builtin; refine append_optR _ rfl _ _ rfl w1.heap.size _ _ _ rfl (HOWN.out.alloc (.cells #[.int .i64 (ch r), .int .i64 (pa r), .string (ba (nm r)), .float .f64 (rk r)] 28)) (some ⟨w2.heap.size, 0, none⟩) 1 [r] rfl (fun h => by cases h) (by simp) (w2.heap.size + 1) (at_box w2 r) (by simp <;> omega) (by have := hb2.size; simp <;> omega) ?_)
      intro v3 w3 hown3 hgrow3
      have hb3 : Below w1.heap.size w1 w3 := below_own (hb2.alloc hb2.size (.cells #[.int .i64 (ch r), .int .i64 (pa r), .string (ba (nm r)), .float .f64 (rk r)] 28)) (by have := hb2.size; simp <;> omega) (HOWN.out.alloc _) hgrow3
      obtain ⟨Aw, cw, rfl, -, -, -⟩ := own_at hown3
      have HC3 := Lib.hid (HC1.out.keep hb3)
      have HOW3 := Lib.hid hown3
      clear hown3 hgrow3
      go_wp2_with (at_builtin; refine append_optR _ rfl _ _ rfl w1.heap.size _ _ _ rfl HOW3.out (some ⟨b0, o0, sp⟩) 0 [] (by rfl) (fun h => by cases h) (by simp) w3.heap.size (At.nil _ _ _) (by simp) hb3.size ?_)
      intro v4 w4 hown4 hgrow4
      have hb4 : Below w1.heap.size w1 w4 := below_own hb3 hb3.size HOW3.out hgrow4
      obtain ⟨Ax, cx, rfl, -, -, -⟩ := own_at hown4
      have HOW4 := Lib.hid hown4
      clear hown4 hgrow4
      go_wp2_with fail
      go_ret
      refine own_toldF (B := w1.heap.size) ?_ hbw.size (hbw.trans (hb4.mono hbw.size))
      have h := HOW4.out
      rw [← HSS.out] at h
      have hn : 1 = N.length := by have := congrArg List.length HSS.out; simp at this; omega
      show w4.ownsRow _ _ 4 (.slice Ax (1) cx) N.length (tvs N)
      rw [hn] at h ⊢
      exact h
     ·have hc0 : ¬ cap = 0 := hcj
      go_wp2_with fail
      go_quiet (fail)
      go_wp2_with (at_builtin; refine append_optR _ rfl _ _ rfl w1.heap.size _ 0 [] rfl (made0 w1.heap.size (w1.drewN _) (Nat.le_refl _)) (some ⟨b0, o0, sp⟩) cap [] (by rfl) (fun h => by cases h) (by simp) w1.heap.size (At.below (At.nil _ _ _) ((below_drewN (Below.refl w1.heap.size w1) _).alloc (Nat.le_refl _) _)) (by simp) (by simp) ?_)
      intro v2 w2 hown hgrow
      have hb2 : Below w1.heap.size w1 w2 := below_own ((below_drewN (Below.refl w1.heap.size w1) _).alloc (Nat.le_refl _) _) (by simp) (made0 w1.heap.size (w1.drewN _) (Nat.le_refl _)) hgrow
      obtain ⟨Av, cv, rfl, -, -, -⟩ := own_at hown
      have hI2 := is_below HI1.out hb2 (is_lt HI1.out)
      clear k0 k1 k2 k3
      obtain ⟨k0, k1, k2, k3⟩ := box4 (r := r) hI2
      have HC2 := Lib.hid (HC1.out.keep hb2)
      have HOWN := Lib.hid hown
      clear hown hgrow
      go_wp2_with (at_builtin; refine append_optR _ rfl _ _ rfl w1.heap.size _ _ _ rfl (HOWN.out.alloc (.cells #[.int .i64 (ch r), .int .i64 (pa r), .string (ba (nm r)), .float .f64 (rk r)] 28)) (some ⟨w2.heap.size, 0, none⟩) 1 [r] rfl (fun h => by cases h) (by simp) (w2.heap.size + 1) (at_box w2 r) (by simp <;> omega) (by have := hb2.size; simp <;> omega) ?_)
      intro v3 w3 hown3 hgrow3
      have hb3 : Below w1.heap.size w1 w3 := below_own (hb2.alloc hb2.size (.cells #[.int .i64 (ch r), .int .i64 (pa r), .string (ba (nm r)), .float .f64 (rk r)] 28)) (by have := hb2.size; simp <;> omega) (HOWN.out.alloc _) hgrow3
      obtain ⟨Aw, cw, rfl, -, -, -⟩ := own_at hown3
      have HC3 := Lib.hid (HC1.out.keep hb3)
      have HOW3 := Lib.hid hown3
      clear hown3 hgrow3
      go_wp2_with (at_builtin; refine append_optR _ rfl _ _ rfl w1.heap.size _ _ _ rfl HOW3.out (some ⟨b0, o0, sp⟩) cap [] (by rfl) (fun h => by cases h) (by simp) w3.heap.size (At.nil _ _ _) (by simp) hb3.size ?_)
      intro v4 w4 hown4 hgrow4
      have hb4 : Below w1.heap.size w1 w4 := below_own hb3 hb3.size HOW3.out hgrow4
      obtain ⟨Ax, cx, rfl, -, -, -⟩ := own_at hown4
      have HOW4 := Lib.hid hown4
      clear hown4 hgrow4
      go_wp2_with fail
      go_ret
      refine own_toldF (B := w1.heap.size) ?_ hbw.size (hbw.trans (hb4.mono hbw.size))
      have h := HOW4.out
      rw [← HSS.out] at h
      have hn : 1 = N.length := by have := congrArg List.length HSS.out; simp at this; omega
      show w4.ownsRow _ _ 4 (.slice Ax (1) cx) N.length (tvs N)
      rw [hn] at h ⊢
      exact h
    have HSS := Lib.hid hss
    clear hss
    obtain ⟨x0, hx0⟩ : ∃ x0, l[0]? = some x0 := some_at (List.length_pos_iff.2 hle)
    obtain ⟨b1, o1, e1, hb0, -⟩ := row_cells HC1.out hx0
    cases e1
    clear hx0
    by_cases hcj : cap = l.length
    ·subst hcj
     go_wp2_with fail
     go_quiet (fail)
     go_wp2_with (at_builtin; refine append_optR _ rfl _ _ rfl w1.heap.size _ 0 [] rfl (made0 w1.heap.size (w1.drewN _) (Nat.le_refl _)) (some ⟨b0, o0, none⟩) l.length l (by rfl) (fun h => by cases h) (by exact Nat.le_refl _) w1.heap.size (At.below (HC1.out) ((below_drewN (Below.refl w1.heap.size w1) _).alloc (Nat.le_refl _) _)) (by omega) (by simp) ?_)
     intro v2 w2 hown hgrow
     have hb2 : Below w1.heap.size w1 w2 := below_own ((below_drewN (Below.refl w1.heap.size w1) _).alloc (Nat.le_refl _) _) (by simp) (made0 w1.heap.size (w1.drewN _) (Nat.le_refl _)) hgrow
     obtain ⟨Av, cv, rfl, -, -, -⟩ := own_at hown
     have hI2 := is_below HI1.out hb2 (is_lt HI1.out)
     clear k0 k1 k2 k3
     obtain ⟨k0, k1, k2, k3⟩ := box4 (r := r) hI2
     have HC2 := Lib.hid (HC1.out.keep hb2)
     have HOWN := Lib.hid hown
     clear hown hgrow
     go_wp2_with (at_builtin; refine append_optR _ rfl _ _ rfl w1.heap.size _ _ _ rfl (HOWN.out.alloc (.cells #[.int .i64 (ch r), .int .i64 (pa r), .string (ba (nm r)), .float .f64 (rk r)] 28)) (some ⟨w2.heap.size, 0, none⟩) 1 [r] rfl (fun h => by cases h) (by simp) (w2.heap.size + 1) (at_box w2 r) (by simp <;> omega) (by have := hb2.size; simp <;> omega) ?_)
     intro v3 w3 hown3 hgrow3
     have hb3 : Below w1.heap.size w1 w3 := below_own (hb2.alloc hb2.size (.cells #[.int .i64 (ch r), .int .i64 (pa r), .string (ba (nm r)), .float .f64 (rk r)] 28)) (by have := hb2.size; simp <;> omega) (HOWN.out.alloc _) hgrow3
     obtain ⟨Aw, cw, rfl, -, -, -⟩ := own_at hown3
     have HC3 := Lib.hid (HC1.out.keep hb3)
     have HOW3 := Lib.hid hown3
     clear hown3 hgrow3
     go_wp2_with (at_builtin; refine append_optR _ rfl _ _ rfl w1.heap.size _ _ _ rfl HOW3.out (some ⟨b0, o0, none⟩) 0 [] (by rfl) (fun h => by cases h) (by simp) w3.heap.size (At.nil _ _ _) (by simp <;> omega) hb3.size ?_)
     intro v4 w4 hown4 hgrow4
     have hb4 : Below w1.heap.size w1 w4 := below_own hb3 hb3.size HOW3.out hgrow4
     obtain ⟨Ax, cx, rfl, -, -, -⟩ := own_at hown4
     have HOW4 := Lib.hid hown4
     clear hown4 hgrow4
     go_wp2_with fail
     go_ret
     refine own_toldF (B := w1.heap.size) ?_ hbw.size (hbw.trans (hb4.mono hbw.size))
     have h := HOW4.out
     rw [← HSS.out] at h
     have hn : l.length + 1 = N.length := by have := congrArg List.length HSS.out; simp at this; omega
     show w4.ownsRow _ _ 4 (.slice Ax (l.length + 1) cx) N.length (tvs N)
     rw [hn] at h ⊢
     exact h
    ·have hc0 : ¬ cap = l.length := hcj
     go_wp2_with fail
     go_quiet (fail)
     go_wp2_with (at_builtin; refine append_optR _ rfl _ _ rfl w1.heap.size _ 0 [] rfl (made0 w1.heap.size (w1.drewN _) (Nat.le_refl _)) (some ⟨b0, o0, none⟩) cap l (by rfl) (fun h => by cases h) (by exact HCAP.out) w1.heap.size (At.below (HC1.out) ((below_drewN (Below.refl w1.heap.size w1) _).alloc (Nat.le_refl _) _)) (by omega) (by simp) ?_)
     intro v2 w2 hown hgrow
     have hb2 : Below w1.heap.size w1 w2 := below_own ((below_drewN (Below.refl w1.heap.size w1) _).alloc (Nat.le_refl _) _) (by simp) (made0 w1.heap.size (w1.drewN _) (Nat.le_refl _)) hgrow
     obtain ⟨Av, cv, rfl, -, -, -⟩ := own_at hown
     have hI2 := is_below HI1.out hb2 (is_lt HI1.out)
     clear k0 k1 k2 k3
     obtain ⟨k0, k1, k2, k3⟩ := box4 (r := r) hI2
     have HC2 := Lib.hid (HC1.out.keep hb2)
     have HOWN := Lib.hid hown
     clear hown hgrow
     go_wp2_with (at_builtin; refine append_optR _ rfl _ _ rfl w1.heap.size _ _ _ rfl (HOWN.out.alloc (.cells #[.int .i64 (ch r), .int .i64 (pa r), .string (ba (nm r)), .float .f64 (rk r)] 28)) (some ⟨w2.heap.size, 0, none⟩) 1 [r] rfl (fun h => by cases h) (by simp) (w2.heap.size + 1) (at_box w2 r) (by simp <;> omega) (by have := hb2.size; simp <;> omega) ?_)
     intro v3 w3 hown3 hgrow3
     have hb3 : Below w1.heap.size w1 w3 := below_own (hb2.alloc hb2.size (.cells #[.int .i64 (ch r), .int .i64 (pa r), .string (ba (nm r)), .float .f64 (rk r)] 28)) (by have := hb2.size; simp <;> omega) (HOWN.out.alloc _) hgrow3
     obtain ⟨Aw, cw, rfl, -, -, -⟩ := own_at hown3
     have HC3 := Lib.hid (HC1.out.keep hb3)
     have HOW3 := Lib.hid hown3
     clear hown3 hgrow3
     go_wp2_with (at_builtin; refine append_optR _ rfl _ _ rfl w1.heap.size _ _ _ rfl HOW3.out (some ⟨b0, o0 + l.length * 4, none⟩) (cap - l.length) [] (by rfl) (fun h => by cases h) (by simp) w3.heap.size (At.nil _ _ _) (by simp <;> omega) hb3.size ?_)
     intro v4 w4 hown4 hgrow4
     have hb4 : Below w1.heap.size w1 w4 := below_own hb3 hb3.size HOW3.out hgrow4
     obtain ⟨Ax, cx, rfl, -, -, -⟩ := own_at hown4
     have HOW4 := Lib.hid hown4
     clear hown4 hgrow4
     go_wp2_with fail
     go_ret
     refine own_toldF (B := w1.heap.size) ?_ hbw.size (hbw.trans (hb4.mono hbw.size))
     have h := HOW4.out
     rw [← HSS.out] at h
     have hn : l.length + 1 = N.length := by have := congrArg List.length HSS.out; simp at this; omega
     show w4.ownsRow _ _ 4 (.slice Ax (l.length + 1) cx) N.length (tvs N)
     rw [hn] at h ⊢
     exact h
theorem rset_f (A : Option Addr) (cap : Nat) (l : List Rw) (r : Rw) (hl : l.length ≤ 100000) (hA : A = none → cap = 0) (hcap : l.length ≤ cap) (w : World) (hc : At w w.heap.size A (tvs l)) :
  Calls Tryz.prog 26 #[.slice A l.length cap, .agg #[.int .i64 (ch r), .int .i64 (pa r), .string (ba (nm r)), .float .f64 (rk r)]] w (ToldF (setP l r) w) := by
 rcases set_cases l r with ⟨k, x, h1, _, h2, hk⟩ | ⟨_, _, h1, _⟩ | ⟨h1, _⟩
 ·rw [h2, setP_at l r k hk]
  exact rset_at A cap l r k hl hA hcap h1 hk w hc
 ·exact rset_new A cap l r hl hA hcap h1 w hc
 ·exact rset_new A cap l r hl hA hcap h1 w hc
theorem rset_c (A : Option Addr) (cap : Nat) (l : List Rw) (r : Rw) (hl : l.length ≤ 100000) (hA : A = none → cap = 0) (hcap : l.length ≤ cap) (w : World) (hc : At w w.heap.size A (tvs l)) :
  Calls Tryz.prog 26 #[.slice A l.length cap, .agg #[.int .i64 (ch r), .int .i64 (pa r), .string (ba (nm r)), .float .f64 (rk r)]] w (Told_ (setP l r) w) :=
 (rset_f A cap l r hl hA hcap w hc).mono fun _ _ h => h.told
end Go.Proofs.YtkobmnbjeppnaaaGreat
