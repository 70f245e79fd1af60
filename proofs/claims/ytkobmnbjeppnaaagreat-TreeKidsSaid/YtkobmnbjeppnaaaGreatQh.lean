/-
 What may be a tree: the program's.
-/
import Derived.Test.YtkobmnbjeppnaaaGreatQg
namespace Go.Proofs.YtkobmnbjeppnaaaGreat
open Go.RowKit Go.IntWalk Go.Maps
open Gr
set_option maxRecDepth 100000
attribute [local go_sem] Oper.semAt_some
theorem ends_all (l : List Rw) : (∀ r ∈ l, (endE l (ch r)).2 = true) ↔ ∀ r ∈ l, abv l (ch r) l.length (ch r) = false := by
 constructor
 ·intro h r hr
  cases ha : abv l (ch r) l.length (ch r) with
  | false => rfl
  | true =>
   have h1 := endE_cycle ((abv_ab l _ _).1 ha)
   have h2 := h r hr
   rw [h1] at h2
   cases h2
 ·intro h r hr
  cases he : (endE l (ch r)).2 with
  | true => rfl
  | false =>
   have hall : ∀ n, ∃ x, it (upF l) n (ch r) = some x := by
    intro n
    induction n with
    | zero => exact ⟨_, rfl⟩
    | succ n ih =>
     obtain ⟨x, hx⟩ := ih
     cases hu : upF l x with
     | none =>
      have := (endE_iff l (ch r) x).2 ⟨n, hx, hu⟩
      rw [this] at he
      cases he
     | some y => exact ⟨y, by rw [it_add, hx, Option.bind_some, it_one, hu]⟩
   obtain ⟨x, hx⟩ := hall (l.length + 1)
   obtain ⟨i, j, y, hij, -, h1, h2⟩ := it_twice (upF_dom l) hx (by rw [List.length_map]; omega)
   obtain ⟨u, h3, h4⟩ := it_less h2 (Nat.le_of_lt hij)
   rw [h1] at h3
   cases h3
   obtain ⟨d, hd⟩ : ∃ d, j - i = d + 1 := ⟨j - i - 1, by omega⟩
   rw [hd] at h4
   have hab : Ab (upF l) y y := ⟨d, h4⟩
   have hy : ∃ p, upF l y = some p := by
    cases hu : upF l y with
    | none => rw [it, hu] at h4; cases h4
    | some p => exact ⟨p, rfl⟩
   obtain ⟨p, hp⟩ := hy
   obtain ⟨s, hs, rfl, -⟩ := upF_in hp
   have h5 := h s hs
   rw [(abv_ab l _ _).2 hab] at h5
   cases h5
theorem may1_c {b n Bt : Nat} {D : DataW Unit} {K : Int → Option (Int × Bool)} {r : Rw} {v : Int × Bool} {W : World} (hown : W.ownsMap Tryz.prog 3 RE b n D) (hK : Eok D K) (hx : In64 (ch r)) (hv : K (ch r) = some v) (hc : W.cell? ⟨Bt, 0, none⟩ = some (.map (some b))) :
  Calls Tryz.prog 41 (#[rv r] ++ #[.pointer (some ⟨Bt, 0, none⟩)]) W fun e W' => e = .returned (.bool (!v.2)) ∧ Below W.heap.size W W' := by
 have hb := (Below.refl W.heap.size W).alloc (Nat.le_refl _) (.cells #[.int .i64 (ch r), .int .i64 (pa r), .string (ba (nm r)), .float .f64 (rk r)] 28)
 have hl := look_e1 (hown.alloc (.cells #[.int .i64 (ch r), .int .i64 (pa r), .string (ba (nm r)), .float .f64 (rk r)] 28)) hK hx hv
 have hlt := lt_of_cell hc
 have hc2 : (W.alloc (.cells #[.int .i64 (ch r), .int .i64 (pa r), .string (ba (nm r)), .float .f64 (rk r)] 28)).cell? ⟨Bt, 0, none⟩ = some (.map (some b)) := (hb.cell hlt).trans hc
 have hl2 : (Instr.lookup 52 (.map (some b)) (.int .i64 (ch r)) false).run Tryz.prog (W.alloc (.cells #[.int .i64 (ch r), .int .i64 (pa r), .string (ba (nm r)), .float .f64 (rk r)] 28)) = .ok (.agg #[.int .i64 v.1, .bool v.2]) (W.alloc (.cells #[.int .i64 (ch r), .int .i64 (pa r), .string (ba (nm r)), .float .f64 (rk r)] 28)) := hl
 obtain ⟨v1, v2⟩ := v
 simp only at hl2 ⊢
 clear hl hown
 show Calls Tryz.prog 41 #[.agg #[.int .i64 (ch r), .int .i64 (pa r), .string (ba (nm r)), .float .f64 (rk r)], .pointer (some ⟨Bt, 0, none⟩)] W _
 have hf : ∀ W, (Instr.field 56 (.agg #[.int .i64 v1, .bool v2]) 1).run Tryz.prog W = .ok (.bool v2) W := fun W => by kernel_rfl
 cases v2
 ·go_enter Tryz.func41, Tryz.ntmps41
  go_wp2
  go_ret
  exact ⟨rfl, hb⟩
 ·go_enter Tryz.func41, Tryz.ntmps41
  go_wp2
  go_ret
  exact ⟨rfl, hb⟩
theorem contains_c (A : Option Addr) (cap : Nat) (l : List Rw) (g : Nat) (lb : Array Value) (p : Rw → Bool) (hl : l.length ≤ maxLen) (eg : ∀ args w, (callFunc g args).run Tryz.prog w = .ok (.enter g args) w) (w : World)
  (hc : At w w.heap.size A (tvs l)) (hp : Pred g lb p w l) :
  Calls Tryz.prog 40 #[.slice A l.length cap, .func (.func g) #[] lb] w fun e w' => e = .returned (.bool (l.any p)) ∧ Below w.heap.size w w' := by
 have H := Lib.hid (indexFunc_c A cap l g lb p hl eg w hc hp)
 clear hc hp
 cases ha : l.any p with
 | false =>
  have hi : idx p l = -1 := idx_none fun r hr => by
   have := List.any_eq_false.1 ha r hr
   simpa using this
  have h := H.out
  rw [hi] at h
  have H2 := Lib.hid h
  clear h H ha hi
  go_enter Tryz.func40, Tryz.ntmps40
  go_wp2_with fail
  refine H2.out.mono ?_
  rintro e w1 ⟨rfl, hb⟩
  go_wp2_with fail
  go_ret
  exact ⟨rfl, hb⟩
 | true =>
  obtain ⟨k, hk⟩ : ∃ k : Nat, idx p l = (k : Int) := by
   unfold idx
   cases hf : l.findIdx? p with
   | some i => exact ⟨i, rfl⟩
   | none =>
    rw [List.findIdx?_eq_none_iff] at hf
    obtain ⟨r, hr, hpr⟩ := List.any_eq_true.1 ha
    rw [hf r hr] at hpr
    cases hpr
  have h := H.out
  rw [hk] at h
  have H2 := Lib.hid h
  have h0 : (0 : Int) ≤ (k : Int) := by omega
  clear h H ha hk
  go_enter Tryz.func40, Tryz.ntmps40
  go_wp2_with fail
  refine H2.out.mono ?_
  rintro e w1 ⟨rfl, hb⟩
  go_wp2_with fail
  go_ret
  exact ⟨rfl, hb⟩
theorem one_k {r : Rw} {b : Bool} (h : oneP r = b) (hn : (nm r).length ≤ maxLen) (w : World) :
  Calls Tryz.prog 12 #[.agg #[.int .i64 (ch r), .int .i64 (pa r), .string (ba (nm r)), .float .f64 (rk r)]] w fun e w' => e = .returned (.bool b) ∧ Below w.heap.size w w' := by
 subst h
 exact one_c r hn w
theorem oneP_in64 {r : Rw} (h : oneP r = true) : In64 (ch r) ∧ In64 (pa r) := by
 unfold oneP at h
 simp only [Bool.and_eq_true, decide_eq_true_iff] at h
 obtain ⟨h1, h2, h3, h4, -⟩ := h
 unfold In64
 omega
theorem ends_c (A : Option Addr) (cap : Nat) (l : List Rw) (hl : l.length ≤ 1000) (ho : OrdOk l) (hi : ∀ r ∈ l, In64 (ch r) ∧ In64 (pa r)) (w : World) (hc : At w w.heap.size A (tvs l)) :
  Calls Tryz.prog 39 #[.slice A l.length cap] w fun e W' => ∃ b D n K, e = .returned (.map (some b)) ∧ W'.ownsMap Tryz.prog 3 RE b n D ∧ Eok D K ∧ (∀ r ∈ l, K (ch r) = some (endE l (ch r))) ∧ w.heap.size ≤ b ∧ Below w.heap.size w W' :=
 (callsIn_wide (n := 4)).1 (ends_in A cap l hl ho hi w hc)
/-- the rows, and a copy of one -/
def RowBox (w : World) (A : Option Addr) (l : List Rw) (q : Nat) (r : Rw) (w' : World) : Prop :=
 At w' w'.heap.size A (tvs l) ∧ Below w.heap.size w w' ∧ Is w' q 28 [.int .i64 (ch r), .int .i64 (pa r), .string (ba (nm r)), .float .f64 (rk r)]
theorem RowBox.keep {w w1 w2 : World} {A : Option Addr} {l : List Rw} {q : Nat} {r : Rw} (h : RowBox w A l q r w1) (hb : Below w1.heap.size w1 w2) : RowBox w A l q r w2 :=
 ⟨h.1.keep hb, h.2.1.trans (hb.mono h.2.1.size), is_below h.2.2 hb (is_lt h.2.2)⟩
theorem RowBox.made {w w1 : World} {A : Option Addr} {l : List Rw} (r : Rw) (h : At w1 w1.heap.size A (tvs l)) (hb : Below w.heap.size w w1) : RowBox w A l w1.heap.size r (w1.alloc (.cells #[.int .i64 (ch r), .int .i64 (pa r), .string (ba (nm r)), .float .f64 (rk r)] 28)).drew :=
 ⟨(h.keep ((Below.refl _ _).alloc (Nat.le_refl _) _) : _), (hb.alloc hb.size _).drew, is_new w1 28 [.int .i64 (ch r), .int .i64 (pa r), .string (ba (nm r)), .float .f64 (rk r)]⟩
set_option maxHeartbeats 8000000 in
theorem may_c (A : Option Addr) (cap : Nat) (l : List Rw) (hl : l.length ≤ 1000) (hn : ∀ r ∈ l, (nm r).length ≤ maxLen) (w : World) (hc : At w w.heap.size A (tvs l)) :
  Calls Tryz.prog 16 #[.slice A l.length cap] w fun e w' => e = .returned (.bool (mayB l)) ∧ Below w.heap.size w w' := by
 obtain ⟨R, hR⟩ : ∃ R, mayB l = R := ⟨_, rfl⟩
 rw [hR]
 have HR := Lib.hid hR
 have HC := Lib.hid hc
 have HN := Lib.hid hn
 have hli : ¬ (2000 : Int) < (l.length : Int) := by omega
 clear hR hc hn
 go_enter Tryz.func16, Tryz.ntmps16
 go_wp2_with fail
 go_loopw [11] (fun i wr => ∃ k : Nat, i = .int .i64 (k : Int) ∧ k ≤ l.length ∧ (∀ j, j < k → stepOk l j = true) ∧ Below w.heap.size w wr) (fun i _ => l.length - (Go.RowKit.intOf i).toNat)
 case atStart => exact ⟨0, rfl, Nat.zero_le _, fun j hj => absurd hj (Nat.not_lt_zero _), Below.refl _ _⟩
 case round =>
  obtain ⟨k, rfl, hk, hok, hbw⟩ := hrel
  have HOK := Lib.hid hok
  clear hok
  by_cases hlt : k < l.length
  ·obtain ⟨r, hr⟩ := some_at hlt
   have hcw := HC.out.keep hbw
   obtain ⟨b0, o0, rfl, hb0, c0, c1, c2, c3⟩ := row_cells hcw hr
   have hnr := HN.out r (mem_at hr)
   have hki : (0 : Int) ≤ (k : Int) := by omega
   have hkl : (k : Int) < (l.length : Int) := by omega
   have HRB := Lib.hid (RowBox.made r hcw hbw)
   have HX := Lib.hid hr
   cases ho : oneP r with
   | false =>
    have HO := Lib.hid ho
    clear ho hr hcw
    go_wp2_with fail
    refine quiet_held (RowBox w (some ⟨b0, o0, none⟩) l wr.heap.size r) (by kernel_rfl) (by kernel_rfl) HRB.out ?_
    repeat (first
     | go_big_quiet_skip
     | (go_big_quiet_want; go_big_quiet_op; go_big_quiet_on)
     | (go_big_quiet_want; apply Exists.intro; refine ⟨fun wq hq => ?_, ?_⟩; (focus (obtain ⟨d0, d1, d2, d3⟩ := box4 hq.2.2; unfold Oper.quietAt; go_simp; all_goals (first | rfl | (refine (one_k HO.out hnr _).mono ?_; rintro e w5 ⟨rfl, hbn⟩; exact ⟨rfl, hq.keep hbn⟩)))); simp only [Act.put, List.setIfInBounds_toArray, List.set_cons_zero, List.set_cons_succ]; go_big_quiet_on))
    refine wpQuiet_nil ?_
    intro wq hq
    obtain ⟨-, hwq, -⟩ := hq
    go_wp2_with fail
    go_ret
    exact ⟨by rw [← HR.out, mayB_bad hlt (step_one HX.out HO.out)]; rfl, hwq⟩
   | true =>
    have HO := Lib.hid ho
    clear ho hr hcw
    by_cases hk0 : k = 0
    ·have hd : decide (0 < k) = false := decide_eq_false (by omega)
     have HK0 := Lib.hid hk0
     clear hk0
     go_wp2_with fail
     refine quiet_held (RowBox w (some ⟨b0, o0, none⟩) l wr.heap.size r) (by kernel_rfl) (by kernel_rfl) HRB.out ?_
     repeat (first
      | go_big_quiet_skip
      | (simp only [hd])
      | (go_big_quiet_want; go_big_quiet_op; go_big_quiet_on)
      | (go_big_quiet_want; apply Exists.intro; refine ⟨fun wq hq => ?_, ?_⟩; (focus (obtain ⟨d0, d1, d2, d3⟩ := box4 hq.2.2; unfold Oper.quietAt; go_simp; all_goals (first | rfl | (refine (one_k HO.out hnr _).mono ?_; rintro e w5 ⟨rfl, hbn⟩; exact ⟨rfl, hq.keep hbn⟩)))); simp only [Act.put, List.setIfInBounds_toArray, List.set_cons_zero, List.set_cons_succ]; go_big_quiet_on))
     refine wpQuiet_nil ?_
     intro wq hq
     obtain ⟨-, hwq, -⟩ := hq
     go_wp2_with fail
     go_roundw
     case rel =>
      refine ⟨k + 1, by go_num, by omega, fun j hj => ?_, hwq⟩
      have h0 := HK0.out
      subst h0
      obtain rfl : j = 0 := by omega
      exact step_first HX.out HO.out
     case measure => simp only [Go.RowKit.intOf]; omega
    ·obtain ⟨i, hi⟩ : ∃ i, k = i + 1 := ⟨k - 1, by omega⟩
     obtain ⟨s, hs⟩ := some_at (show i < l.length by omega)
     have hx2 := HX.out
     have hsn : stepOk l k = decide (ch s < ch r) := by rw [hi] at hx2 ⊢; exact step_next hx2 hs HO.out
     have hd : decide (0 < k) = true := decide_eq_true (by omega)
     have hwr : IntKind.i64.wrap ((k : Int) - 1) = (i : Int) := by rw [show (k : Int) - 1 = (i : Int) by omega]; exact IntWalk.i64_in _ (by omega)
     have HI := Lib.hid hi
     clear hi hx2 hk0
     have hi0 : (0 : Int) ≤ (i : Int) := by omega
     have hil : (i : Int) < (l.length : Int) := by have := HI.out; omega
     have HS := Lib.hid hs
     have HSN := Lib.hid hsn
     clear hs hsn
     by_cases hcmp : ch s < ch r
     ·have hdc : decide (ch r ≤ ch s) = false := decide_eq_false (by omega)
      have HCM := Lib.hid hcmp
      clear hcmp
      go_wp2_with fail
      refine quiet_held (RowBox w (some ⟨b0, o0, none⟩) l wr.heap.size r) (by kernel_rfl) (by kernel_rfl) HRB.out ?_
      repeat (first
       | go_big_quiet_skip
       | (simp only [hd])
       | (simp only [hwr])
       | (simp only [hdc])
       | (go_big_quiet_want; go_big_quiet_op; go_big_quiet_on)
       | (go_big_quiet_want; apply Exists.intro; refine ⟨fun wq hq => ?_, ?_⟩; (focus (obtain ⟨d0, d1, d2, d3⟩ := box4 hq.2.2; obtain ⟨b9, o9, e9, -, g0, -⟩ := row_cells hq.1 HS.out; cases e9; unfold Oper.quietAt; go_simp; all_goals (first | rfl | (refine (one_k HO.out hnr _).mono ?_; rintro e w5 ⟨rfl, hbn⟩; exact ⟨rfl, hq.keep hbn⟩)))); simp only [Act.put, List.setIfInBounds_toArray, List.set_cons_zero, List.set_cons_succ]; go_big_quiet_on))
      refine wpQuiet_nil ?_
      intro wq hq
      obtain ⟨-, hwq, -⟩ := hq
      go_wp2_with fail
      go_roundw
      case rel =>
       refine ⟨k + 1, by go_num, by omega, fun j hj => ?_, hwq⟩
       by_cases hj2 : j < k
       ·exact HOK.out j hj2
       ·obtain rfl : j = k := by omega
        rw [HSN.out, decide_eq_true HCM.out]
      case measure => simp only [Go.RowKit.intOf]; omega
     ·have hdc : decide (ch r ≤ ch s) = true := decide_eq_true (by omega)
      have HCM := Lib.hid hcmp
      clear hcmp
      go_wp2_with fail
      refine quiet_held (RowBox w (some ⟨b0, o0, none⟩) l wr.heap.size r) (by kernel_rfl) (by kernel_rfl) HRB.out ?_
      repeat (first
       | go_big_quiet_skip
       | (simp only [hd])
       | (simp only [hwr])
       | (simp only [hdc])
       | (go_big_quiet_want; go_big_quiet_op; go_big_quiet_on)
       | (go_big_quiet_want; apply Exists.intro; refine ⟨fun wq hq => ?_, ?_⟩; (focus (obtain ⟨d0, d1, d2, d3⟩ := box4 hq.2.2; obtain ⟨b9, o9, e9, -, g0, -⟩ := row_cells hq.1 HS.out; cases e9; unfold Oper.quietAt; go_simp; all_goals (first | rfl | (refine (one_k HO.out hnr _).mono ?_; rintro e w5 ⟨rfl, hbn⟩; exact ⟨rfl, hq.keep hbn⟩)))); simp only [Act.put, List.setIfInBounds_toArray, List.set_cons_zero, List.set_cons_succ]; go_big_quiet_on))
      refine wpQuiet_nil ?_
      intro wq hq
      obtain ⟨-, hwq, -⟩ := hq
      go_wp2_with fail
      go_ret
      exact ⟨by rw [← HR.out, mayB_bad hlt (HSN.out.trans (decide_eq_false (by have := HCM.out; omega)))]; rfl, hwq⟩
  ·obtain rfl : k = l.length := by omega
   have hsteps := asc_of_steps HOK.out
   have ho : OrdOk l := ordOk_asc (asc_of_AscR hsteps.2) (by unfold maxLen; omega)
   have hin : ∀ r ∈ l, In64 (ch r) ∧ In64 (pa r) := fun r hr => oneP_in64 (hsteps.1 r hr)
   have hend := ends_c A cap l hl ho hin wr (HC.out.keep hbw)
   have HEND := Lib.hid hend
   clear hend ho hsteps
   go_wp2_with fail
   refine HEND.out.mono ?_
   rintro e w1 ⟨b, D, n, K, rfl, hm, hK, hKa, hbl, hb1⟩
   have hbx : Below w.heap.size w w1 := hbw.trans (hb1.mono hbw.size)
   have hP : Pred 41 #[.pointer (some ⟨w1.heap.size, 0, none⟩)] (fun r => !(endE l (ch r)).2) (w1.alloc (.cells #[.map (some b)] 52)) l := fun W r hW hr => by
    have hg : (w1.alloc (.cells #[.map (some b)] 52)).grownBy W none := ⟨hW.os, hW.tape, hW.output, hW.size, fun i hi _ => hW.block i hi⟩
    exact may1_c ((hm.alloc (.cells #[.map (some b)] 52)).kept hg (by simp)) hK (hin r hr).1 (hKa r hr) ((hW.cell (p := ⟨w1.heap.size, 0, none⟩) (by simp)).trans (Boxed.new w1 52 (.map (some b))).cell)
   have hb2 := hbx.alloc hbx.size (.cells #[.map (some b)] 52)
   have hcon := contains_c A cap l 41 #[.pointer (some ⟨w1.heap.size, 0, none⟩)] _ (by unfold maxLen; omega) (fun args w => by rfl) _ (HC.out.keep hb2) hP
   have hany : l.any (fun r => !(endE l (ch r)).2) = !R := by
    cases hq : l.any (fun r => !(endE l (ch r)).2) with
    | false =>
     have h1 := List.any_eq_false.1 hq
     have h2 : mayB l = true := (mayB_iff l).2 ⟨by omega, HOK.out, (ends_all l).1 fun r hr => by simpa using h1 r hr⟩
     rw [HR.out] at h2
     rw [h2]; rfl
    | true =>
     obtain ⟨r, hr, h1⟩ := List.any_eq_true.1 hq
     cases hRR : R with
     | false => rfl
     | true =>
      have h2 := HR.out
      rw [hRR] at h2
      have h3 := (ends_all l).2 ((mayB_iff l).1 h2).2.2 r hr
      rw [h3] at h1
      cases h1
   rw [hany] at hcon
   have HCON := Lib.hid hcon
   have HB2 := Lib.hid hb2
   clear hcon hany hP hm hK hKa hin hb1 hbx hb2
   go_wp2_with fail
   refine HCON.out.mono ?_
   rintro e w2 ⟨rfl, hb3⟩
   have hb4 := HB2.out.trans (hb3.mono HB2.out.size)
   cases hRR : R
   ·go_wp2_with fail
    go_ret
    exact ⟨by rw [hRR]; rfl, hb4⟩
   ·go_wp2_with fail
    go_ret
    exact ⟨by rw [hRR]; rfl, hb4⟩
end Go.Proofs.YtkobmnbjeppnaaaGreat
