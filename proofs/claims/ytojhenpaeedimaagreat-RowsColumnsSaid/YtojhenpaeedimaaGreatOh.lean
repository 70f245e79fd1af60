/-
 Ranks that are nought; a list of numbers cloned, and some of it deleted.
 slices.IndexFunc and slices.DeleteFunc of noughts; ContainsFunc.
 slices.DeleteFunc of noughts.
-/
import Derived.Test.YtojhenpaeedimaaGreatOe
import Derived.Test.YtojhenpaeedimaaGreatNi
import Derived.Lib.SliceRun
import Derived.Laws.OwnMore
import Derived.Lib.LazyBuf
section
namespace Go.Proofs.YtojhenpaeedimaaGreat
open Go.RowKit Go.IntWalk
open Pk Rf Fl Wd Ol Dl Ru Fg Dt Rl
set_option maxRecDepth 100000
attribute [local go_sem] Oper.semAt_some
theorem nought_w (x : Nat) (hx : x < 18446744073709551616) (w : World) :
  Calls Tryz.prog 60 #[.float .f64 x] w fun e w' => e = .returned (.bool (!nz (cb x))) ∧ Below w.heap.size w w' := by
 have hq : (!nz (cb x)) = ((cb x : Int) == 0) := by unfold nz; rw [Bool.eq_iff_iff]; simp
 rw [hq]
 go_enter Tryz.func60, Tryz.ntmps60
 go_wp2_with fail
 refine (bits_c x hx _).mono ?_
 rintro e w1 ⟨rfl, hb⟩
 go_wp2_with fail
 go_ret
 exact ⟨rfl, hb⟩
theorem eg_nought : ∀ args w, (callFunc 60 args).run Tryz.prog w = .ok (.enter 60 args) w := fun _ _ => rfl
set_option maxHeartbeats 2000000 in
theorem cloneF_c (A : Option Addr) (cap : Nat) (l : List Nat) (hl : l.length ≤ 100000) (hA : A = none → cap = 0) (w : World) (hc : At w w.heap.size A (fvs l)) :
  Calls Tryz.prog 59 #[.slice A l.length cap] w fun e w' => ∃ A' cap', e = .returned (.slice A' l.length cap') ∧ w'.ownsRow w.heap.size 49 1 (.slice A' l.length cap') l.length (fvs l) ∧ Below w.heap.size w w' := by
 obtain ⟨i0, hi, hz0, hz1, hz2⟩ := info_parts Tryz.info49
 have q22 : ∀ (w : World) (a : Option Addr) (n c n' c' : Nat), (binOp .eql 23 (.slice a n c) (.slice none n' c')).run Tryz.prog w = .ok (.bool a.isNone) w := fun w a n c n' c' => Lib.run_eql_slice_nil w _ _ a n c n' c' Tryz.underlying23
 have hm : (w.alloc (.cells #[] 49)).ownsRow w.heap.size 49 1 (.slice (some ⟨w.heap.size, 0, none⟩) 0 0) 0 [] := World.ownsRow_made (base := w.heap.size) (e := 49) (size := 1) w #[] 0 (Nat.le_refl _) (by unfold maxLen; omega) rfl
 cases A with
 | none =>
  obtain rfl := hA rfl
  have hl0 : l = [] := by
   cases l with
   | nil => rfl
   | cons r l =>
    obtain ⟨b, o, e, _⟩ := hc 0 _ rfl
    cases e
  subst hl0
  clear hm
  go_enter Tryz.func59, Tryz.ntmps59
  go_wp2
  go_ret
  exact ⟨none, 0, rfl, World.ownsRow_nil _ _ _ _, Below.refl _ _⟩
 | some a =>
  by_cases hn : l = []
  ·subst hn
   obtain ⟨b0, o0, sp⟩ := a
   go_enter Tryz.func59, Tryz.ntmps59
   go_wp2_with (at_builtin; refine wpList_append_own _ rfl _ _ 23 rfl w.heap.size 49 i0 (.float .f64 0) 1 8 Tryz.underlying23 hi hz0 hz1 hz2 rfl (by decide) _ _ _ rfl hm ⟨b0, o0, sp⟩ 0 cap [] rfl rfl (fun j u hj => by simp at hj) (fun u hu => by simp at hu) (by unfold maxLen; omega) (by omega) (by simp) ?_)
   intro v' w1 hown hgrow _
   have hb := below_own ((Below.refl _ _).alloc (Nat.le_refl _) _) (by simp) hm hgrow
   obtain ⟨A', cap', rfl, -, -, -⟩ := own_at hown
   go_wp2
   go_ret
   exact ⟨A', cap', rfl, hown, hb⟩
  ·obtain ⟨r, hr⟩ : ∃ r, l[0]? = some r := by
    cases l with
    | nil => exact absurd rfl hn
    | cons r l => exact ⟨r, rfl⟩
   obtain ⟨b0, o0, e, _⟩ := hc 0 (.float .f64 r) (by simp [fvs, hr])
   cases e
   have hb0 := (Below.refl w.heap.size w).alloc (Nat.le_refl _) (.cells #[] 49)
   have hc2 := hc.below hb0
   have HC2 := Lib.hid hc2
   have htl : (fvs l).length = l.length * 1 := by simp [fvs]
   have hnews := at_news HC2.out
   have hone : ∀ u ∈ fvs l, u.oneCell' = true := fun u hu => by
    obtain ⟨x, _, rfl⟩ := List.mem_map.1 hu
    rfl
   have HNEWS := Lib.hid hnews
   have HTL := Lib.hid htl
   have HONE := Lib.hid hone
   clear hc hc2 hr hnews htl hone
   go_enter Tryz.func59, Tryz.ntmps59
   go_wp2_with (at_builtin; refine wpList_append_own _ rfl _ _ 23 rfl w.heap.size 49 i0 (.float .f64 0) 1 8 Tryz.underlying23 hi hz0 hz1 hz2 rfl (by decide) _ _ _ rfl hm ⟨b0, o0, none⟩ l.length cap (fvs l) rfl HTL.out HNEWS.out HONE.out (by unfold maxLen; omega) (by omega) (by simp) ?_)
   intro v' w1 hown hgrow _
   have hb := below_own hb0 (by simp) hm hgrow
   obtain ⟨A', cap', rfl, -, -, -⟩ := own_at hown
   go_wp2
   go_ret
   exact ⟨A', cap', rfl, hown, hb⟩
end Go.Proofs.YtojhenpaeedimaaGreat
end
section
namespace Go.Proofs.YtojhenpaeedimaaGreat
open Go.RowKit Go.IntWalk
open Pk Rf Fl Wd Ol Dl Ru Fg Dt Rl
set_option maxRecDepth 100000
attribute [local go_sem] Oper.semAt_some
/-- where nought stands first -/
def ixN : List Nat → Option Nat
 | [] => none
 | x :: t => if nz (cb x) = false then some 0 else (ixN t).map (· + 1)
def ixI (l : List Nat) : Int := match ixN l with | none => -1 | some i => (i : Int)
theorem ixN_at : ∀ {l : List Nat} {k x : Nat}, l[k]? = some x → nz (cb x) = false → (∀ y ∈ l.take k, nz (cb y) = true) → ixN l = some k
 | [], k, x, h, _, _ => by simp at h
 | y :: t, 0, x, h, hx, _ => by
  simp at h; subst h
  unfold ixN; rw [if_pos hx]
 | y :: t, k + 1, x, h, hx, ha => by
  have hy := ha y (by simp)
  unfold ixN
  rw [if_neg (by rw [hy]; simp), ixN_at (l := t) (by simpa using h) hx (fun z hz => ha z (by simp [hz]))]
  rfl
theorem ixN_none : ∀ {l : List Nat}, (∀ y ∈ l, nz (cb y) = true) → ixN l = none
 | [], _ => rfl
 | y :: t, h => by
  unfold ixN
  rw [if_neg (by rw [h y (List.mem_cons_self ..)]; simp), ixN_none fun z hz => h z (List.mem_cons_of_mem _ hz)]
  rfl
set_option maxHeartbeats 4000000 in
theorem indexF_c (A : Option Addr) (cap : Nat) (l : List Nat) (hl : l.length ≤ 100000) (hw : Re.Words l) (w : World) (hc : At w w.heap.size A (fvs l)) :
  Calls Tryz.prog 109 #[.slice A l.length cap, .func (.func 60) #[] #[]] w fun e w' => e = .returned (.int .i64 (ixI l)) ∧ Below w.heap.size w w' := by
 obtain ⟨R, hR⟩ : ∃ R, ixI l = R := ⟨_, rfl⟩
 rw [hR]
 have HR := Lib.hid hR
 have HC := Lib.hid hc
 have HW := Lib.hid hw
 have eg := eg_nought
 clear hR hc hw
 go_enter Tryz.func109, Tryz.ntmps109
 go_wp2_with fail
 go_loopw [8] (fun i wr => ∃ k : Nat, i = .int .i64 (k : Int) ∧ k ≤ l.length ∧ (∀ x ∈ l.take k, nz (cb x) = true) ∧ Below w.heap.size w wr) (fun i _ => l.length - (Go.RowKit.intOf i).toNat)
 case atStart => exact ⟨0, rfl, Nat.zero_le _, fun x hx => by simp at hx, Below.refl _ _⟩
 case round =>
  obtain ⟨k, rfl, hk, hno, hb⟩ := hrel
  have HN := Lib.hid hno
  have HB := Lib.hid hb
  clear hno hb
  by_cases hlt : k < l.length
  ·obtain ⟨x, hx⟩ := some_at hlt
   have hki : (0 : Int) ≤ (k : Int) := by omega
   have hkl : (k : Int) < (l.length : Int) := by omega
   obtain ⟨b0, o0, rfl, hb0, c0⟩ := (HC.out.below HB.out) k (.float .f64 x) (by simp [fvs, hx])
   have hcall := nought_w x (HW.out x (mem_at hx)) wr
   obtain ⟨q, hq⟩ : ∃ q, nz (cb x) = q := ⟨_, rfl⟩
   rw [hq] at hcall
   have HX := Lib.hid hx
   have HQ := Lib.hid hq
   have HCA := Lib.hid hcall
   clear hx hq hcall
   cases q with
   | false =>
    go_wp2_with (go_at_fn 60; refine HCA.out.mono ?_; rintro e w2 ⟨rfl, hb2⟩)
    go_ret
    have h := ixN_at HX.out HQ.out HN.out
    rw [← HR.out]
    unfold ixI
    rw [h]
    exact ⟨rfl, HB.out.trans (hb2.mono HB.out.size)⟩
   | true =>
    go_wp2_with (go_at_fn 60; refine HCA.out.mono ?_; rintro e w2 ⟨rfl, hb2⟩)
    go_roundw
    case rel =>
     refine ⟨k + 1, by go_num, by omega, fun y hy => ?_, HB.out.trans (hb2.mono HB.out.size)⟩
     rw [List.take_add_one, HX.out] at hy
     rcases List.mem_append.1 hy with h | h
     ·exact HN.out y h
     ·simp at h; rw [h]; exact HQ.out
    case measure => simp only [Go.RowKit.intOf]; omega
  ·obtain rfl : k = l.length := by omega
   have h := HN.out
   rw [List.take_length] at h
   have HNN := Lib.hid (ixN_none h)
   clear h
   go_wp2_with fail
   go_ret
   rw [← HR.out]
   unfold ixI
   rw [HNN.out]
   exact ⟨rfl, HB.out⟩
end Go.Proofs.YtojhenpaeedimaaGreat
end
section
namespace Go.Proofs.YtojhenpaeedimaaGreat
open Go.RowKit Go.IntWalk
open Pk Rf Fl Wd Ol Dl Ru Fg Dt Rl
set_option maxRecDepth 100000
attribute [local go_sem] Oper.semAt_some
def fnz (l : List Nat) : List Nat := l.filter fun x => nz (cb x)
theorem fnz_all {l : List Nat} (h : ixN l = none) : fnz l = l := by
 induction l with
 | nil => rfl
 | cons y t ih =>
  unfold ixN at h
  by_cases hy : nz (cb y) = false
  ·rw [if_pos hy] at h; cases h
  ·rw [if_neg hy] at h
   have hy2 : nz (cb y) = true := by simpa using hy
   cases ht : ixN t with
   | some i => rw [ht] at h; cases h
   | none =>
    unfold fnz
    rw [List.filter_cons, if_pos hy2]
    congr 1
    exact ih ht
theorem ixN_first : ∀ {l : List Nat} {i : Nat}, ixN l = some i → i < l.length ∧ fnz (l.take (i + 1)) = l.take i
 | [], i, h => by cases h
 | y :: t, i, h => by
  unfold ixN at h
  by_cases hy : nz (cb y) = false
  ·rw [if_pos hy] at h
   injection h with h
   subst h
   refine ⟨by simp, ?_⟩
   unfold fnz
   simp [hy]
  ·rw [if_neg hy] at h
   have hy2 : nz (cb y) = true := by simpa using hy
   cases ht : ixN t with
   | none => rw [ht] at h; cases h
   | some j =>
    rw [ht] at h
    injection h with h
    subst h
    obtain ⟨h1, h2⟩ := ixN_first ht
    refine ⟨by simp only [List.length_cons]; omega, ?_⟩
    rw [List.take_succ_cons, List.take_succ_cons]
    unfold fnz at h2 ⊢
    rw [List.filter_cons, if_pos hy2, h2]
theorem fnz_take {l : List Nat} {k x : Nat} (h : l[k]? = some x) : fnz (l.take (k + 1)) = fnz (l.take k) ++ (if nz (cb x) then [x] else []) := by
 unfold fnz
 rw [List.take_add_one, h, List.filter_append]
 cases hq : nz (cb x) <;> simp [hq]
theorem fvs_set (l : List Nat) (i x : Nat) : (fvs l).set i (.float .f64 x) = fvs (l.set i x) := by
 unfold fvs; rw [List.map_set]
/-- deleting under way: i are kept of the first j -/
structure DelAt (W0 W : World) (B g cap : Nat) (l : List Nat) (i j : Nat) (cur : List Nat) : Prop where
 row : W.ownsRow B 49 1 (.slice (some ⟨g, 0, none⟩) l.length cap) l.length (fvs cur)
 len : cur.length = l.length
 head : cur.take i = fnz (l.take j)
 rest : cur.drop j = l.drop j
 lt : i < j
 own : W0.grownBy W (some g)
theorem DelAt.below {W0 W W' : World} {B g cap i j : Nat} {l cur : List Nat} (h : DelAt W0 W B g cap l i j cur) (hb : Below W.heap.size W W') : DelAt W0 W' B g cap l i j cur :=
 ⟨below_ownI h.row hb, h.len, h.head, h.rest, h.lt, grown_thenB h.own hb⟩
theorem DelAt.at_ {W0 W : World} {B g cap i j : Nat} {l cur : List Nat} (h : DelAt W0 W B g cap l i j cur) {x : Nat} (hx : l[j]? = some x) : cur[j]? = some x := by
 have h0 : (cur.drop j)[0]? = some x := by rw [h.rest, List.getElem?_drop]; simpa using hx
 rw [List.getElem?_drop] at h0
 simpa using h0
theorem DelAt.skip {W0 W : World} {B g cap i j : Nat} {l cur : List Nat} (h : DelAt W0 W B g cap l i j cur) {x : Nat} (hx : l[j]? = some x) (hq : nz (cb x) = false) : DelAt W0 W B g cap l i (j + 1) cur :=
 ⟨h.row, h.len, by rw [h.head, fnz_take hx, hq]; simp, by rw [← List.drop_drop, h.rest, List.drop_drop], by have := h.lt; omega, h.own⟩
theorem DelAt.put {W0 W : World} {B g cap i j : Nat} {l cur : List Nat} (h : DelAt W0 W B g cap l i j cur) {x : Nat} (hx : l[j]? = some x) (hq : nz (cb x) = true) :
  DelAt W0 (W.setCell ⟨g, i, none⟩ (.float .f64 x)) B g cap l (i + 1) (j + 1) (cur.set i x) := by
 have hj : j < l.length := (List.getElem?_eq_some_iff.1 hx).1
 have hl := h.lt
 obtain ⟨s1, s2⟩ := h.row.stored i (.float .f64 x)
 rw [fvs_set] at s1
 refine ⟨s1, by rw [List.length_set]; exact h.len, ?_, ?_, by omega, grown_thenG h.own s2⟩
 ·rw [fnz_take hx, hq, ← h.head, List.take_add_one, List.take_set_of_le (Nat.le_refl _), List.getElem?_set_self (by rw [h.len]; omega)]
  simp
 ·rw [List.drop_set, if_pos (by omega), ← List.drop_drop, h.rest, List.drop_drop]
theorem DelAt.cell {W0 W : World} {B g cap i j : Nat} {l cur : List Nat} (h : DelAt W0 W B g cap l i j cur) {k : Nat} (hk : k < l.length) : ∃ x, cur[k]? = some x ∧ W.cell? ⟨g, k, none⟩ = some (.float .f64 x) ∧ W.frozen? ⟨g, k, none⟩ = false := by
 obtain ⟨x, hx⟩ := some_at (show k < cur.length by rw [h.len]; exact hk)
 refine ⟨x, hx, ?_, h.row.frozenAt k⟩
 rw [h.row.cellAt k (by omega)]
 simp [fvs, hx]
theorem grown_setCells (g : Nat) : ∀ (vs : List Value) (o : Nat) (w : World), w.grownBy (w.setCells g o vs) (some g)
 | [], _, _ => World.grownBy.refl _ _
 | v :: vs, o, w => grown_thenG (only_set w g o v) (grown_setCells g vs (o + 1) (w.setCell ⟨g, o, none⟩ v))
set_option maxHeartbeats 8000000 in
theorem delF_c (A : Option Addr) (cap : Nat) (l : List Nat) (hl : l.length ≤ 100000) (hw : Re.Words l) (B : Nat) (w : World) (hown : w.ownsRow B 49 1 (.slice A l.length cap) l.length (fvs l)) :
  Calls Tryz.prog 58 #[.slice A l.length cap, .func (.func 60) #[] #[]] w fun e w' => ∃ cap', e = .returned (.slice A (fnz l).length cap') ∧ At w' w'.heap.size A (fvs (fnz l)) ∧ w.grownBy w' (Value.slice A l.length cap).ownBlock := by
 have hat : At w w.heap.size A (fvs l) := by
  obtain ⟨A', cap', e9, ha, -, -⟩ := own_at hown
  injection e9 with e1 _ _
  subst e1
  exact ha
 have hidx := indexF_c A cap l hl hw w hat
 obtain ⟨R, hR⟩ : ∃ R, ixN l = R := ⟨_, rfl⟩
 unfold ixI at hidx
 rw [hR] at hidx
 have HR := Lib.hid hR
 have HI := Lib.hid hidx
 have HO := Lib.hid hown
 have HAT := Lib.hid hat
 have HW := Lib.hid hw
 clear hR hidx hown hat hw
 cases R with
 | none =>
  simp only at HI
  have hf := fnz_all HR.out
  rw [hf]
  go_enter Tryz.func58, Tryz.ntmps58
  go_wp2_with fail
  refine HI.out.mono ?_
  rintro e w1 ⟨rfl, hb⟩
  go_wp2_with fail
  go_ret
  exact ⟨cap, rfl, HAT.out.keep hb, ⟨hb.os, hb.tape, hb.output, hb.size, fun i hi _ => hb.block i hi⟩⟩
 | some i0 =>
  simp only at HI
  obtain ⟨hi0, hf0⟩ := ixN_first HR.out
  obtain ⟨g, hA⟩ : ∃ g, A = some ⟨g, 0, none⟩ := by
   rcases HO.out.2 with ⟨e, h0⟩ | ⟨g, cp, cur, e, _⟩
   ·injection e with e1 e2 e3
    omega
   ·injection e with e1 e2 e3
    exact ⟨g, e1⟩
  subst hA
  have hcap : l.length ≤ cap := by
   obtain ⟨A', cap', e9, _, _, hc⟩ := own_at HO.out
   injection e9 with _ _ e3
   omega
  have HF0 := Lib.hid hf0
  have eg := eg_nought
  clear hf0
  go_enter Tryz.func58, Tryz.ntmps58
  go_wp2_with fail
  refine HI.out.mono ?_
  rintro e w1 ⟨rfl, hb⟩
  have D1 : Hid (DelAt w w1 B g cap l i0 (i0 + 1) l) := Lib.hid ⟨below_ownI HO.out hb, rfl, HF0.out.symm, rfl, by omega, only_below hb g⟩
  have hne : ((i0 : Int) == -1) = false := by rw [beq_eq_false_iff_ne]; omega
  clear hb
  go_wp2_with fail
  clear hne
  go_loopw [5, 6] (fun a b wr => ∃ (i j : Nat) (cur : List Nat), a = .int .i64 (i : Int) ∧ b = .int .i64 (j : Int) ∧ j ≤ l.length ∧ DelAt w wr B g cap l i j cur) (fun _ b _ => l.length - (Go.RowKit.intOf b).toNat)
  case atStart => exact ⟨i0, i0 + 1, l, rfl, by go_num, by omega, D1.out⟩
  case round =>
   clear D1
   obtain ⟨i, j, cur, rfl, rfl, hj, hd⟩ := hrel
   have HD := Lib.hid hd
   have hij := hd.lt
   clear hd
   by_cases hlt : j < l.length
   ·obtain ⟨x, hx⟩ := some_at hlt
    have hji : (0 : Int) ≤ (j : Int) := by omega
    have hjl : (j : Int) < (l.length : Int) := by omega
    have hcx := HD.out.at_ hx
    obtain ⟨x', hx', c0, -⟩ := HD.out.cell hlt
    rw [hcx] at hx'
    injection hx' with hx'
    subst hx'
    have hcall := nought_w x (HW.out x (mem_at hx)) wr
    obtain ⟨q, hq⟩ : ∃ q, nz (cb x) = q := ⟨_, rfl⟩
    rw [hq] at hcall
    have HX := Lib.hid hx
    have HQ := Lib.hid hq
    have HCA := Lib.hid hcall
    clear hx hq hcall hcx
    cases q with
    | false =>
     go_wp2_with (go_at_fn 60; refine HCA.out.mono ?_; rintro e w2 ⟨rfl, hb2⟩)
     go_roundw
     case rel => exact ⟨i, j + 1, cur, rfl, by go_num, by omega, (HD.out.below hb2).skip HX.out HQ.out⟩
     case measure => simp only [Go.RowKit.intOf]; omega
    | true =>
     have hii : (0 : Int) ≤ (i : Int) := by omega
     have hil : (i : Int) < (l.length : Int) := by omega
     go_wp2_with (go_at_fn 60; refine HCA.out.mono ?_; rintro e w2 ⟨rfl, hb2⟩; have HD2 := Lib.hid (HD.out.below hb2); obtain ⟨y, -, k0, k1⟩ := HD2.out.cell (k := i) (by omega))
     go_roundw
     case rel => exact ⟨i + 1, j + 1, cur.set i x, by go_num, by go_num, by omega, HD2.out.put HX.out HQ.out⟩
     case measure => simp only [Go.RowKit.intOf]; omega
   ·obtain rfl : j = l.length := by omega
    have hh := HD.out.head
    rw [List.take_length] at hh
    have hfl : (fnz l).length = i := by rw [← hh, List.length_take, HD.out.len]; omega
    have hcl : ∀ (ty : TypeId) (c : Nat), (Builtin.clear_ #[23] ty #[.slice (some ⟨g, i, none⟩) (l.length - i) c]).run Tryz.prog wr = .ok (.tuple #[]) (wr.setCells g i (List.replicate (l.length - i) (.float .f64 0))) := fun ty c =>
     Lib.run_clear_slice wr 23 49 ty (.float .f64 0) Tryz.underlying23 Tryz.zeroValue49 rfl rfl g i (l.length - i) c (by omega)
      (fun q hq => by obtain ⟨y, -, k0, -⟩ := HD.out.cell (k := i + q) (by omega); rw [k0]; rfl)
      (fun q hq => by obtain ⟨y, -, -, k1⟩ := HD.out.cell (k := i + q) (by omega); exact k1)
    have hi1 : (0 : Int) ≤ (i : Int) := by omega
    have hi2 : (i : Int) ≤ (l.length : Int) := by omega
    have hi3 : (i : Int) ≤ (cap : Int) := by omega
    have hi4 : (i : Int) < (cap : Int) := by omega
    have HH := Lib.hid hh
    have HFL := Lib.hid hfl
    clear hh hfl
    go_wp2_with fail
    go_ret
    rw [HFL.out]
    refine ⟨cap, rfl, fun q v hv => ?_, ?_⟩
    ·have hq : q < i := by
      have := (List.getElem?_eq_some_iff.1 hv).1
      unfold fvs at this
      rw [List.length_map, HFL.out] at this
      exact this
     have hcell : (wr.setCells g i (List.replicate (l.length - i) (.float .f64 0))).cell? ⟨g, 0 + q, none⟩ = some v := by
      rw [World.cell?_setCells_out g _ _ _ _ (fun _ _ => .inl (by simp only; omega)), Nat.zero_add]
      rw [HD.out.row.cellAt q (by omega), ← hv, ← HH.out]
      unfold fvs
      rw [List.map_take, List.getElem?_take_of_lt hq]
     exact ⟨g, 0, rfl, World.block_lt_of_cell? _ _ hcell, hcell⟩
    ·exact grown_thenG HD.out.own (grown_setCells g _ _ _)
end Go.Proofs.YtojhenpaeedimaaGreat
end
