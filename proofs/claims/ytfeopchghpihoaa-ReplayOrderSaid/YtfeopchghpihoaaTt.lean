/-
  A row is sought by halves: the program's.
  The parent of a node: the program's.
-/
import Derived.Test.YtfeopchghpihoaaTs
section
namespace Go.Proofs.Ytfeopchghpihoaa
open Go.RowKit Go.IntWalk
open Fl
set_option maxRecDepth 100000
attribute [local go_sem] Oper.semAt_some

theorem asc_le {l : List Rw} (h : ascB l = true) : ∀ {a b : Nat} {x y : Rw}, a ≤ b → l[a]? = some x → l[b]? = some y → ch x ≤ ch y := by
  intro a b
  induction b with
  | zero =>
    intro x y hab hx hy
    obtain rfl : a = 0 := by omega
    have := hx.symm.trans hy
    cases this
    exact Int.le_refl _
  | succ b ih =>
    intro x y hab hx hy
    by_cases he : a = b + 1
    · subst he
      have := hx.symm.trans hy
      cases this
      exact Int.le_refl _
    · obtain ⟨z, hz⟩ := some_at (show b < l.length by have := (List.getElem?_eq_some_iff.1 hy).1; omega)
      have h1 := ih (by omega) hx hz
      have h2 := asc_drop hz hy
      rw [asc_of_drop b h, asc_of_drop (b + 1) h, Bool.and_true] at h2
      have h3 := of_decide_eq_true h2.symm
      omega
/-- what a search by halves finds: all ahead are less, all behind are not -/
structure Cut (l : List Rw) (c : Int) (i : Nat) : Prop where
  le : i ≤ l.length
  lo : ∀ x ∈ l.take i, ch x < c
  hi : ∀ k x, i ≤ k → l[k]? = some x → c ≤ ch x
def BsEnd (l : List Rw) (c : Int) (w : World) (e : Ending) (w' : World) : Prop :=
  ∃ (i : Nat) (b : Bool), e = .returned (.tuple #[.int .i64 (i : Int), .bool b]) ∧ Cut l c i ∧ (b = true ↔ ∃ x, l[i]? = some x ∧ ch x = c) ∧ Below w.heap.size w w'

set_option maxHeartbeats 8000000 in
theorem bsearch_c (A : Option Addr) (cap : Nat) (l : List Rw) (c : Int) (hl : l.length ≤ 100000) (hs : ascB l = true) (w : World) (hc : At w w.heap.size A (tvs l)) :
    Calls Try.prog 102 #[.slice A l.length cap, .int .i64 c, .func (.func 103) #[] #[]] w (BsEnd l c w) := by
  have HC := Lib.hid hc
  have HS := Lib.hid hs
  clear hc hs
  go_enter Try.func102, Try.ntmps102
  go_wp2_with fail
  go_loopw [9, 10] (fun u v wr => ∃ i j : Nat, u = .int .i64 (i : Int) ∧ v = .int .i64 (j : Int) ∧ i ≤ j ∧ j ≤ l.length ∧ (∀ x ∈ l.take i, ch x < c) ∧ (∀ k x, j ≤ k → l[k]? = some x → c ≤ ch x) ∧ Below w.heap.size w wr) (fun u v _ => (intOf v).toNat - (intOf u).toNat)
  case atStart => exact ⟨0, l.length, rfl, rfl, Nat.zero_le _, Nat.le_refl _, (fun x hx => by simp at hx), (fun k x hk hx => by rw [List.getElem?_eq_none hk] at hx; cases hx), Below.refl _ _⟩
  case round =>
    obtain ⟨i, j, rfl, rfl, hij, hj, hlo, hhi, hbw⟩ := hrel
    have HLO := Lib.hid hlo
    have HHI := Lib.hid hhi
    clear hlo hhi
    by_cases hlt : i < j
    · obtain ⟨h, hh⟩ : ∃ h : Nat, h = (i + j) / 2 := ⟨_, rfl⟩
      have hw1 : IntKind.i64.wrap ((i : Int) + (j : Int)) = (i : Int) + (j : Int) := IntWalk.i64_in _ (by omega)
      have hhf : ((i : Int) + (j : Int)) / 2 = (h : Int) := by omega
      have hhi2 : i ≤ h := by omega
      have hhj : h < j := by omega
      obtain ⟨x, hx⟩ := some_at (show h < l.length by omega)
      have hcw := HC.out.keep hbw
      obtain ⟨b0, o0, rfl, -, c0, c1, c2, c3⟩ := row_cells hcw hx
      have hh0 : (0 : Int) ≤ (h : Int) := by omega
      have hhl : (h : Int) < (l.length : Int) := by omega
      have HX := Lib.hid hx
      have HH := Lib.hid hh
      clear hh hx
      by_cases hcmp : ch x < c
      · have hv : ci (ch x) c = -1 := by unfold ci; rw [if_pos hcmp]
        have HCM := Lib.hid hcmp
        have hcall := fun W => parF_c x c W
        rw [hv] at hcall
        unfold rv at hcall
        have HCA := Lib.hid hcall
        clear hcmp hv hcall
        go_wp2_with fail
        refine (HCA.out _).mono ?_
        rintro e w1 ⟨rfl, hb1⟩
        have hbw1 := hbw.trans (hb1.mono hbw.size)
        clear hb1
        go_wp2_with fail
        go_roundw
        case rel =>
          refine ⟨h + 1, j, by go_num, rfl, by omega, hj, ?_, HHI.out, hbw1⟩
          intro y hy
          obtain ⟨k, hk, e⟩ := List.mem_iff_getElem.1 hy
          rw [List.length_take] at hk
          have hky : l[k]? = some y := by rw [← e, List.getElem_take]; exact List.getElem?_eq_getElem _
          have := asc_le HS.out (show k ≤ h by omega) hky HX.out
          have := HCM.out
          omega
        case measure => simp only [intOf]; omega
      · have h0 : 0 ≤ ci (ch x) c := by unfold ci; rw [if_neg hcmp]; split <;> omega
        obtain ⟨d, hd⟩ : ∃ d, ci (ch x) c = d := ⟨_, rfl⟩
        rw [hd] at h0
        have hdd : decide (d < 0) = false := decide_eq_false (by omega)
        have HCM := Lib.hid hcmp
        have hcall := fun W => parF_c x c W
        rw [hd] at hcall
        unfold rv at hcall
        have HCA := Lib.hid hcall
        clear hcmp hcall hd
        go_wp2_with fail
        refine (HCA.out _).mono ?_
        rintro e w1 ⟨rfl, hb1⟩
        have hbw1 := hbw.trans (hb1.mono hbw.size)
        clear hb1
        go_wp2_with fail
        go_roundw
        case rel =>
          refine ⟨i, h, rfl, rfl, by omega, by omega, HLO.out, ?_, hbw1⟩
          intro k y hk hky
          have := asc_le HS.out hk HX.out hky
          have := HCM.out
          omega
        case measure => simp only [intOf]; omega
    · obtain rfl : j = i := by omega
      have HCUT := Lib.hid (Cut.mk (l := l) (c := c) hj HLO.out HHI.out)
      by_cases hil : j < l.length
      · obtain ⟨x, hx⟩ := some_at hil
        have hcw := HC.out.keep hbw
        obtain ⟨b0, o0, rfl, -, c0, c1, c2, c3⟩ := row_cells hcw hx
        have hd : decide (j < l.length) = true := decide_eq_true hil
        have hj0 : (0 : Int) ≤ (j : Int) := by omega
        have hjl : (j : Int) < (l.length : Int) := by omega
        obtain ⟨d, hdc⟩ : ∃ d, ci (ch x) c = d := ⟨_, rfl⟩
        obtain ⟨b, hde⟩ : ∃ b, (d == 0) = b := ⟨_, rfl⟩
        have hb : b = true ↔ ch x = c := by
          rw [← hde, ← hdc]
          unfold ci
          split
          · simp; omega
          · split
            · simp; omega
            · simp; omega
        have hcall := fun W => parF_c x c W
        rw [hdc] at hcall
        unfold rv at hcall
        have HCA := Lib.hid hcall
        have HB := Lib.hid hb
        have HX := Lib.hid hx
        clear hcall hb hx hdc
        go_wp2_with fail
        refine (HCA.out _).mono ?_
        rintro e w1 ⟨rfl, hb1⟩
        have hwq := hbw.trans (hb1.mono hbw.size)
        go_wp2_with fail
        refine bodyPost_ret (v := .tuple #[.int .i64 (j : Int), .bool b]) (by simp [results, Try.f102, go_sem]) rfl ?_
        refine ⟨j, b, rfl, HCUT.out, ⟨fun h => ⟨x, HX.out, HB.out.1 h⟩, fun ⟨y, hy, h⟩ => ?_⟩, hwq⟩
        have e := HX.out.symm.trans hy
        cases e
        exact HB.out.2 h
      · obtain rfl : j = l.length := by omega
        go_wp2_with fail
        refine bodyPost_ret (v := .tuple #[.int .i64 (l.length : Int), .bool false]) (by simp [results, Try.f102, go_sem]) rfl ?_
        refine ⟨l.length, false, rfl, HCUT.out, ?_, hbw⟩
        rw [List.getElem?_eq_none (Nat.le_refl _)]
        exact ⟨fun h => (by cases h), fun ⟨y, hy, _⟩ => (by cases hy)⟩
end Go.Proofs.Ytfeopchghpihoaa
end

section
namespace Go.Proofs.Ytfeopchghpihoaa
open Go.RowKit Go.IntWalk
open Fl
set_option maxRecDepth 100000
attribute [local go_sem] Oper.semAt_some

theorem cut_fnd {l : List Rw} {c : Int} {i : Nat} (hs : ascB l = true) (h : Cut l c i) : (∃ x, l[i]? = some x ∧ ch x = c ∧ fnd l c = some x) ∨ ((¬ ∃ x, l[i]? = some x ∧ ch x = c) ∧ fnd l c = none) := by
  have hno : ∀ x ∈ l.take i, (ch x == c) = false := fun x hx => by have := h.lo x hx; simp; omega
  have e : fnd l c = (l.drop i).find? (fun r => ch r == c) := by
    unfold fnd
    rw [show l.find? (fun r => ch r == c) = (l.take i ++ l.drop i).find? (fun r => ch r == c) by rw [List.take_append_drop], List.find?_append, List.find?_eq_none.2 (fun x hx => by rw [hno x hx]; simp)]
    rfl
  rw [e]
  by_cases hx : ∃ x, l[i]? = some x ∧ ch x = c
  · obtain ⟨x, hx, hc⟩ := hx
    refine .inl ⟨x, hx, hc, ?_⟩
    obtain ⟨hi, e2⟩ := List.getElem?_eq_some_iff.1 hx
    rw [List.drop_eq_getElem_cons hi, e2, List.find?_cons_of_pos (by simpa using hc)]
  · refine .inr ⟨hx, List.find?_eq_none.2 fun y hy => ?_⟩
    obtain ⟨k, hk, e2⟩ := List.mem_iff_getElem.1 hy
    rw [List.length_drop] at hk
    have hky : l[i + k]? = some y := by rw [← List.getElem?_drop, List.getElem?_eq_getElem (by rw [List.length_drop]; exact hk), e2]
    obtain ⟨z, hz⟩ := some_at (show i < l.length by omega)
    have h1 := h.hi i z (Nat.le_refl _) hz
    have h2 := asc_le hs (show i ≤ i + k by omega) hz hky
    intro hc
    exact hx ⟨z, hz, by simp at hc; omega⟩

def parV (l : List Rw) (c : Int) : Int := ((fnd l c).map pa).getD 0
def parB (l : List Rw) (c : Int) : Bool := (fnd l c).isSome

set_option maxHeartbeats 4000000 in
theorem parent_c (A : Option Addr) (cap : Nat) (l : List Rw) (c : Int) (hl : l.length ≤ 100000) (hs : ascB l = true) (w : World) (hc : At w w.heap.size A (tvs l)) :
    Calls Try.prog 87 #[.slice A l.length cap, .int .i64 c] w fun e w' => e = .returned (.tuple #[.int .i64 (parV l c), .bool (parB l c)]) ∧ Below w.heap.size w w' := by
  have HC := Lib.hid hc
  have HS := Lib.hid hs
  clear hc hs
  go_enter Try.func87, Try.ntmps87
  go_wp2_with fail
  refine (bsearch_c A cap l c hl HS.out _ HC.out).mono ?_
  rintro e w1 ⟨i, b, rfl, hcut, hb, hb1⟩
  rcases cut_fnd HS.out hcut with ⟨x, hx, hxc, hf⟩ | ⟨hno, hf⟩
  · have hbt : b = true := hb.2 ⟨x, hx, hxc⟩
    subst hbt
    have hcw := HC.out.keep hb1
    obtain ⟨b0, o0, rfl, -, c0, c1, -⟩ := row_cells hcw hx
    have hi0 : (0 : Int) ≤ (i : Int) := by omega
    have hil : (i : Int) < (l.length : Int) := by have := (List.getElem?_eq_some_iff.1 hx).1; omega
    have HF := Lib.hid hf
    clear hb hcut hx hxc hf
    go_wp2_with fail
    refine bodyPost_ret (v := .tuple #[.int .i64 (pa x), .bool true]) (by simp [results, Try.f87, go_sem]) rfl ?_
    exact ⟨by unfold parV parB; rw [HF.out]; rfl, hb1⟩
  · have hbf : b = false := by
      cases b with
      | false => rfl
      | true => exact absurd (hb.1 rfl) hno
    subst hbf
    have HF := Lib.hid hf
    clear hb hcut hno hf
    go_wp2_with fail
    refine bodyPost_ret (v := .tuple #[.int .i64 0, .bool false]) (by simp [results, Try.f87, go_sem]) rfl ?_
    exact ⟨by unfold parV parB; rw [HF.out]; rfl, hb1⟩
end Go.Proofs.Ytfeopchghpihoaa
end
