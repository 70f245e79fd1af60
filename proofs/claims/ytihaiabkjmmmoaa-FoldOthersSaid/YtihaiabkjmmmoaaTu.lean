/-
  The parent of a node: the program's.
-/
import Derived.Test.YtihaiabkjmmmoaaTt
namespace Go.Proofs.Ytihaiabkjmmmoaa
open Go.RowKit Go.IntWalk
open Fl
set_option maxRecDepth 100000
attribute [local go_sem] Oper.semAt_some

theorem cut_fnd {l : List Rw} {c : Int} {i : Nat} (hs : ascB l = true) (h : Cut l c i) : (∃ x, l[i]? = some x ∧ ch x = c ∧ fnd l c = some x) ∨ ((¬ ∃ x, l[i]? = some x ∧ ch x = c) ∧ fnd l c = none) := by
  have hno : ∀ x ∈ l.take i, (ch x == c) = false := fun x hx => by have := h.lo x hx; simp; omega
  have e : fnd l c = (l.drop i).find? (fun r => ch r == c) := by
    unfold fnd
    rw [show l.find? (fun r => ch r == c) = (l.take i ++ l.drop i).find? (fun r => ch r == c) by rw [List.take_append_drop], List.find?_append, List.find?_eq_none.2 (fun x hx => by rw [hno x hx]; simp)]
    rfl
  rw [e]
  by_cases hx : ∃ x, l[i]? = some x ∧ ch x = c
  · obtain ⟨x, hx, hc⟩ := hx
    refine .inl ⟨x, hx, hc, ?_⟩
    obtain ⟨hi, e2⟩ := List.getElem?_eq_some_iff.1 hx
    rw [List.drop_eq_getElem_cons hi, e2, List.find?_cons_of_pos (by simpa using hc)]
  · refine .inr ⟨hx, List.find?_eq_none.2 fun y hy => ?_⟩
    obtain ⟨k, hk, e2⟩ := List.mem_iff_getElem.1 hy
    rw [List.length_drop] at hk
    have hky : l[i + k]? = some y := by rw [← List.getElem?_drop, List.getElem?_eq_getElem (by rw [List.length_drop]; exact hk), e2]
    obtain ⟨z, hz⟩ := some_at (show i < l.length by omega)
    have h1 := h.hi i z (Nat.le_refl _) hz
    have h2 := asc_le hs (show i ≤ i + k by omega) hz hky
    intro hc
    exact hx ⟨z, hz, by simp at hc; omega⟩

def parV (l : List Rw) (c : Int) : Int := ((fnd l c).map pa).getD 0
def parB (l : List Rw) (c : Int) : Bool := (fnd l c).isSome

set_option maxHeartbeats 4000000 in
theorem parent_c (A : Option Addr) (cap : Nat) (l : List Rw) (c : Int) (hl : l.length ≤ 100000) (hs : ascB l = true) (w : World) (hc : At w w.heap.size A (tvs l)) :
    Calls Try.prog 102 #[.slice A l.length cap, .int .i64 c] w fun e w' => e = .returned (.tuple #[.int .i64 (parV l c), .bool (parB l c)]) ∧ Below w.heap.size w w' := by
  have HC := Lib.hid hc
  have HS := Lib.hid hs
  clear hc hs
  go_enter Try.func102, Try.ntmps102
  go_wp2_with fail
  refine (bsearch_c A cap l c hl HS.out _ HC.out).mono ?_
  rintro e w1 ⟨i, b, rfl, hcut, hb, hb1⟩
  rcases cut_fnd HS.out hcut with ⟨x, hx, hxc, hf⟩ | ⟨hno, hf⟩
  · have hbt : b = true := hb.2 ⟨x, hx, hxc⟩
    subst hbt
    have hcw := HC.out.keep hb1
    obtain ⟨b0, o0, rfl, -, c0, c1, -⟩ := row_cells hcw hx
    have hi0 : (0 : Int) ≤ (i : Int) := by omega
    have hil : (i : Int) < (l.length : Int) := by have := (List.getElem?_eq_some_iff.1 hx).1; omega
    have HF := Lib.hid hf
    clear hb hcut hx hxc hf
    go_wp2_with fail
    refine bodyPost_ret (v := .tuple #[.int .i64 (pa x), .bool true]) (by simp [results, Try.f102, go_sem]) rfl ?_
    exact ⟨by unfold parV parB; rw [HF.out]; rfl, hb1⟩
  · have hbf : b = false := by
      cases b with
      | false => rfl
      | true => exact absurd (hb.1 rfl) hno
    subst hbf
    have HF := Lib.hid hf
    clear hb hcut hno hf
    go_wp2_with fail
    refine bodyPost_ret (v := .tuple #[.int .i64 0, .bool false]) (by simp [results, Try.f102, go_sem]) rfl ?_
    exact ⟨by unfold parV parB; rw [HF.out]; rfl, hb1⟩
end Go.Proofs.Ytihaiabkjmmmoaa
