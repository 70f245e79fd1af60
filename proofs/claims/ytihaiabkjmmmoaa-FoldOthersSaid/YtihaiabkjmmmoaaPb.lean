/-
  Rows sorted by their children, those of one child as they were, plain.
-/
import Derived.Test.YtihaiabkjmmmoaaTs
import Derived.Test.YtihaiabkjmmmoaaGb
namespace Go.Proofs.Ytihaiabkjmmmoaa
open Fl

def insS (x : Rw) : List Rw → List Rw
  | [] => [x]
  | y :: t => if ch x ≤ ch y then x :: y :: t else y :: insS x t
/-- the stable order -/
def srt : List Rw → List Rw
  | [] => []
  | x :: t => insS x (srt t)
theorem insS_len (x : Rw) : ∀ l : List Rw, (insS x l).length = l.length + 1
  | [] => rfl
  | y :: t => by
    unfold insS
    split
    · rfl
    · simp [insS_len x t]
theorem srt_len : ∀ l : List Rw, (srt l).length = l.length
  | [] => rfl
  | x :: t => by rw [srt, insS_len, srt_len t, List.length_cons]
theorem insS_mem {x z : Rw} : ∀ {l : List Rw}, z ∈ insS x l ↔ z = x ∨ z ∈ l
  | [] => by simp [insS]
  | y :: t => by
    unfold insS
    split
    · simp
    · simp only [List.mem_cons, insS_mem (l := t)]
      constructor
      · rintro (h | h | h) <;> simp [h]
      · rintro (h | h | h) <;> simp [h]
theorem srt_mem {z : Rw} : ∀ {l : List Rw}, z ∈ srt l ↔ z ∈ l
  | [] => Iff.rfl
  | x :: t => by rw [srt, insS_mem, srt_mem, List.mem_cons]
theorem asc_cons {x y : Rw} {t : List Rw} : ascB (x :: y :: t) = true ↔ ch x ≤ ch y ∧ ascB (y :: t) = true := by
  rw [show ascB (x :: y :: t) = (decide (ch x ≤ ch y) && ascB (y :: t)) from rfl, Bool.and_eq_true, decide_eq_true_iff]
theorem insS_asc (x : Rw) : ∀ {l : List Rw}, ascB l = true → ascB (insS x l) = true
  | [], _ => rfl
  | y :: t, h => by
    unfold insS
    split
    · rename_i hc
      exact asc_cons.2 ⟨hc, h⟩
    · rename_i hc
      have ih := insS_asc x (asc_tail h)
      cases t with
      | nil => exact asc_cons.2 ⟨by omega, rfl⟩
      | cons z t =>
        unfold insS at ih ⊢
        have h2 := asc_cons.1 h
        by_cases hz : ch x ≤ ch z
        · rw [if_pos hz] at ih ⊢
          exact asc_cons.2 ⟨by omega, ih⟩
        · rw [if_neg hz] at ih ⊢
          exact asc_cons.2 ⟨h2.1, ih⟩
theorem srt_asc : ∀ l : List Rw, ascB (srt l) = true
  | [] => rfl
  | x :: t => insS_asc x (srt_asc t)
theorem insS_fnd (x : Rw) (c : Int) : ∀ l : List Rw, fnd (insS x l) c = if ch x = c then some x else fnd l c
  | [] => by unfold insS; rw [fnd_cons]
  | y :: t => by
    unfold insS
    split
    · rw [fnd_cons]
    · rw [fnd_cons, insS_fnd x c t, fnd_cons]
      by_cases h1 : ch y = c
      · rw [if_pos h1, if_neg (by omega), if_pos h1]
      · rw [if_neg h1, if_neg h1]
theorem srt_fnd (c : Int) : ∀ l : List Rw, fnd (srt l) c = fnd l c
  | [] => rfl
  | x :: t => by rw [srt, insS_fnd, srt_fnd c t, fnd_cons]
theorem srt_id : ∀ {l : List Rw}, ascB l = true → srt l = l
  | [], _ => rfl
  | x :: t, h => by
    rw [srt, srt_id (asc_tail h)]
    cases t with
    | nil => rfl
    | cons y t => rw [insS, if_pos (asc_cons.1 h).1]
theorem asc_of_AscR : ∀ {l : List Rw}, AscR l → ascB l = true
  | [], _ => rfl
  | [_], _ => rfl
  | x :: y :: t, h => asc_cons.2 ⟨Int.le_of_lt ((List.pairwise_cons.1 h).1 y (by simp)), asc_of_AscR (List.pairwise_cons.1 h).2⟩
end Go.Proofs.Ytihaiabkjmmmoaa
