/-
  Whole numbers in their order; who is reached: plain.
-/
import Derived.Test.YtbhejaokkkggjaaTl
namespace Go.Proofs.Ytbhejaokkkggjaa
open Go.RowKit Go.IntWalk
set_option maxRecDepth 100000

/-- a number put among others that stand in their order, once -/
def insI : List Int → Int → List Int
  | [], x => [x]
  | y :: t, x => if y < x then y :: insI t x else if y = x then y :: t else x :: y :: t
theorem insI_at {x : Int} : ∀ {o : List Int} {j : Nat}, j ≤ o.length → (∀ y ∈ o.take j, y < x) → (j = o.length ∨ ∃ y, o[j]? = some y ∧ ¬ y < x) →
    insI o x = if o[j]? = some x then o else o.take j ++ x :: o.drop j
  | [], j, hj, _, _ => by
    obtain rfl : j = 0 := by simpa using hj
    simp [insI]
  | y :: t, 0, _, _, hs => by
    rcases hs with hs | ⟨z, hz, hzn⟩
    · simp at hs
    · simp at hz
      subst hz
      rw [insI, if_neg hzn]
      by_cases he : y = x
      · subst he; simp
      · simp [he]
  | y :: t, j + 1, hj, hlo, hs => by
    have hyx : y < x := hlo y (by simp)
    rw [insI, if_pos hyx, insI_at (o := t) (j := j) (by simpa using hj) (fun z hz => hlo z (by simp [hz])) (by
      rcases hs with hs | ⟨z, hz, hzn⟩
      · left; simpa using hs
      · exact .inr ⟨z, by simpa using hz, hzn⟩)]
    simp only [List.getElem?_cons_succ, List.take_succ_cons, List.drop_succ_cons]
    split <;> rfl
def reachG (l : List Rw) (o : List Int) (r : Rw) : List Int := if (wayR l (ch r)).isSome then insI o (ch r) else o
def reachR (l : List Rw) : List Int := l.foldl (reachG l) [0]
theorem insI_len (x : Int) : ∀ o : List Int, (insI o x).length ≤ o.length + 1
  | [] => by simp [insI]
  | y :: t => by
    have := insI_len x t
    unfold insI
    split
    · simp; omega
    · split <;> simp
theorem insI_pos (x : Int) (o : List Int) : 0 < (insI o x).length := by
  cases o with
  | nil => simp [insI]
  | cons y t =>
    unfold insI
    split
    · simp
    · split <;> simp
theorem reachG_len (l : List Rw) (r : Rw) (o : List Int) (ho : 0 < o.length) : 0 < (reachG l o r).length ∧ (reachG l o r).length ≤ o.length + 1 := by
  unfold reachG
  split
  · exact ⟨insI_pos _ _, insI_len _ _⟩
  · exact ⟨ho, by omega⟩
theorem reach_step {l : List Rw} {k : Nat} {r : Rw} (h : l[k]? = some r) : (l.take (k + 1)).foldl (reachG l) [0] = reachG l ((l.take k).foldl (reachG l) [0]) r := by
  rw [List.take_add_one, h, List.foldl_append]; rfl
end Go.Proofs.Ytbhejaokkkggjaa
