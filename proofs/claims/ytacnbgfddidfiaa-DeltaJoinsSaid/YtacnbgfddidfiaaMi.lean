/-
  Plain mathematics of layer 5: two lists, one behind the other. No Go.
-/
import Derived.Test.YtacnbgfddidfiaaMh
namespace Go.Proofs.Ytacnbgfddidfiaa.Pk

theorem prs_app (l : List Int) : ∀ (a z : Int) (m : List Int), prs a ((l ++ [z]) ++ m) = prs a (l ++ [z]) ++ prs z m := by
  induction l with
  | nil => intro a z m; rfl
  | cons x l ih => intro a z m; simp only [List.cons_append, prs]; rw [ih]
theorem dl_app (a z : Int) (l m : List Int) : dl a ((l ++ [z]) ++ m) = dl a (l ++ [z]) ++ dl z m := by
  unfold dl
  rw [prs_app, List.map_append]
theorem encL_app (z : Int) (l m : List Int) : encL ((l ++ [z]) ++ m) = encL (l ++ [z]) ++ encD (dl z m) := by
  unfold encL
  rw [dl_app, encD_app]
theorem rs_app (l : List Int) : ∀ (a z : Int) (m : List Int), rs a ((l ++ [z]) ++ m) = (rs a (l ++ [z]) && rs z m) := by
  induction l with
  | nil => intro a z m; simp [rs]
  | cons x l ih => intro a z m; simp only [List.cons_append, rs]; rw [ih, Bool.and_assoc]
theorem rises_app (z y : Int) (l m : List Int) : rises ((l ++ [z]) ++ (y :: m)) = (rises (l ++ [z]) && rises (y :: m) && decide (z < y)) := by
  cases l with
  | nil => simp only [List.nil_append, List.cons_append, rises, rs]; cases decide (z < y) <;> simp
  | cons x l =>
    simp only [List.cons_append, rises]
    rw [rs_app l x z (y :: m)]
    simp only [rs]
    cases rs x (l ++ [z]) <;> cases rs y m <;> cases decide (z < y) <;> rfl
theorem split_last {l : List Int} {k : Nat} (h : l.length = k + 1) {z : Int} (hz : l[k]? = some z) : ∃ l', l = l' ++ [z] := by
  refine ⟨l.take k, ?_⟩
  have := List.take_add_one (l := l) (i := k)
  rw [List.take_of_length_le (by omega), hz] at this
  exact this
end Go.Proofs.Ytacnbgfddidfiaa.Pk
