/-
  Plain mathematics of layer 7: how many flags any lengths spread to, if they are lengths of a list. No Go.
-/
import Derived.Test.YtiehmeheilfocaaMs
namespace Go.Proofs.Ytiehmeheilfocaa.Pk

/-- what is left of most, behind lengths that may be those from the i-th on; one: whether there is just one -/
def szR : Nat → Bool → List Int → Int → Option Int
  | _, _, [], left => if left < 0 then none else some left
  | i, one, x :: r, left => if x < 0 ∨ (x = 0 ∧ (0 < i ∨ one = true)) then none else if left < x then none else szR (i + 1) one r (left - x)
def sprI (r : List Int) : List Bool := sprB false (r.map Int.toNat)
/-- P7.2 -/
def sprF (r : List Int) (most : Int) : List Bool × Bool := match szR 0 (decide (r.length = 1)) r most with
  | none => ([], false)
  | some _ => (sprI r, true)
def par (k : Nat) : Bool := decide (k % 2 = 1)
theorem par_succ (k : Nat) : par (k + 1) = !par k := by
  unfold par
  by_cases h : k % 2 = 1
  · have : ¬ (k + 1) % 2 = 1 := by omega
    simp [h, this]
  · have : (k + 1) % 2 = 1 := by omega
    simp [h, this]

theorem sprF_none {r : List Int} {most : Int} (h : szR 0 (decide (r.length = 1)) r most = none) : sprF r most = ([], false) := by unfold sprF; rw [h]
theorem sprF_some {r : List Int} {most z : Int} (h : szR 0 (decide (r.length = 1)) r most = some z) : sprF r most = (sprI r, true) := by unfold sprF; rw [h]
theorem szR_nil {i : Nat} {one : Bool} {left : Int} : szR i one [] left = if left < 0 then none else some left := rfl
theorem drop_one {α : Type} {l : List α} {k : Nat} {x : α} (h : l[k]? = some x) : l.drop k = x :: l.drop (k + 1) := by
  obtain ⟨hlt, rfl⟩ := List.getElem?_eq_some_iff.1 h
  exact List.drop_eq_getElem_cons hlt
theorem szR_bad {r : List Int} {k : Nat} {one : Bool} {x left : Int} (h : r[k]? = some x) (hb : x < 0 ∨ (x = 0 ∧ (0 < k ∨ one = true))) : szR k one (r.drop k) left = none := by
  rw [drop_one h, szR, if_pos hb]
theorem szR_far {r : List Int} {k : Nat} {one : Bool} {x left : Int} (h : r[k]? = some x) (hb : left < x) : szR k one (r.drop k) left = none := by
  rw [drop_one h, szR]
  split
  · rfl
  · rfl
theorem szR_step {r : List Int} {k : Nat} {one : Bool} {x left : Int} (h : r[k]? = some x) (hb : ¬ (x < 0 ∨ (x = 0 ∧ (0 < k ∨ one = true)))) (hl : ¬ left < x) : szR k one (r.drop k) left = szR (k + 1) one (r.drop (k + 1)) (left - x) := by
  rw [drop_one h, szR, if_neg hb, if_neg hl]
theorem szR_end {r : List Int} {one : Bool} {left : Int} : szR r.length one (r.drop r.length) left = if left < 0 then none else some left := by rw [List.drop_length]; rfl
theorem szR_some (r : List Int) : ∀ i one left z, szR i one r left = some z → (∀ x ∈ r, 0 ≤ x) ∧ 0 ≤ z ∧ ∀ f, ((sprB f (r.map Int.toNat)).length : Int) = left - z := by
  induction r with
  | nil =>
    intro i one left z h
    rw [szR_nil] at h
    split at h
    · simp at h
    · injection h with h
      subst h
      exact ⟨by simp, by omega, fun f => by simp [sprB]⟩
  | cons x r ih =>
    intro i one left z h
    rw [szR] at h
    split at h
    · simp at h
    · rename_i h1
      rw [not_or] at h1
      split at h
      · simp at h
      · obtain ⟨a, b, c⟩ := ih _ _ _ _ h
        refine ⟨?_, b, fun f => ?_⟩
        · intro y hy
          rcases List.mem_cons.1 hy with rfl | hy
          · omega
          · exact a y hy
        · rw [List.map_cons, sprB_cons, List.length_append, List.length_replicate]
          have := c (!f)
          omega
theorem szR_pos (r : List Nat) : ∀ i one (left : Int), posN r → (r.sum : Int) ≤ left → szR i one (r.map fun (n : Nat) => (n : Int)) left = some (left - r.sum) := by
  induction r with
  | nil => intro i one left _ h; simp at h; rw [List.map_nil, szR_nil, if_neg (by omega)]; simp
  | cons x r ih =>
    intro i one left hp h
    have hx := hp x (by simp)
    rw [List.sum_cons] at h
    rw [List.map_cons, szR, if_neg (by omega), if_neg (by omega), ih _ _ _ (fun y hy => hp y (by simp [hy])) (by omega), List.sum_cons]
    congr 1
    omega
theorem int_nat (l : List Nat) : (l.map fun (n : Nat) => (n : Int)).map Int.toNat = l := by
  rw [List.map_map]
  have : (Int.toNat ∘ fun (n : Nat) => (n : Int)) = id := by funext n; simp
  rw [this, List.map_id]
/-- of lengths that are those of a list, or a 0 alone -/
theorem sprF_nat {l : List Nat} {n : Nat} (h : posN l.tail) (hs : l.sum ≤ n) : sprF (l.map fun (n : Nat) => (n : Int)) (n : Int) = if l = [0] then ([], false) else (sprB false l, true) := by
  by_cases h0 : l = [0]
  · rw [if_pos h0]; subst h0; rfl
  · rw [if_neg h0]
    have hi : sprI (l.map fun (n : Nat) => (n : Int)) = sprB false l := by unfold sprI; rw [int_nat]
    cases l with
    | nil => rw [sprF_some (z := (n : Int)) (by rw [List.map_nil, szR_nil, if_neg (by omega)])]; rfl
    | cons x r =>
      rw [List.sum_cons] at hs
      have := szR_pos r 1 (decide (((x :: r).map fun (n : Nat) => (n : Int)).length = 1)) ((n : Int) - x) h (by omega)
      rw [sprF_some (z := (n : Int) - x - r.sum), hi]
      rw [List.map_cons, szR, if_neg, if_neg (by omega)]
      · exact this
      · rintro (h1 | ⟨h1, h2⟩)
        · omega
        · have hx : x = 0 := by omega
          rcases h2 with h2 | h2
          · omega
          · simp at h2
            subst h2
            exact h0 (by rw [hx])
theorem sprB_none {l : List Nat} (h : posN l.tail) : sprB false l = [] ↔ l = [] ∨ l = [0] := by
  constructor
  · intro e
    cases l with
    | nil => exact .inl rfl
    | cons x r =>
      refine .inr ?_
      have := congrArg List.length e
      rw [sprB_len, List.sum_cons] at this
      have h2 := pos_len r h
      simp at this
      have hr : r = [] := List.eq_nil_of_length_eq_zero (by omega)
      rw [hr, this.1]
  · rintro (rfl | rfl) <;> rfl
theorem sprI_take {r : List Int} {k : Nat} {x : Int} (h : r[k]? = some x) : sprI (r.take (k + 1)) = sprI (r.take k) ++ List.replicate x.toNat (par k) := by
  have hk : k < r.length := (List.getElem?_eq_some_iff.1 h).1
  unfold sprI
  rw [List.take_add_one, h, List.map_append, sprB_app]
  congr 1
  rw [List.length_map, List.length_take, Nat.min_eq_left (by omega)]
  simp only [Option.toList_some, List.map_cons, List.map_nil]
  rw [sprB_cons, sprB_nil, List.append_nil]
  congr 1
theorem sprI_take_le (r : List Int) (k : Nat) : (sprI (r.take k)).length ≤ (sprI r).length := by
  have : r = r.take k ++ r.drop k := (List.take_append_drop k r).symm
  conv => rhs; unfold sprI; rw [this, List.map_append, sprB_app, List.length_append]
  unfold sprI
  omega
theorem sprF_short (r : List Int) (most : Int) (h : most ≤ 4096) : (sprF r most).1.length ≤ 4096 := by
  cases hz : szR 0 (decide (r.length = 1)) r most with
  | none => rw [sprF_none hz]; simp
  | some z =>
    rw [sprF_some hz]
    obtain ⟨_, h2, h3⟩ := szR_some _ _ _ _ _ hz
    have := h3 false
    show (sprI r).length ≤ 4096
    unfold sprI
    omega
end Go.Proofs.Ytiehmeheilfocaa.Pk
