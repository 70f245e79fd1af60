/-
 Who is reached, put in order and each once: plain.
 Who is reached: the way's end, and the path: plain.
-/
import Derived.Test.YtkobmnbjeppnaaaGreatQa
import Derived.Lib.SlicesCompact
import Derived.Test.YtkobmnbjeppnaaaGreatXf
import Derived.Test.YtkobmnbjeppnaaaGreatQf
section
namespace Go.Proofs.YtkobmnbjeppnaaaGreat
set_option maxRecDepth 100000
theorem compact_up (d : Array Int) (hs : ∀ i j, i ≤ j → j < d.size → d[i]! ≤ d[j]!) : ∀ m, m ≤ d.size → (Lib.compactUpTo d m).Pairwise (· < ·) ∧ ∀ x, x ∈ Lib.compactUpTo d m ↔ ∃ j, j < m ∧ d[j]! = x
 | 0, _ => ⟨by simp [Lib.compactUpTo], fun x => by simp [Lib.compactUpTo]⟩
 | m + 1, hm => by
  obtain ⟨ih1, ih2⟩ := compact_up d hs m (by omega)
  rw [Lib.compactUpTo_succ]
  cases hk : Lib.keeps d m with
  | true =>
   simp only [if_true]
   refine ⟨List.pairwise_append.2 ⟨ih1, List.pairwise_singleton _ _, fun a ha b hb => ?_⟩, fun x => ?_⟩
   ·rw [List.mem_singleton] at hb
    subst hb
    obtain ⟨j, hj, rfl⟩ := (ih2 a).1 ha
    have h1 := hs j (m - 1) (by omega) (by omega)
    have h2 := hs (m - 1) m (by omega) (by omega)
    unfold Lib.keeps at hk
    have h3 := of_decide_eq_true hk
    rcases h3 with h3 | h3
    ·omega
    ·omega
   ·rw [List.mem_append, ih2, List.mem_singleton]
    constructor
    ·rintro (⟨j, hj, e⟩ | e)
     ·exact ⟨j, by omega, e⟩
     ·exact ⟨m, by omega, e.symm⟩
    ·rintro ⟨j, hj, e⟩
     by_cases hjm : j = m
     ·subst hjm; exact .inr e.symm
     ·exact .inl ⟨j, by omega, e⟩
  | false =>
   simp only [Bool.false_eq_true, if_false, List.append_nil]
   refine ⟨ih1, fun x => ?_⟩
   rw [ih2]
   unfold Lib.keeps at hk
   have h3 := of_decide_eq_false hk
   constructor
   ·rintro ⟨j, hj, e⟩
    exact ⟨j, by omega, e⟩
   ·rintro ⟨j, hj, e⟩
    by_cases hjm : j = m
    ·subst hjm
     by_cases h0 : j = 0
     ·exact absurd (.inl h0) h3
     ·refine ⟨j - 1, by omega, ?_⟩
      by_cases h4 : d[j]! = d[j - 1]!
      ·rw [← h4]; exact e
      ·exact absurd (.inr h4) h3
    ·exact ⟨j, by omega, e⟩
/-- numbers sorted, and each kept once: as if each were put among those before it -/
theorem compact_sort {ss xs : List Int} (hp : ss.Perm (0 :: xs)) : Lib.compact (ss.mergeSort (fun x y => decide (x ≤ y))) = putsI [0] xs := by
 have hs := List.pairwise_mergeSort (le := fun x y : Int => decide (x ≤ y)) (fun a b c h1 h2 => by simp at *; omega) (fun a b => by simp; omega) ss
 have hpm := (List.mergeSort_perm ss (fun x y : Int => decide (x ≤ y))).trans hp
 generalize ss.mergeSort (fun x y => decide (x ≤ y)) = q at hs hpm
 have hq : ∀ i j, i ≤ j → j < q.toArray.size → q.toArray[i]! ≤ q.toArray[j]! := fun i j hij hj => by
  have hj' : j < q.length := by simpa using hj
  rcases Nat.lt_or_eq_of_le hij with h | h
  ·have := List.pairwise_iff_getElem.1 hs i j (by omega) hj' h
   rw [getElem!_pos q.toArray i (by simp; omega), getElem!_pos q.toArray j hj]
   simpa using this
  ·subst h; exact Int.le_refl _
 obtain ⟨h1, h2⟩ := compact_up q.toArray hq q.length (by simp)
 refine asc_unique h1 (putsI_asc (List.pairwise_singleton _ _)) fun x => ?_
 rw [show Lib.compact q = Lib.compactUpTo q.toArray q.length from rfl] at *
 rw [h2, putsI_mem, List.mem_singleton, ← List.mem_cons, ← hpm.mem_iff, List.mem_iff_getElem]
 constructor
 ·rintro ⟨j, hj, e⟩
  refine ⟨j, hj, ?_⟩
  rw [getElem!_pos q.toArray j (by simpa using hj)] at e
  simpa using e
 ·rintro ⟨j, hj, e⟩
  refine ⟨j, hj, ?_⟩
  rw [getElem!_pos q.toArray j (by simpa using hj)]
  simpa using e
/-- who is reached, as the program finds them -/
def goodR (l : List Rw) : List Int := (l.filter fun r => (wayR l (ch r)).isSome).map ch
theorem reachR_puts (l : List Rw) : reachR l = putsI [0] (goodR l) := by
 unfold reachR goodR
 generalize h : wayR l = f
 have : reachG l = fun o r => if (f (ch r)).isSome then insI o (ch r) else o := by funext o r; rw [← h]; rfl
 rw [this]
 generalize [(0 : Int)] = o
 clear this h
 induction l generalizing o with
 | nil => rfl
 | cons r t ih =>
  rw [List.foldl_cons, ih, List.filter_cons]
  split
  ·rfl
  ·rfl
theorem reachR_sorted {l : List Rw} {ss : List Int} (hp : ss.Perm (0 :: goodR l)) : Lib.compact (ss.mergeSort (fun x y => decide (x ≤ y))) = reachR l := by
 rw [compact_sort hp, reachR_puts]
end Go.Proofs.YtkobmnbjeppnaaaGreat
end
section
namespace Go.Proofs.YtkobmnbjeppnaaaGreat
set_option maxRecDepth 100000
theorem path_end (l : List Rw) : ∀ (n : Nat) (c : Int), (pathC l n c).isSome = decide (endN l n c = (0, true))
 | 0, c => rfl
 | n + 1, c => by
  unfold pathC endN
  cases hf : fnd l c with
  | none =>
   have hp : parB l c = false := by unfold parB; rw [hf]; rfl
   rw [hp]
   by_cases h : c = 0
   ·subst h; simp
   ·simp [h]
  | some r =>
   have hp : parB l c = true := by unfold parB; rw [hf]; rfl
   have hv : parV l c = pa r := by unfold parV; rw [hf]; rfl
   rw [hp, hv]
   simp only [if_true, Option.isSome_map]
   exact path_end l n (pa r)
theorem way_end (l : List Rw) (c : Int) : (wayR l c).isSome = decide (endE l c = (0, true)) := by
 rw [wayR_path, path_end]; rfl
theorem goodR_end (l : List Rw) : goodR l = (l.filter fun r => decide (endE l (ch r) = (0, true))).map ch := by
 unfold goodR
 congr 1
 exact List.filter_congr fun r _ => way_end l (ch r)
end Go.Proofs.YtkobmnbjeppnaaaGreat
end
