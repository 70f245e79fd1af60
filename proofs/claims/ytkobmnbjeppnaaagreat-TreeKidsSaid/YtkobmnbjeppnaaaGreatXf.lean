/-
 The way up from a node: of the program, and of the document: plain.
 The way up, as rows.up tells of it, and the path: plain.
 Who is above whom in a tree; a node hung elsewhere: plain.
-/
import Derived.Test.YtkobmnbjeppnaaaGreatPe
import Derived.Test.YtkobmnbjeppnaaaGreatQa
import Derived.Test.YtkobmnbjeppnaaaGreatPa
import Derived.Test.YtkobmnbjeppnaaaGreatGb
section
namespace Go.Proofs.YtkobmnbjeppnaaaGreat
set_option maxRecDepth 100000
/-- the way up, told from the end: c, its parent, and so on, till one has no row and is Root -/
def pathC (l : List Rw) : Nat → Int → Option (List Int)
 | 0, _ => none
 | n + 1, c => match fnd l c with
  | none => if c = 0 then some [c] else none
  | some r => (pathC l n (pa r)).map (c :: ·)
theorem pathC_mono {l : List Rw} : ∀ {n : Nat} {c : Int} {q : List Int}, pathC l n c = some q → ∀ m, n ≤ m → pathC l m c = some q
 | 0, c, q, h, m, _ => by cases h
 | n + 1, c, q, h, m, hm => by
  obtain ⟨k, rfl⟩ : ∃ k, m = k + 1 := ⟨m - 1, by omega⟩
  unfold pathC at h ⊢
  cases hf : fnd l c with
  | none => rw [hf] at h; exact h
  | some r =>
   rw [hf] at h
   simp only [] at h ⊢
   rw [Option.map_eq_some_iff] at h ⊢
   obtain ⟨p, hp, e⟩ := h
   exact ⟨p, pathC_mono hp k (by omega), e⟩
theorem pathC_one {l : List Rw} {n m : Nat} {c : Int} {q p : List Int} (h : pathC l n c = some q) (h2 : pathC l m c = some p) : q = p := by
 have h3 := pathC_mono h (max n m) (by omega)
 have h4 := pathC_mono h2 (max n m) (by omega)
 rw [h3] at h4
 exact Option.some.inj h4
theorem pathC_head {l : List Rw} : ∀ {n : Nat} {c : Int} {q : List Int}, pathC l n c = some q → ∃ t, q = c :: t
 | 0, c, q, h => by cases h
 | n + 1, c, q, h => by
  unfold pathC at h
  cases hf : fnd l c with
  | none =>
   rw [hf] at h
   simp only [] at h
   split at h
   ·exact ⟨[], (Option.some.inj h).symm⟩
   ·cases h
  | some r =>
   rw [hf] at h
   simp only [] at h
   rw [Option.map_eq_some_iff] at h
   obtain ⟨p, _, e⟩ := h
   exact ⟨p, e.symm⟩
/-- each node of a way has a way of its own: what is left of it -/
theorem pathC_rest {l : List Rw} : ∀ {a : List Int} {n : Nat} {c x : Int} {b : List Int}, pathC l n c = some (a ++ x :: b) → ∃ m, pathC l m x = some (x :: b)
 | [], n, c, x, b, h => by
  obtain ⟨t, e⟩ := pathC_head h
  rw [List.nil_append] at e h
  injection e with e1 e2
  subst e1
  exact ⟨n, h⟩
 | y :: a, 0, c, x, b, h => by cases h
 | y :: a, n + 1, c, x, b, h => by
  unfold pathC at h
  cases hf : fnd l c with
  | none =>
   rw [hf] at h
   simp only [] at h
   split at h
   ·have := congrArg List.length (Option.some.inj h)
    simp at this
   ·cases h
  | some r =>
   rw [hf] at h
   simp only [] at h
   rw [Option.map_eq_some_iff] at h
   obtain ⟨p, hp, e⟩ := h
   rw [List.cons_append] at e
   injection e with _ e
   subst e
   exact pathC_rest hp
/-- no node stands twice on a way -/
theorem pathC_nodup {l : List Rw} : ∀ {q : List Int} {n : Nat} {c : Int}, pathC l n c = some q → q.Nodup
 | [], _, _, _ => List.nodup_nil
 | y :: t, n, c, h => by
  obtain ⟨t', e⟩ := pathC_head h
  injection e with e1 e2
  subst e1
  rw [List.nodup_cons]
  refine ⟨fun hy => ?_, ?_⟩
  ·obtain ⟨a, b, e⟩ := List.append_of_mem hy
   rw [e] at h
   obtain ⟨m, hm⟩ := pathC_rest (a := y :: a) h
   have := congrArg List.length (pathC_one h hm)
   simp only [List.length_cons, List.length_append] at this
   omega
  ·cases t with
   | nil => exact List.nodup_nil
   | cons z t =>
    obtain ⟨m, hm⟩ := pathC_rest (a := [y]) (x := z) (b := t) h
    exact pathC_nodup hm
/-- the nodes of p stand one above the other, up to c -/
def Up (l : List Rw) : List Int → Int → Prop
 | [], _ => False
 | [x], c => x = c
 | x :: y :: t, c => (∃ r, fnd l x = some r ∧ pa r = y) ∧ Up l (y :: t) c
theorem up_snoc {l : List Rw} {c : Int} {r : Rw} (hr : fnd l c = some r) : ∀ {p : List Int}, Up l p c → Up l (p ++ [pa r]) (pa r)
 | [], h => h.elim
 | [x], h => by
  have h : x = c := h
  subst h
  exact ⟨⟨r, hr, rfl⟩, rfl⟩
 | x :: y :: t, h => ⟨h.1, up_snoc hr h.2⟩
theorem up_path {l : List Rw} {c : Int} {n : Nat} {q : List Int} (h : pathC l n c = some (c :: q)) : ∀ {p : List Int}, Up l p c → ∃ m x, pathC l m x = some (p ++ q)
 | [], hu => hu.elim
 | [x], hu => by
  have hu : x = c := hu
  subst hu
  exact ⟨n, x, h⟩
 | x :: y :: t, hu => by
  obtain ⟨m, z, hm⟩ := up_path h hu.2
  obtain ⟨s, e⟩ := pathC_head hm
  rw [List.cons_append] at e hm
  injection e with e1 e2
  subst e1
  obtain ⟨r, hr, rfl⟩ := hu.1
  refine ⟨m + 1, x, ?_⟩
  unfold pathC
  rw [hr]
  simp only []
  rw [hm]
  rfl
/-- the document's way, that looks back, is the plain one -/
theorem way_path {l : List Rw} : ∀ {n : Nat} {p : List Int} {c : Int}, Up l p c → wayG l n p c = (pathC l n c).map (fun q => p ++ q.drop 1)
 | 0, p, c, _ => rfl
 | n + 1, p, c, hu => by
  unfold wayG pathC
  cases hf : fnd l c with
  | none =>
   simp only []
   split
   ·simp
   ·rfl
  | some r =>
   simp only []
   by_cases hm : pa r ∈ p
   ·rw [if_pos hm]
    cases hq : pathC l n (pa r) with
    | none => rfl
    | some q =>
     exfalso
     obtain ⟨t, e⟩ := pathC_head hq
     have h1 : pathC l (n + 1) c = some (c :: q) := by
      unfold pathC; rw [hf]; simp only []; rw [hq]; rfl
     obtain ⟨m, x, h2⟩ := up_path h1 hu
     have h3 := pathC_nodup h2
     rw [List.nodup_append] at h3
     exact h3.2.2 _ hm _ (by rw [e]; exact List.mem_cons_self) rfl
   ·rw [if_neg hm, way_path (up_snoc hf hu)]
    cases hq : pathC l n (pa r) with
    | none => rfl
    | some q =>
     obtain ⟨t, e⟩ := pathC_head hq
     subst e
     simp
theorem wayR_path (l : List Rw) (c : Int) : wayR l c = pathC l (l.length + 1) c := by
 unfold wayR
 rw [way_path (p := [c]) (rfl : Up l [c] c)]
 cases hq : pathC l (l.length + 1) c with
 | none => rfl
 | some q =>
  obtain ⟨t, e⟩ := pathC_head hq
  subst e
  rfl
end Go.Proofs.YtkobmnbjeppnaaaGreat
end
section
namespace Go.Proofs.YtkobmnbjeppnaaaGreat
set_option maxRecDepth 100000
/-- what rows.up tells of, up to one that is last and is Root: the path -/
theorem chn_found {l : List Rw} : ∀ {n : Nat} {c : Int} {pre : List (Int × Bool)}, pre ++ [(0, true)] <+: chn l n c → pathC l n c = some (pre.map (·.1) ++ [0])
 | 0, c, pre, h => by
  have := h.length_le
  simp [chn] at this
 | n + 1, c, pre, h => by
  unfold chn at h
  unfold pathC
  cases hf : fnd l c with
  | none =>
   have hp : parB l c = false := by unfold parB; rw [hf]; rfl
   rw [hp] at h
   simp only [Bool.not_false, Bool.false_eq_true, if_false] at h
   cases pre with
   | nil =>
    obtain ⟨t, ht⟩ := h
    simp at ht
    simp [ht.1.symm]
   | cons x p =>
    have := h.length_le
    simp at this
  | some r =>
   have hp : parB l c = true := by unfold parB; rw [hf]; rfl
   have hv : parV l c = pa r := by unfold parV; rw [hf]; rfl
   rw [hp, hv] at h
   simp only [Bool.not_true, if_true] at h
   cases pre with
   | nil =>
    obtain ⟨t, ht⟩ := h
    simp at ht
   | cons x p =>
    obtain ⟨t, ht⟩ := h
    simp only [List.cons_append] at ht
    injection ht with h1 h2
    subst h1
    simp only [chn_found ⟨t, h2⟩, Option.map_some, List.map_cons, List.cons_append]
/-- and where there is none, no path -/
theorem chn_none {l : List Rw} : ∀ {n : Nat} {c : Int}, (∀ x ∈ chn l n c, ¬ (x.2 = true ∧ x.1 = 0)) → pathC l n c = none
 | 0, c, _ => rfl
 | n + 1, c, h => by
  unfold chn at h
  unfold pathC
  cases hf : fnd l c with
  | none =>
   have hp : parB l c = false := by unfold parB; rw [hf]; rfl
   rw [hp] at h
   have := h (c, true) (by simp)
   simp at this
   simp [this]
  | some r =>
   have hp : parB l c = true := by unfold parB; rw [hf]; rfl
   have hv : parV l c = pa r := by unfold parV; rw [hf]; rfl
   rw [hp, hv] at h
   simp only [Bool.not_true, if_true] at h
   simp only [chn_none (fun x hx => h x (List.mem_cons_of_mem _ hx)), Option.map_none]
end Go.Proofs.YtkobmnbjeppnaaaGreat
end
section
namespace Go.Proofs.YtkobmnbjeppnaaaGreat
open Gr
set_option maxRecDepth 100000
theorem abvB_ab (l : List Rw) (a b : Int) : abvB l a b = true ↔ Ab (upF l) a b := by rw [abvB_eq, abv_ab]
theorem abvB_self {l : List Rw} (h : Tree l) (a : Int) : abvB l a a = false := by
 cases e : abvB l a a with
 | false => rfl
 | true => exact absurd ((abvB_ab l a a).1 e) (h.acyc a)
theorem abvB_trans {l : List Rw} {a b c : Int} (h1 : abvB l a b = true) (h2 : abvB l b c = true) : abvB l a c = true :=
 (abvB_ab l a c).2 (((abvB_ab l a b).1 h1).trans ((abvB_ab l b c).1 h2))
theorem abvB_back {l : List Rw} (h : Tree l) {a b : Int} (h1 : abvB l a b = true) : abvB l b a = false := by
 cases e : abvB l b a with
 | false => rfl
 | true => have := abvB_trans h1 e; rw [abvB_self h a] at this; cases this
theorem abvB_two {l : List Rw} {a b c : Int} (h1 : abvB l a c = true) (h2 : abvB l b c = true) (hne : a ≠ b) (h3 : abvB l a b = false) : abvB l b a = true := by
 rcases Ab.linear ((abvB_ab l a c).1 h1) ((abvB_ab l b c).1 h2) hne with h | h
 ·rw [(abvB_ab l a b).2 h] at h3; cases h3
 ·exact (abvB_ab l b a).2 h
/-- a node hung elsewhere, below neither itself nor one of its own: all below it stay so, and its place is above it -/
theorem hang_below {l : List Rw} {r : Rw} (h : Tree l) (h1 : pa r ≠ ch r) (h2 : abvB l (ch r) (pa r) = false) (o : Int) : abvB (setP l r) (ch r) o = abvB l (ch r) o := by
 have h3 : ¬ Ab (upF l) (ch r) (pa r) := fun e => by rw [(abvB_ab l _ _).2 e] at h2; cases h2
 rw [Bool.eq_iff_iff, abvB_ab, abvB_ab, setP_up, upd_below h.acyc h1 h3]
theorem hang_under (l : List Rw) (r : Rw) : abvB (setP l r) (pa r) (ch r) = true := by
 rw [abvB_ab, setP_up]; exact upd_under _ _ _
theorem hang_tree {l : List Rw} {r : Rw} (h : Tree l) (hr : oneP r = true) (hl : l.length < 2000) : mayB (setP l r) = (decide (pa r ≠ ch r) && !abvB l (ch r) (pa r)) := by
 by_cases h1 : pa r = ch r
 ·rw [Bool.eq_iff_iff, mayB_tree]
  simp only [h1, ne_eq, not_true_eq_false, decide_false, Bool.false_and, Bool.false_eq_true, iff_false]
  intro ht
  have := ht.acyc
  rw [setP_up] at this
  exact upd_cyc (.inl h1) this
 ·cases h2 : abvB l (ch r) (pa r) with
  | true =>
   rw [Bool.eq_iff_iff, mayB_tree]
   simp only [Bool.not_true, Bool.and_false, Bool.false_eq_true, iff_false]
   intro ht
   have := ht.acyc
   rw [setP_up] at this
   exact upd_cyc (.inr ((abvB_ab l _ _).1 h2)) this
  | false =>
   rw [(mayB_tree _).2 (set_tree h hr hl h1 fun e => by rw [(abvB_ab l _ _).2 e] at h2; cases h2)]
   simp [h1]
end Go.Proofs.YtkobmnbjeppnaaaGreat
end
