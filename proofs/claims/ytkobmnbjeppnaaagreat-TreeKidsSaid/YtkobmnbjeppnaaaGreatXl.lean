/-
 The paths of a tree: plain.
 Who is reached in a tree, and behind a drop: plain.
 Whose kid a row is: plain.
 Small facts that the walks of Tree's laws ask: plain.
 A row that is set, and dropped: plain.
-/
import Derived.Test.YtkobmnbjeppnaaaGreatXe
import Derived.Test.YtkobmnbjeppnaaaGreatXf
import Derived.Test.YtkobmnbjeppnaaaGreatXj
import Derived.Test.YtkobmnbjeppnaaaGreatYe
section
namespace Go.Proofs.YtkobmnbjeppnaaaGreat
open Gr
set_option maxRecDepth 100000
theorem tree_root {l : List Rw} (h : Tree l) : upF l 0 = none := by
 cases e : upF l 0 with
 | none => rfl
 | some p =>
  obtain ⟨r, hr, hc, _⟩ := upF_in e
  have := h.one r hr
  unfold oneP at this
  simp only [Bool.and_eq_true, decide_eq_true_iff] at this
  omega
theorem tree_path {l : List Rw} (h : Tree l) (c : Int) : (pathC l (l.length + 1) c).isSome = (decide (c = 0) || abvB l 0 c) := by
 rw [path_end, show endN l (l.length + 1) c = endE l c from rfl, Bool.eq_iff_iff]
 simp only [decide_eq_true_eq, Bool.or_eq_true]
 rw [endE_iff, abvB_ab, ← reach_iff]
 unfold reach
 constructor
 ·rintro ⟨m, h1, _⟩; exact ⟨m, h1⟩
 ·rintro ⟨m, h1⟩; exact ⟨m, h1, tree_root h⟩
/-- the nodes of a path: each but the first one is above the first, and is the next one's parent -/
theorem path_next {l : List Rw} : ∀ {n : Nat} {c : Int} {q : List Int}, pathC l n c = some q → ∀ (i : Nat) (x y : Int), q[i]? = some x → q[i + 1]? = some y → ∃ r, fnd l x = some r ∧ pa r = y
 | 0, _, _, h, _, _, _, _, _ => by cases h
 | n + 1, c, q, h, i, x, y, hx, hy => by
  unfold pathC at h
  cases hf : fnd l c with
  | none =>
   rw [hf] at h
   simp only [] at h
   split at h
   ·obtain rfl := (Option.some.inj h).symm
    cases i with
    | zero => simp at hy
    | succ i => simp at hy
   ·cases h
  | some r =>
   rw [hf] at h
   simp only [] at h
   rw [Option.map_eq_some_iff] at h
   obtain ⟨p, hp, rfl⟩ := h
   cases i with
   | zero =>
    simp only [List.getElem?_cons_zero, Option.some.injEq] at hx
    subst hx
    obtain ⟨t, rfl⟩ := pathC_head hp
    simp only [Nat.zero_add, List.getElem?_cons_succ, List.getElem?_cons_zero, Option.some.injEq] at hy
    exact ⟨r, hf, hy⟩
   | succ i =>
    simp only [List.getElem?_cons_succ] at hx hy
    exact path_next hp i x y hx hy
theorem path_it {l : List Rw} : ∀ {n : Nat} {c : Int} {q : List Int}, pathC l n c = some q → ∀ (i : Nat) (x : Int), q[i]? = some x → it (upF l) i c = some x
 | 0, _, _, h, _, _, _ => by cases h
 | n + 1, c, q, h, i, x, hx => by
  unfold pathC at h
  cases hf : fnd l c with
  | none =>
   rw [hf] at h
   simp only [] at h
   split at h
   ·obtain rfl := (Option.some.inj h).symm
    cases i with
    | zero => simpa [it] using hx
    | succ i => simp at hx
   ·cases h
  | some r =>
   rw [hf] at h
   simp only [] at h
   rw [Option.map_eq_some_iff] at h
   obtain ⟨p, hp, rfl⟩ := h
   cases i with
   | zero => simpa [it] using hx
   | succ i =>
    simp only [List.getElem?_cons_succ] at hx
    have hu : upF l c = some (pa r) := by unfold upF; rw [hf]; rfl
    unfold it
    rw [hu]
    exact path_it hp i x hx
theorem path_above {l : List Rw} {n : Nat} {c : Int} {q : List Int} (h : pathC l n c = some q) {i : Nat} {x : Int} (hx : q[i + 1]? = some x) : abvB l x c = true :=
 (abvB_ab l x c).2 ⟨i, path_it h (i + 1) x hx⟩
theorem path_last {l : List Rw} : ∀ {n : Nat} {c : Int} {q : List Int}, pathC l n c = some q → q.getLast? = some 0
 | 0, _, _, h => by cases h
 | n + 1, c, q, h => by
  unfold pathC at h
  cases hf : fnd l c with
  | none =>
   rw [hf] at h
   simp only [] at h
   split at h
   ·rename_i hc
    obtain rfl := (Option.some.inj h).symm
    simp [hc]
   ·cases h
  | some r =>
   rw [hf] at h
   simp only [] at h
   rw [Option.map_eq_some_iff] at h
   obtain ⟨p, hp, rfl⟩ := h
   obtain ⟨t, rfl⟩ := pathC_head hp
   rw [List.getLast?_cons_cons]
   exact path_last hp
end Go.Proofs.YtkobmnbjeppnaaaGreat
end
section
namespace Go.Proofs.YtkobmnbjeppnaaaGreat
open Gr
set_option maxRecDepth 100000
theorem reachR_asc (l : List Rw) : (reachR l).Pairwise (· < ·) := by
 rw [reachR_puts]; exact putsI_asc (List.pairwise_singleton _ _)
theorem reachR_mem (l : List Rw) (x : Int) : x ∈ reachR l ↔ x = 0 ∨ (fnd l x).isSome = true ∧ endE l x = (0, true) := by
 rw [reachR_puts, putsI_mem, List.mem_singleton, goodR_end, List.mem_map]
 constructor
 ·rintro (h | ⟨r, hr, rfl⟩)
  ·exact .inl h
  ·obtain ⟨h1, h2⟩ := List.mem_filter.1 hr
   obtain ⟨s, hs⟩ := fnd_of_mem h1
   exact .inr ⟨by rw [hs]; rfl, of_decide_eq_true h2⟩
 ·rintro (h | ⟨h1, h2⟩)
  ·exact .inl h
  ·obtain ⟨r, hr⟩ := Option.isSome_iff_exists.1 h1
   unfold fnd at hr
   have h3 : ch r = x := by simpa using List.find?_some hr
   exact .inr ⟨r, List.mem_filter.2 ⟨List.mem_of_find?_eq_some hr, by rw [h3]; exact decide_eq_true h2⟩, h3⟩
theorem tree_end {l : List Rw} (h : Tree l) (x : Int) : endE l x = (0, true) ↔ reach (upF l) x := by
 rw [endE_iff]
 unfold reach
 constructor
 ·rintro ⟨m, h1, _⟩; exact ⟨m, h1⟩
 ·rintro ⟨m, h1⟩; exact ⟨m, h1, tree_root h⟩
theorem tree_reach {l : List Rw} (h : Tree l) (x : Int) : x ∈ reachR l ↔ reach (upF l) x := by
 rw [reachR_mem, tree_end h]
 constructor
 ·rintro (rfl | ⟨_, h2⟩)
  ·exact ⟨0, rfl⟩
  ·exact h2
 ·rintro ⟨m, hm⟩
  cases m with
  | zero => exact .inl (Option.some.inj hm)
  | succ m =>
   refine .inr ⟨?_, m + 1, hm⟩
   unfold it at hm
   cases hf : fnd l x with
   | none => rw [show upF l x = none by unfold upF; rw [hf]; rfl] at hm; cases hm
   | some r => rfl
theorem drop_reach {l : List Rw} (h : Tree l) {c : Int} (hc : c ≠ 0) (hh : (fnd l c).isSome = true) : reachR (dropP l c) = (reachR l).filter fun x => decide (x ≠ c) && !abvB l c x := by
 refine asc_unique (reachR_asc _) ((reachR_asc l).sublist List.filter_sublist) fun x => ?_
 rw [tree_reach (drop_tree h c), dropP_up h.asc, List.mem_filter, tree_reach h]
 by_cases hx : x = c
 ·subst hx
  simp only [ne_eq, not_true_eq_false, decide_false, Bool.false_and, Bool.false_eq_true, and_false, iff_false]
  rintro ⟨m, hm⟩
  cases m with
  | zero => exact hc (Option.some.inj hm)
  | succ m => unfold it at hm; rw [show cut (upF l) x x = none by unfold cut; rw [if_pos rfl]] at hm; cases hm
 ·rw [cut_reach hc hx, tree_root h]
  simp only [ne_eq, forall_const, not_true_eq_false, false_implies, and_true, hx, not_false_eq_true, decide_true, Bool.true_and, Bool.not_eq_true']
  refine and_congr_right fun _ => ?_
  rw [← abvB_ab]
  simp
theorem drop_none {l : List Rw} (h : Tree l) {c : Int} (hh : fnd l c = none) : reachR (dropP l c) = reachR l := by
 refine asc_unique (reachR_asc _) (reachR_asc l) fun x => ?_
 rw [tree_reach (drop_tree h c), dropP_up h.asc, tree_reach h]
 have : cut (upF l) c = upF l := by
  funext y
  unfold cut
  split
  ·rename_i e; subst e; unfold upF; rw [hh]; rfl
  ·rfl
 rw [this]
end Go.Proofs.YtkobmnbjeppnaaaGreat
end
section
namespace Go.Proofs.YtkobmnbjeppnaaaGreat
set_option maxRecDepth 100000
theorem insK_mem_iff (o : List Rw) (x y : Rw) : y ∈ insK o x ↔ y = x ∨ y ∈ o := by
 refine ⟨insK_mem, fun h => ?_⟩
 unfold insK
 rw [List.mem_append, List.mem_cons]
 rcases h with h | h
 ·exact .inr (.inl h)
 ·rw [← List.take_append_drop (kAt o x o.length) o, List.mem_append] at h
  rcases h with h | h
  ·exact .inl h
  ·exact .inr (.inr h)
theorem kids_mem_iff (p : Int) (y : Rw) : ∀ (l o : List Rw), y ∈ l.foldl (kidG p) o ↔ y ∈ o ∨ y ∈ l ∧ pa y = p
 | [], o => by simp
 | r :: t, o => by
  rw [List.foldl_cons, kids_mem_iff p y t, List.mem_cons]
  unfold kidG
  split
  ·rename_i h
   rw [insK_mem_iff]
   constructor
   ·rintro ((h1 | h1) | h1)
    ·exact .inr ⟨.inl h1, by rw [h1]; exact h⟩
    ·exact .inl h1
    ·exact .inr ⟨.inr h1.1, h1.2⟩
   ·rintro (h1 | ⟨h1 | h1, h2⟩)
    ·exact .inl (.inr h1)
    ·exact .inl (.inl h1)
    ·exact .inr ⟨h1, h2⟩
  ·rename_i h
   constructor
   ·rintro (h1 | h1)
    ·exact .inl h1
    ·exact .inr ⟨.inr h1.1, h1.2⟩
   ·rintro (h1 | ⟨h1 | h1, h2⟩)
    ·exact .inl h1
    ·exact absurd (h1 ▸ h2) h
    ·exact .inr ⟨h1, h2⟩
theorem kidsR_mem (l : List Rw) (p : Int) (y : Rw) : y ∈ kidsR l p ↔ y ∈ l ∧ pa y = p := by
 unfold kidsR; rw [kids_mem_iff]; simp
theorem fnd_self {l : List Rw} (h : AscR l) {r : Rw} (hr : r ∈ l) : fnd l (ch r) = some r := by
 obtain ⟨s, hs⟩ := fnd_of_mem hr
 rw [hs]
 unfold fnd at hs
 have h1 : ch s = ch r := by simpa using List.find?_some hs
 obtain ⟨i, hi⟩ := List.mem_iff_getElem?.1 (List.mem_of_find?_eq_some hs)
 obtain ⟨j, hj⟩ := List.mem_iff_getElem?.1 hr
 obtain ⟨hil, ei⟩ := List.getElem?_eq_some_iff.1 hi
 obtain ⟨hjl, ej⟩ := List.getElem?_eq_some_iff.1 hj
 have hij : i = j := by
  rcases Nat.lt_trichotomy i j with hlt | he | hlt
  ·have := List.pairwise_iff_getElem.1 h i j hil hjl hlt; rw [ei, ej] at this; omega
  ·exact he
  ·have := List.pairwise_iff_getElem.1 h j i hjl hil hlt; rw [ei, ej] at this; omega
 subst hij
 rw [hi] at hj
 exact hj
/-- of a path: each but the last is a kid of the next -/
theorem kid_of {l : List Rw} {x y : Int} (h : ∃ r, fnd l x = some r ∧ pa r = y) : ∃ r ∈ kidsR l y, ch r = x := by
 obtain ⟨r, hr, hp⟩ := h
 unfold fnd at hr
 exact ⟨r, (kidsR_mem l y r).2 ⟨List.mem_of_find?_eq_some hr, hp⟩, by simpa using List.find?_some hr⟩
end Go.Proofs.YtkobmnbjeppnaaaGreat
end
section
namespace Go.Proofs.YtkobmnbjeppnaaaGreat
open Go.RowKit
open Fl Gr
set_option maxRecDepth 100000
theorem setP_le (l : List Rw) (r : Rw) : (setP l r).length ≤ l.length + 1 := by
 rcases set_cases l r with ⟨k, x, h1, _, h2, hk⟩ | ⟨k, x, h1, h3, _, h2, hk⟩ | ⟨h1, _, h2⟩ <;> rw [h2] <;> simp <;> omega
theorem setP_rows {l : List Rw} {r : Rw} (h : Rows_ l) (hr : rk r < 18446744073709551616 ∧ (nm r).length ≤ maxLen) : Rows_ (setP l r) := fun x hx => by
 rcases set_cases l r with ⟨k, y, h1, _, h2, hk⟩ | ⟨k, y, h1, h3, _, h2, hk⟩ | ⟨h1, _, h2⟩ <;> rw [h2] at hx <;> rw [List.mem_append] at hx
 ·rcases hx with hx | hx
  ·exact h x (List.mem_of_mem_take hx)
  ·rcases List.mem_cons.1 hx with rfl | hx
   ·exact hr
   ·exact h x (List.mem_of_mem_drop hx)
 ·rcases hx with hx | hx
  ·exact h x (List.mem_of_mem_take hx)
  ·rcases List.mem_cons.1 hx with rfl | hx
   ·exact hr
   ·exact h x (List.mem_of_mem_drop hx)
 ·rcases hx with hx | hx
  ·exact h x hx
  ·rw [List.mem_singleton] at hx; subst hx; exact hr
theorem alike_one (x : Rw) : alikeP x x = true := by simp [alikeP]
theorem same_one : ∀ l : List Rw, sameP l l = true
 | [] => rfl
 | x :: l => by rw [sameP, alike_one, same_one l]; rfl
theorem fnd_ok {l : List Rw} (h : Rows_ l) (c : Int) : rk ((fnd l c).getD zr) < 18446744073709551616 ∧ (nm ((fnd l c).getD zr)).length ≤ maxLen := by
 cases hf : fnd l c with
 | none => exact ⟨by show (0 : Nat) < _; decide, by show ([] : List UInt8).length ≤ maxLen; unfold maxLen; decide⟩
 | some r => exact h r (List.mem_of_find?_eq_some hf)
/-- those told so far -/
def stay (f : Int → Bool) (q : List Int) (k : Nat) : List Int := (q.take k).filter f
theorem stay_yes {f : Int → Bool} {q : List Int} {k : Nat} {x : Int} (h : q[k]? = some x) (hf : f x = true) : stay f q (k + 1) = stay f q k ++ [x] := by
 unfold stay; rw [List.take_add_one, h, List.filter_append]; simp [hf]
theorem stay_no {f : Int → Bool} {q : List Int} {k : Nat} {x : Int} (h : q[k]? = some x) (hf : f x = false) : stay f q (k + 1) = stay f q k := by
 unfold stay; rw [List.take_add_one, h, List.filter_append]; simp [hf]
theorem stay_len (f : Int → Bool) (q : List Int) (k : Nat) : (stay f q k).length ≤ k := by
 unfold stay; exact Nat.le_trans (List.length_filter_le _ _) (by rw [List.length_take]; omega)
theorem stay_all (f : Int → Bool) (q : List Int) : stay f q q.length = q.filter f := by unfold stay; rw [List.take_length]
theorem reachG_le (l : List Rw) : ∀ (t : List Rw) (o : List Int), (t.foldl (reachG l) o).length ≤ o.length + t.length
 | [], o => by simp
 | r :: t, o => by
  rw [List.foldl_cons]
  have h := reachG_le l t (reachG l o r)
  have h2 : (reachG l o r).length ≤ o.length + 1 := by unfold reachG; split <;> first | exact insI_len _ _ | omega
  rw [List.length_cons]; omega
theorem reachR_le (l : List Rw) : (reachR l).length ≤ l.length + 1 := by
 have := reachG_le l l [0]
 unfold reachR
 simp only [List.length_cons, List.length_nil] at this
 omega
theorem kidsR_le (l : List Rw) (p : Int) : (kidsR l p).length ≤ l.length := by
 rw [kidsR_len]; unfold hisN; exact List.length_filter_le _ _
theorem kidsR_rows {l : List Rw} (h : Rows_ l) (p : Int) : Rows_ (kidsR l p) := fun x hx => h x ((kidsR_mem l p x).1 hx).1
theorem pathC_le {l : List Rw} : ∀ {n : Nat} {c : Int} {q : List Int}, pathC l n c = some q → q.length ≤ n
 | 0, _, _, h => by cases h
 | n + 1, c, q, h => by
  unfold pathC at h
  split at h
  ·split at h <;> cases h
   simp
  ·obtain ⟨q2, h2, rfl⟩ := Option.map_eq_some_iff.1 h
   have := pathC_le h2
   rw [List.length_cons]; omega
theorem wayR_le (l : List Rw) (c : Int) : ((wayR l c).getD []).length ≤ l.length + 1 := by
 cases h : wayR l c with
 | none => simp
 | some q =>
  rw [wayR_path] at h
  simpa using pathC_le h
end Go.Proofs.YtkobmnbjeppnaaaGreat
end
section
namespace Go.Proofs.YtkobmnbjeppnaaaGreat
open Gr
set_option maxRecDepth 100000
theorem asc_ext {a b : List Rw} (ha : AscR a) (hb : AscR b) (h : ∀ x, fnd a x = fnd b x) : a = b := by
 have key : ∀ {a b : List Rw}, AscR a → (∀ x, fnd a x = fnd b x) → ∀ y, y ∈ a → y ∈ b := fun {a b} ha h y hy => by
  have h1 := fnd_self ha hy
  rw [h] at h1
  unfold fnd at h1
  exact List.mem_of_find?_eq_some h1
 have na : a.Nodup := ha.imp fun h e => by subst e; omega
 have nb : b.Nodup := hb.imp fun h e => by subst e; omega
 exact List.Perm.eq_of_pairwise (le := fun x y : Rw => ch x < ch y) (fun x y _ _ h1 h2 => by omega) ha hb ((List.perm_ext_iff_of_nodup na nb).2 fun y => ⟨key ha h y, key hb (fun x => (h x).symm) y⟩)
theorem drop_set {l : List Rw} (h : AscR l) (r : Rw) : dropP (setP l r) (ch r) = dropP l (ch r) := by
 refine asc_ext (dropP_asc (setP_asc h r) _) (dropP_asc h _) fun x => ?_
 rw [dropP_fnd (setP_asc h r), dropP_fnd h]
 by_cases hx : x = ch r
 ·rw [if_pos hx, if_pos hx]
 ·rw [if_neg hx, if_neg hx, setP_fnd, if_neg hx]
end Go.Proofs.YtkobmnbjeppnaaaGreat
end
