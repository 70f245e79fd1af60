/-
 Rows as nodes and their parents, plain: what may be a tree; set, and dropped.
-/
import Derived.Test.YtkobmnbjeppnaaaGreatGa
import Derived.Test.YtkobmnbjeppnaaaGreatTk
namespace Go.Proofs.YtkobmnbjeppnaaaGreat
open Go.RowKit Go.IntWalk
open Gr
set_option maxRecDepth 100000
def upF (l : List Rw) : Int → Option Int := fun c => (fnd l c).map pa
theorem upF_in {l : List Rw} {c p : Int} (h : upF l c = some p) : ∃ r ∈ l, ch r = c ∧ pa r = p ∧ fnd l c = some r := by
 unfold upF at h
 cases hf : fnd l c with
 | none => rw [hf] at h; cases h
 | some r =>
  rw [hf] at h
  unfold fnd at hf
  have h1 := List.find?_some hf
  exact ⟨r, List.mem_of_find?_eq_some hf, by simpa using h1, Option.some.inj h, rfl⟩
theorem fnd_of_mem {l : List Rw} {r : Rw} (h : r ∈ l) : ∃ s, fnd l (ch r) = some s := by
 unfold fnd
 cases hf : l.find? (fun x => ch x == ch r) with
 | none => exact absurd (List.find?_eq_none.1 hf r h) (by simp)
 | some s => exact ⟨s, rfl⟩
theorem abv_iff (l : List Rw) (a : Int) : ∀ (n : Nat) (b : Int), abv l a n b = true ↔ ∃ m, m < n ∧ it (upF l) (m + 1) b = some a
 | 0, b => by
  constructor
  ·intro h; cases h
  ·rintro ⟨m, hm, _⟩; omega
 | n + 1, b => by
  unfold abv
  cases hf : fnd l b with
  | none =>
   constructor
   ·intro h; cases h
   ·rintro ⟨m, _, hm⟩
    unfold it at hm
    rw [show upF l b = none by unfold upF; rw [hf]; rfl] at hm
    cases hm
  | some r =>
   have hu : upF l b = some (pa r) := by unfold upF; rw [hf]; rfl
   by_cases hp : pa r = a
   ·simp only [hp, if_true, true_iff]
    exact ⟨0, by omega, by rw [it_one, hu, hp]⟩
   ·simp only [hp, if_false]
    rw [abv_iff l a n (pa r)]
    constructor
    ·rintro ⟨m, hm, h⟩
     refine ⟨m + 1, by omega, ?_⟩
     show it (upF l) (m + 1 + 1) b = _
     unfold it
     rw [hu]
     exact h
    ·rintro ⟨m, hm, h⟩
     cases m with
     | zero => rw [it_one, hu] at h; exact absurd (Option.some.inj h) hp
     | succ m =>
      refine ⟨m, by omega, ?_⟩
      unfold it at h
      rw [hu] at h
      exact h
theorem upF_dom (l : List Rw) : ∀ c p, upF l c = some p → c ∈ l.map ch := fun c p h => by
 obtain ⟨r, hr, hc, _⟩ := upF_in h
 exact List.mem_map.2 ⟨r, hr, hc⟩
theorem abv_ab (l : List Rw) (a b : Int) : abv l a l.length b = true ↔ Ab (upF l) a b := by
 rw [abv_iff]
 constructor
 ·rintro ⟨m, _, h⟩; exact ⟨m, h⟩
 ·rintro ⟨m, h⟩
  obtain ⟨k, hk, h2⟩ := it_short (upF_dom l) h
  rw [List.length_map] at hk
  exact ⟨k, hk, h2⟩
theorem abv_more (l : List Rw) (a b : Int) {n : Nat} (hn : l.length ≤ n) : abv l a n b = abv l a l.length b := by
 rw [Bool.eq_iff_iff, abv_ab, abv_iff]
 constructor
 ·rintro ⟨m, _, h⟩; exact ⟨m, h⟩
 ·rintro ⟨m, h⟩
  obtain ⟨k, hk, h2⟩ := it_short (upF_dom l) h
  rw [List.length_map] at hk
  exact ⟨k, by omega, h2⟩
/-- rows that stand by their children, of each one at most -/
abbrev AscR (l : List Rw) : Prop := l.Pairwise fun a b => ch a < ch b
theorem asc_of_steps : ∀ {l : List Rw}, (∀ j, j < l.length → stepOk l j = true) → (∀ r ∈ l, oneP r = true) ∧ AscR l
 | [], _ => ⟨fun r hr => (by cases hr), List.Pairwise.nil⟩
 | r :: t, h => by
  have h0 : oneP r = true := by
   have := h 0 (by simp)
   unfold stepOk at this
   simpa using this
  have ht : ∀ j, j < t.length → stepOk t j = true := fun j hj => by
   have := h (j + 1) (by simpa using hj)
   unfold stepOk at this ⊢
   rw [List.getElem?_cons_succ] at this
   cases j with
   | zero =>
    cases ht : t[0]? with
    | none => rfl
    | some s => rw [ht] at this; simp at this ⊢; exact this.1
   | succ j =>
    simpa using this
  obtain ⟨h1, h2⟩ := asc_of_steps ht
  refine ⟨fun s hs => ?_, List.pairwise_cons.2 ⟨fun s hs => ?_, h2⟩⟩
  ·rcases List.mem_cons.1 hs with rfl | hs
   ·exact h0
   ·exact h1 s hs
  ·cases t with
   | nil => cases hs
   | cons u t =>
    have hu : ch r < ch u := by
     have := h 1 (by simp)
     unfold stepOk at this
     simp at this
     exact this.2
    rcases List.mem_cons.1 hs with rfl | hs
    ·exact hu
    ·exact Int.lt_trans hu ((List.pairwise_cons.1 h2).1 s hs)
theorem steps_of_asc {l : List Rw} (h1 : ∀ r ∈ l, oneP r = true) (h2 : AscR l) : ∀ j, j < l.length → stepOk l j = true := by
 intro j hj
 have hr := List.getElem?_eq_getElem hj
 cases j with
 | zero => exact step_first hr (h1 _ (List.getElem_mem hj))
 | succ j =>
  have hj' : j < l.length := by omega
  rw [step_next hr (List.getElem?_eq_getElem hj') (h1 _ (List.getElem_mem hj))]
  exact decide_eq_true (List.pairwise_iff_getElem.1 h2 j (j + 1) hj' hj (by omega))
structure Tree (l : List Rw) : Prop where
 few : l.length ≤ 2000
 one : ∀ r ∈ l, oneP r = true
 asc : AscR l
 acyc : acyc (upF l)
theorem mayB_tree (l : List Rw) : mayB l = true ↔ Tree l := by
 rw [mayB_iff]
 constructor
 ·rintro ⟨h1, h2, h3⟩
  obtain ⟨h4, h5⟩ := asc_of_steps h2
  refine ⟨h1, h4, h5, fun c hc => ?_⟩
  obtain ⟨i, hi⟩ := hc
  cases hf : upF l c with
  | none => unfold it at hi; rw [hf] at hi; cases hi
  | some p =>
   obtain ⟨r, hr, hrc, _⟩ := upF_in hf
   have := h3 r hr
   have h6 := (abv_ab l (ch r) (ch r)).2 (by rw [hrc]; exact ⟨i, hi⟩)
   rw [this] at h6
   cases h6
 ·rintro ⟨h1, h2, h3, h4⟩
  refine ⟨h1, steps_of_asc h2 h3, fun r hr => ?_⟩
  rw [← Bool.not_eq_true, abv_ab]
  exact h4 (ch r)
theorem fnd_none {l : List Rw} {c : Int} : fnd l c = none ↔ ∀ r ∈ l, ch r ≠ c := by
 unfold fnd
 rw [List.find?_eq_none]
 simp
theorem plc_none {l : List Rw} {c : Int} (h : plc l c = -1) : ∀ r ∈ l, ch r ≠ c := by
 unfold plc idx at h
 intro r hr he
 cases hf : l.findIdx? (fun x => ch x == c) with
 | none => exact absurd he (by simpa using (List.findIdx?_eq_none_iff.1 hf) r hr)
 | some k => rw [hf] at h; exact absurd h (by show (k : Int) ≠ -1; omega)
theorem plc_some {l : List Rw} {c : Int} {k : Nat} (h : plc l c = (k : Int)) : ∃ r, l[k]? = some r ∧ ch r = c ∧ (∀ s ∈ l.take k, ch s ≠ c) ∧ k < l.length := by
 unfold plc idx at h
 cases hf : l.findIdx? (fun x => ch x == c) with
 | none => rw [hf] at h; exact absurd h (by show (-1 : Int) ≠ _; omega)
 | some m =>
  rw [hf] at h
  obtain rfl : m = k := by have : (m : Int) = k := h; omega
  obtain ⟨h1, h2, h3⟩ := List.findIdx?_eq_some_iff_getElem.1 hf
  refine ⟨l[m], List.getElem?_eq_getElem h1, by simpa using h2, fun s hs => ?_, h1⟩
  obtain ⟨j, hj, e⟩ := List.mem_iff_getElem.1 hs
  rw [List.length_take] at hj
  rw [List.getElem_take] at e
  have := h3 j (by omega)
  rw [← e]
  simpa using this
theorem find_app (a b : List Rw) (c : Int) : fnd (a ++ b) c = (fnd a c).or (fnd b c) := by
 unfold fnd
 rw [List.find?_append]
theorem fnd_cons (r : Rw) (l : List Rw) (c : Int) : fnd (r :: l) c = if ch r = c then some r else fnd l c := by
 unfold fnd
 by_cases h : ch r = c
 ·rw [List.find?_cons_of_pos (by simpa using h), if_pos h]
 ·rw [List.find?_cons_of_neg (by simpa using h), if_neg h]
theorem setP_fnd (l : List Rw) (r : Rw) (c : Int) : fnd (setP l r) c = if c = ch r then some r else fnd l c := by
 rcases set_cases l r with ⟨k, x, h1, hk, h2, hkl⟩ | ⟨k, x, h1, h1b, hk, h2, hkl⟩ | ⟨h1, h1b, h2⟩
 ·rw [h2]
  obtain ⟨y, hy, hyc, hno, _⟩ := plc_some h1
  rw [hk] at hy
  cases hy
  have hl : l = l.take k ++ x :: l.drop (k + 1) := by
   have e := (List.getElem?_eq_some_iff.1 hk).2
   rw [← e, ← List.drop_eq_getElem_cons hkl, List.take_append_drop]
  by_cases hc : c = ch r
  ·rw [if_pos hc, find_app, fnd_none.2 (by rw [hc]; exact hno), fnd_cons, if_pos hc.symm]; rfl
  ·rw [if_neg hc]
   conv => rhs; rw [hl]
   rw [find_app, find_app, fnd_cons, fnd_cons, if_neg (fun e => hc e.symm), if_neg (fun e => hc (by rw [← e, hyc]))]
 ·have hno := plc_none h1
  rw [h2, find_app, fnd_cons]
  by_cases hc : c = ch r
  ·rw [if_pos hc, if_pos hc.symm, fnd_none.2 (by rw [hc]; exact fun s hs => hno s (List.mem_of_mem_take hs))]; rfl
  ·rw [if_neg hc, if_neg (fun e => hc e.symm), ← find_app, List.take_append_drop]
 ·have hno := plc_none h1
  rw [h2, find_app, fnd_cons]
  by_cases hc : c = ch r
  ·rw [if_pos hc, if_pos hc.symm, fnd_none.2 (by rw [hc]; exact hno)]; rfl
  ·rw [if_neg hc, if_neg (fun e => hc e.symm)]
   show (fnd l c).or none = _
   rw [Option.or_none]
theorem setP_up (l : List Rw) (r : Rw) : upF (setP l r) = upd (upF l) (ch r) (pa r) := by
 funext c
 unfold upF upd
 rw [setP_fnd]
 by_cases hc : c = ch r
 ·rw [if_pos hc, if_pos hc]; rfl
 ·rw [if_neg hc, if_neg hc]
theorem setP_mem {l : List Rw} {r x : Rw} (h : x ∈ setP l r) : x = r ∨ x ∈ l := by
 rcases set_cases l r with ⟨k, y, _, _, h2, _⟩ | ⟨k, y, _, _, _, h2, _⟩ | ⟨_, _, h2⟩
 ·rw [h2, List.mem_append, List.mem_cons] at h
  rcases h with h | h | h
  ·exact .inr (List.mem_of_mem_take h)
  ·exact .inl h
  ·exact .inr (List.mem_of_mem_drop h)
 ·rw [h2, List.mem_append, List.mem_cons] at h
  rcases h with h | h | h
  ·exact .inr (List.mem_of_mem_take h)
  ·exact .inl h
  ·exact .inr (List.mem_of_mem_drop h)
 ·rw [h2, List.mem_append, List.mem_singleton] at h
  rcases h with h | h
  ·exact .inr h
  ·exact .inl h
theorem setP_len (l : List Rw) (r : Rw) : (setP l r).length ≤ l.length + 1 := by
 rcases set_cases l r with ⟨k, y, _, _, h2, hk⟩ | ⟨k, y, _, _, _, h2, hk⟩ | ⟨_, _, h2⟩
 all_goals
  rw [h2]
  simp only [List.length_append, List.length_take, List.length_cons, List.length_drop, List.length_nil]
  omega
theorem setP_asc {l : List Rw} (h : AscR l) (r : Rw) : AscR (setP l r) := by
 rcases set_cases l r with ⟨k, x, h1, hk, h2, hkl⟩ | ⟨k, x, h1, h1b, hk, h2, hkl⟩ | ⟨h1, h1b, h2⟩
 ·rw [h2]
  obtain ⟨y, hy, hyc, hno, _⟩ := plc_some h1
  rw [hk] at hy
  cases hy
  have hl : l = l.take k ++ x :: l.drop (k + 1) := by
   have e := (List.getElem?_eq_some_iff.1 hk).2
   rw [← e, ← List.drop_eq_getElem_cons hkl, List.take_append_drop]
  rw [hl] at h
  obtain ⟨ha, hb, hab⟩ := List.pairwise_append.1 h
  obtain ⟨hb1, hb2⟩ := List.pairwise_cons.1 hb
  refine List.pairwise_append.2 ⟨ha, List.pairwise_cons.2 ⟨fun s hs => by rw [← hyc]; exact hb1 s hs, hb2⟩, fun s hs t ht => ?_⟩
  rcases List.mem_cons.1 ht with rfl | ht
  ·rw [← hyc]; exact hab s hs x List.mem_cons_self
  ·exact hab s hs t (List.mem_cons_of_mem _ ht)
 ·rw [h2]
  have hno := plc_none h1
  have hlo : ∀ s ∈ l.take k, ch s < ch r := by
   intro s hs
   unfold gtc idx at h1b
   cases hf : l.findIdx? (fun x => decide (ch r < ch x)) with
   | none => rw [hf] at h1b; exact absurd h1b (by show (-1 : Int) ≠ _; omega)
   | some m =>
    rw [hf] at h1b
    obtain rfl : m = k := by have : (m : Int) = k := h1b; omega
    obtain ⟨g1, g2, g3⟩ := List.findIdx?_eq_some_iff_getElem.1 hf
    obtain ⟨j, hj, e⟩ := List.mem_iff_getElem.1 hs
    rw [List.length_take] at hj
    rw [List.getElem_take] at e
    have h3 := g3 j (by omega)
    have h4 := hno s (List.mem_of_mem_take hs)
    rw [← e] at h4 ⊢
    simp at h3
    omega
  have hkx : ch r < ch x := by
   unfold gtc idx at h1b
   cases hf : l.findIdx? (fun x => decide (ch r < ch x)) with
   | none => rw [hf] at h1b; exact absurd h1b (by show (-1 : Int) ≠ _; omega)
   | some m =>
    rw [hf] at h1b
    obtain rfl : m = k := by have : (m : Int) = k := h1b; omega
    obtain ⟨g1, g2, g3⟩ := List.findIdx?_eq_some_iff_getElem.1 hf
    rw [List.getElem?_eq_getElem g1] at hk
    cases hk
    simpa using g2
  have hd : l.drop k = x :: l.drop (k + 1) := by
   have e := (List.getElem?_eq_some_iff.1 hk).2
   rw [← e, ← List.drop_eq_getElem_cons hkl]
  have h' := h
  rw [← List.take_append_drop k l] at h'
  obtain ⟨ha, hb, hab⟩ := List.pairwise_append.1 h'
  have hhi : ∀ s ∈ l.drop k, ch r < ch s := fun s hs => by
   rw [hd] at hs hb
   rcases List.mem_cons.1 hs with rfl | hs
   ·exact hkx
   ·exact Int.lt_trans hkx ((List.pairwise_cons.1 hb).1 s hs)
  refine List.pairwise_append.2 ⟨ha, List.pairwise_cons.2 ⟨hhi, hb⟩, fun s hs t ht => ?_⟩
  rcases List.mem_cons.1 ht with rfl | ht
  ·exact hlo s hs
  ·exact hab s hs t ht
 ·rw [h2]
  have hno := plc_none h1
  refine List.pairwise_append.2 ⟨h, by simp, fun s hs t ht => ?_⟩
  rw [List.mem_singleton] at ht
  subst ht
  have h4 := hno s hs
  unfold gtc idx at h1b
  cases hf : l.findIdx? (fun x => decide (ch t < ch x)) with
  | none =>
   have := (List.findIdx?_eq_none_iff.1 hf) s hs
   simp at this
   omega
  | some m => rw [hf] at h1b; exact absurd h1b (by show (m : Int) ≠ -1; omega)
theorem set_tree {l : List Rw} {r : Rw} (h : Tree l) (hr : oneP r = true) (hl : l.length < 2000) (h1 : pa r ≠ ch r) (h2 : ¬ Ab (upF l) (ch r) (pa r)) : Tree (setP l r) := by
 refine ⟨?_, fun x hx => ?_, setP_asc h.asc r, ?_⟩
 ·have := setP_len l r; omega
 ·rcases setP_mem hx with rfl | hx
  ·exact hr
  ·exact h.one x hx
 ·rw [setP_up]; exact upd_acyc h.acyc h1 h2
theorem dropP_mem {l : List Rw} {c : Int} {x : Rw} (h : x ∈ dropP l c) : x ∈ l := by
 rcases plc_drop l c with ⟨_, h2⟩ | ⟨k, r, _, _, h2, _⟩
 ·rw [h2] at h; exact h
 ·rw [h2, List.mem_append] at h
  rcases h with h | h
  ·exact List.mem_of_mem_take h
  ·exact List.mem_of_mem_drop h
theorem dropP_len (l : List Rw) (c : Int) : (dropP l c).length ≤ l.length := by
 rcases plc_drop l c with ⟨_, h2⟩ | ⟨k, r, _, _, h2, _⟩
 ·rw [h2]; exact Nat.le_refl _
 ·rw [h2, List.length_append, List.length_take, List.length_drop]; omega
theorem dropP_asc {l : List Rw} (h : AscR l) (c : Int) : AscR (dropP l c) := by
 rcases plc_drop l c with ⟨_, h2⟩ | ⟨k, r, _, hk, h2, hkl⟩
 ·rw [h2]; exact h
 ·rw [h2]
  have hl : l = l.take k ++ r :: l.drop (k + 1) := by
   have e := (List.getElem?_eq_some_iff.1 hk).2
   rw [← e, ← List.drop_eq_getElem_cons hkl, List.take_append_drop]
  rw [hl] at h
  obtain ⟨ha, hb, hab⟩ := List.pairwise_append.1 h
  exact List.pairwise_append.2 ⟨ha, (List.pairwise_cons.1 hb).2, fun s hs t ht => hab s hs t (List.mem_cons_of_mem _ ht)⟩
theorem dropP_fnd {l : List Rw} (h : AscR l) (c x : Int) : fnd (dropP l c) x = if x = c then none else fnd l x := by
 rcases plc_drop l c with ⟨h1, h2⟩ | ⟨k, r, h1, hk, h2, hkl⟩
 ·rw [h2]
  by_cases hx : x = c
  ·rw [if_pos hx, hx, fnd_none.2 (plc_none h1)]
  ·rw [if_neg hx]
 ·obtain ⟨y, hy, hyc, hno, _⟩ := plc_some h1
  rw [hk] at hy
  cases hy
  have hl : l = l.take k ++ r :: l.drop (k + 1) := by
   have e := (List.getElem?_eq_some_iff.1 hk).2
   rw [← e, ← List.drop_eq_getElem_cons hkl, List.take_append_drop]
  rw [h2]
  by_cases hx : x = c
  ·rw [if_pos hx, fnd_none]
   intro s hs
   rw [List.mem_append] at hs
   rcases hs with hs | hs
   ·rw [hx]; exact hno s hs
   ·rw [hl] at h
    have := (List.pairwise_cons.1 (List.pairwise_append.1 h).2.1).1 s hs
    omega
  ·rw [if_neg hx]
   conv => rhs; rw [hl]
   rw [find_app, find_app, fnd_cons, if_neg (fun e => hx (by rw [← e, hyc]))]
theorem dropP_up {l : List Rw} (h : AscR l) (c : Int) : upF (dropP l c) = cut (upF l) c := by
 funext x
 unfold upF cut
 rw [dropP_fnd h]
 by_cases hx : x = c
 ·rw [if_pos hx, if_pos hx]; rfl
 ·rw [if_neg hx, if_neg hx]
theorem drop_tree {l : List Rw} (h : Tree l) (c : Int) : Tree (dropP l c) := by
 refine ⟨Nat.le_trans (dropP_len l c) h.few, fun r hr => h.one r (dropP_mem hr), dropP_asc h.asc c, ?_⟩
 rw [dropP_up h.asc]
 exact cut_acyc c h.acyc
end Go.Proofs.YtkobmnbjeppnaaaGreat
