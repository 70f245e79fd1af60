/-
 Nodes and their parents, plain: who is above whom, in as many steps as there are rows; what is hung elsewhere, what is cut off.
 Rows as nodes and their parents, plain: what may be a tree; set, and dropped.
-/
import Derived.Test.YthhckdjagnlgpaaGreatFa
import Derived.Test.YthhckdjagnlgpaaGreatTk
section
namespace Go.Proofs.YthhckdjagnlgpaaGreat
namespace Gr
/-- n steps up -/
def it (f : Int → Option Int) : Nat → Int → Option Int
 | 0, c => some c
 | n + 1, c => match f c with
  | none => none
  | some p => it f n p
theorem it_add (f : Int → Option Int) : ∀ (i j : Nat) (c : Int), it f (i + j) c = (it f i c).bind (it f j)
 | 0, j, c => by rw [Nat.zero_add]; rfl
 | i + 1, j, c => by
  rw [show i + 1 + j = (i + j) + 1 by omega]
  unfold it
  cases f c with
  | none => rfl
  | some p => exact it_add f i j p
theorem it_one (f : Int → Option Int) (c : Int) : it f 1 c = f c := by
 unfold it
 cases f c <;> rfl
theorem it_less {f : Int → Option Int} {i j : Nat} {c x : Int} (h : it f j c = some x) (hij : i ≤ j) : ∃ y, it f i c = some y ∧ it f (j - i) y = some x := by
 obtain ⟨k, rfl⟩ : ∃ k, j = i + k := ⟨j - i, by omega⟩
 rw [it_add] at h
 cases hi : it f i c with
 | none => rw [hi] at h; cases h
 | some y => rw [hi] at h; exact ⟨y, rfl, by rw [Nat.add_sub_cancel_left]; exact h⟩
theorem it_add' {f : Int → Option Int} {i j : Nat} {c x y : Int} (h : it f i c = some x) (h2 : it f j x = some y) : it f (i + j) c = some y := by
 rw [it_add, h]; exact h2
/-- is a above b -/
def Ab (f : Int → Option Int) (a b : Int) : Prop := ∃ i, it f (i + 1) b = some a
theorem Ab.up {f : Int → Option Int} {a b p : Int} (h : f b = some p) : Ab f a b ↔ p = a ∨ Ab f a p := by
 constructor
 ·rintro ⟨i, hi⟩
  unfold it at hi
  rw [h] at hi
  cases i with
  | zero => exact .inl (Option.some.inj hi)
  | succ i => exact .inr ⟨i, hi⟩
 ·rintro (rfl | ⟨i, hi⟩)
  ·exact ⟨0, by rw [it_one]; exact h⟩
  ·refine ⟨i + 1, ?_⟩
   show it f (i + 1 + 1) b = _
   unfold it
   rw [h]
   exact hi
/-- what differs, of a list, is not more than what it is out of -/
theorem nodup_len : ∀ {a b : List Int}, a.Nodup → (∀ x ∈ a, x ∈ b) → a.length ≤ b.length
 | [], _, _, _ => Nat.zero_le _
 | x :: a, b, hn, hs => by
  obtain ⟨h1, h2⟩ := List.nodup_cons.1 hn
  have hx := hs x List.mem_cons_self
  have h3 := nodup_len (a := a) (b := b.erase x) h2 (fun y hy => by
   have hne : y ≠ x := fun e => h1 (e ▸ hy)
   exact (List.mem_erase_of_ne hne).2 (hs y (List.mem_cons_of_mem _ hy)))
  rw [List.length_erase_of_mem hx] at h3
  have : 0 < b.length := List.length_pos_of_mem hx
  rw [List.length_cons]
  omega
/-- as far as the first that comes again -/
theorem it_twice {f : Int → Option Int} {L : List Int} (hL : ∀ c p, f c = some p → c ∈ L) {c x : Int} {n : Nat} (h : it f n c = some x) (hn : L.length < n) : ∃ i j y, i < j ∧ j < n ∧ it f i c = some y ∧ it f j c = some y := by
 let g : Nat → Int := fun i => (it f i c).getD 0
 have hg : ∀ i, i < n → it f i c = some (g i) ∧ g i ∈ L := fun i hi => by
  obtain ⟨y, hy, hr⟩ := it_less h (Nat.le_of_lt hi)
  have e : g i = y := by show (it f i c).getD 0 = y; rw [hy]; rfl
  rw [e]
  refine ⟨hy, ?_⟩
  cases hf : f y with
  | none =>
   rw [show n - i = (n - i - 1) + 1 by omega] at hr
   unfold it at hr
   rw [hf] at hr
   cases hr
  | some p => exact hL y p hf
 by_cases hd : ∃ i j, i < j ∧ j < n ∧ g i = g j
 ·obtain ⟨i, j, hij, hj, e⟩ := hd
  exact ⟨i, j, g i, hij, hj, (hg i (by omega)).1, by rw [e]; exact (hg j hj).1⟩
 ·exfalso
  have hnd : ((List.range n).map g).Nodup := by
   rw [List.nodup_iff_pairwise_ne, List.pairwise_map]
   have := List.pairwise_lt_range (n := n)
   refine List.Pairwise.imp_of_mem ?_ this
   intro a b ha hb hab e
   exact hd ⟨a, b, hab, List.mem_range.1 hb, e⟩
  have := nodup_len hnd (b := L) (fun x hx => by
   obtain ⟨i, hi, rfl⟩ := List.mem_map.1 hx
   exact (hg i (List.mem_range.1 hi)).2)
  rw [List.length_map, List.length_range] at this
  omega
theorem it_short {f : Int → Option Int} {L : List Int} (hL : ∀ c p, f c = some p → c ∈ L) {c x : Int} : ∀ {n : Nat}, it f (n + 1) c = some x → ∃ m, m < L.length ∧ it f (m + 1) c = some x := by
 intro n
 induction n using Nat.strongRecOn with
 | ind n ih =>
  intro h
  by_cases hn : n < L.length
  ·exact ⟨n, hn, h⟩
  ·obtain ⟨i, j, y, hij, hj, h1, h2⟩ := it_twice hL h (by omega)
   obtain ⟨z, hz, hr⟩ := it_less h (show j ≤ n + 1 by omega)
   rw [h2] at hz
   cases hz
   have h3 := it_add' h1 hr
   rw [show i + (n + 1 - j) = (n - (j - i)) + 1 by omega] at h3
   exact ih _ (by omega) h3
def upd (f : Int → Option Int) (c p : Int) : Int → Option Int := fun x => if x = c then some p else f x
def acyc (f : Int → Option Int) : Prop := ∀ c, ¬ Ab f c c
theorem first_hit {f : Int → Option Int} {o c : Int} : ∀ {i : Nat}, it f i o = some c → ∃ m, m ≤ i ∧ it f m o = some c ∧ ∀ j, j < m → it f j o ≠ some c := by
 intro i
 induction i using Nat.strongRecOn with
 | ind i ih =>
  intro h
  by_cases hx : ∃ j, j < i ∧ it f j o = some c
  ·obtain ⟨j, hj, hc⟩ := hx
   obtain ⟨m, hm, h1, h2⟩ := ih j hj hc
   exact ⟨m, by omega, h1, h2⟩
  ·exact ⟨i, Nat.le_refl _, h, fun j hj hc => hx ⟨j, hj, hc⟩⟩
/-- two that are the same but at c go the same way, as long as that does not come to c -/
theorem it_off {f g : Int → Option Int} {c : Int} (hfg : ∀ x, x ≠ c → f x = g x) {o : Int} : ∀ {m : Nat}, (∀ j, j < m → it f j o ≠ some c) → it g m o = it f m o
 | 0, _ => rfl
 | m + 1, h => by
  have ih := it_off hfg (o := o) (m := m) (fun j hj => h j (by omega))
  rw [it_add, it_add, ih]
  cases hm : it f m o with
  | none => rfl
  | some y =>
   have hy : y ≠ c := fun e => h m (Nat.lt_succ_self _) (by rw [hm, e])
   show it g 1 y = it f 1 y
   rw [it_one, it_one, hfg y hy]
theorem upd_off (f : Int → Option Int) (c p : Int) : ∀ x, x ≠ c → f x = upd f c p x := fun x h => by unfold upd; rw [if_neg h]
theorem upd_on (f : Int → Option Int) (c p : Int) : upd f c p c = some p := by unfold upd; rw [if_pos rfl]
theorem ab_off {f g : Int → Option Int} {c o : Int} (hfg : ∀ x, x ≠ c → f x = g x) (ho : o ≠ c) (h : Ab f c o) : Ab g c o := by
 obtain ⟨i, hi⟩ := h
 obtain ⟨m, hm, h1, h2⟩ := first_hit hi
 cases m with
 | zero => exact absurd (Option.some.inj h1) ho
 | succ m => exact ⟨m, by rw [it_off hfg h2]; exact h1⟩
theorem upd_acyc {f : Int → Option Int} {c p : Int} (ha : acyc f) (h1 : p ≠ c) (h2 : ¬ Ab f c p) : acyc (upd f c p) := by
 rintro x ⟨i, hi⟩
 by_cases hx : ∃ j, j < i + 1 ∧ it (upd f c p) j x = some c
 ·obtain ⟨j, hj, hc⟩ := hx
  obtain ⟨y, hy, hr⟩ := it_less hi (Nat.le_of_lt hj)
  rw [hc] at hy
  cases hy
  have h3 := it_add' hr hc
  rw [show i + 1 - j + j = i + 1 by omega] at h3
  have h4 : Ab (upd f c p) c c := ⟨i, h3⟩
  rcases (Ab.up (upd_on f c p)).1 h4 with h5 | h5
  ·exact h1 h5
  ·exact h2 (ab_off (fun x hx => (upd_off f c p x hx).symm) h1 h5)
 ·have h3 := it_off (fun x hx => (upd_off f c p x hx).symm) (g := f) (o := x) (m := i + 1) (fun j hj hc => hx ⟨j, hj, hc⟩)
  rw [hi] at h3
  exact ha x ⟨i, h3⟩
end Gr
end Go.Proofs.YthhckdjagnlgpaaGreat
end
section
namespace Go.Proofs.YthhckdjagnlgpaaGreat
open Go.RowKit Go.IntWalk
open Gr
set_option maxRecDepth 100000
def upF (l : List Rw) : Int → Option Int := fun c => (fnd l c).map pa
theorem upF_in {l : List Rw} {c p : Int} (h : upF l c = some p) : ∃ r ∈ l, ch r = c ∧ pa r = p ∧ fnd l c = some r := by
 unfold upF at h
 cases hf : fnd l c with
 | none => rw [hf] at h; cases h
 | some r =>
  rw [hf] at h
  unfold fnd at hf
  have h1 := List.find?_some hf
  exact ⟨r, List.mem_of_find?_eq_some hf, by simpa using h1, Option.some.inj h, rfl⟩
theorem abv_iff (l : List Rw) (a : Int) : ∀ (n : Nat) (b : Int), abv l a n b = true ↔ ∃ m, m < n ∧ it (upF l) (m + 1) b = some a
 | 0, b => by
  constructor
  ·intro h; cases h
  ·rintro ⟨m, hm, _⟩; omega
 | n + 1, b => by
  unfold abv
  cases hf : fnd l b with
  | none =>
   constructor
   ·intro h; cases h
   ·rintro ⟨m, _, hm⟩
    unfold it at hm
    rw [show upF l b = none by unfold upF; rw [hf]; rfl] at hm
    cases hm
  | some r =>
   have hu : upF l b = some (pa r) := by unfold upF; rw [hf]; rfl
   by_cases hp : pa r = a
   ·simp only [hp, if_true, true_iff]
    exact ⟨0, by omega, by rw [it_one, hu, hp]⟩
   ·simp only [hp, if_false]
    rw [abv_iff l a n (pa r)]
    constructor
    ·rintro ⟨m, hm, h⟩
     refine ⟨m + 1, by omega, ?_⟩
     show it (upF l) (m + 1 + 1) b = _
     unfold it
     rw [hu]
     exact h
    ·rintro ⟨m, hm, h⟩
     cases m with
     | zero => rw [it_one, hu] at h; exact absurd (Option.some.inj h) hp
     | succ m =>
      refine ⟨m, by omega, ?_⟩
      unfold it at h
      rw [hu] at h
      exact h
theorem upF_dom (l : List Rw) : ∀ c p, upF l c = some p → c ∈ l.map ch := fun c p h => by
 obtain ⟨r, hr, hc, _⟩ := upF_in h
 exact List.mem_map.2 ⟨r, hr, hc⟩
theorem abv_ab (l : List Rw) (a b : Int) : abv l a l.length b = true ↔ Ab (upF l) a b := by
 rw [abv_iff]
 constructor
 ·rintro ⟨m, _, h⟩; exact ⟨m, h⟩
 ·rintro ⟨m, h⟩
  obtain ⟨k, hk, h2⟩ := it_short (upF_dom l) h
  rw [List.length_map] at hk
  exact ⟨k, hk, h2⟩
theorem abv_more (l : List Rw) (a b : Int) {n : Nat} (hn : l.length ≤ n) : abv l a n b = abv l a l.length b := by
 rw [Bool.eq_iff_iff, abv_ab, abv_iff]
 constructor
 ·rintro ⟨m, _, h⟩; exact ⟨m, h⟩
 ·rintro ⟨m, h⟩
  obtain ⟨k, hk, h2⟩ := it_short (upF_dom l) h
  rw [List.length_map] at hk
  exact ⟨k, by omega, h2⟩
/-- rows that stand by their children, of each one at most -/
abbrev AscR (l : List Rw) : Prop := l.Pairwise fun a b => ch a < ch b
theorem asc_of_steps : ∀ {l : List Rw}, (∀ j, j < l.length → stepOk l j = true) → (∀ r ∈ l, oneP r = true) ∧ AscR l
 | [], _ => ⟨fun r hr => (by cases hr), List.Pairwise.nil⟩
 | r :: t, h => by
  have h0 : oneP r = true := by
   have := h 0 (by simp)
   unfold stepOk at this
   simpa using this
  have ht : ∀ j, j < t.length → stepOk t j = true := fun j hj => by
   have := h (j + 1) (by simpa using hj)
   unfold stepOk at this ⊢
   rw [List.getElem?_cons_succ] at this
   cases j with
   | zero =>
    cases ht : t[0]? with
    | none => rfl
    | some s => rw [ht] at this; simp at this ⊢; exact this.1
   | succ j =>
    simpa using this
  obtain ⟨h1, h2⟩ := asc_of_steps ht
  refine ⟨fun s hs => ?_, List.pairwise_cons.2 ⟨fun s hs => ?_, h2⟩⟩
  ·rcases List.mem_cons.1 hs with rfl | hs
   ·exact h0
   ·exact h1 s hs
  ·cases t with
   | nil => cases hs
   | cons u t =>
    have hu : ch r < ch u := by
     have := h 1 (by simp)
     unfold stepOk at this
     simp at this
     exact this.2
    rcases List.mem_cons.1 hs with rfl | hs
    ·exact hu
    ·exact Int.lt_trans hu ((List.pairwise_cons.1 h2).1 s hs)
theorem steps_of_asc {l : List Rw} (h1 : ∀ r ∈ l, oneP r = true) (h2 : AscR l) : ∀ j, j < l.length → stepOk l j = true := by
 intro j hj
 have hr := List.getElem?_eq_getElem hj
 cases j with
 | zero => exact step_first hr (h1 _ (List.getElem_mem hj))
 | succ j =>
  have hj' : j < l.length := by omega
  rw [step_next hr (List.getElem?_eq_getElem hj') (h1 _ (List.getElem_mem hj))]
  exact decide_eq_true (List.pairwise_iff_getElem.1 h2 j (j + 1) hj' hj (by omega))
structure Tree (l : List Rw) : Prop where
 few : l.length ≤ 2000
 one : ∀ r ∈ l, oneP r = true
 asc : AscR l
 acyc : acyc (upF l)
theorem mayB_tree (l : List Rw) : mayB l = true ↔ Tree l := by
 rw [mayB_iff]
 constructor
 ·rintro ⟨h1, h2, h3⟩
  obtain ⟨h4, h5⟩ := asc_of_steps h2
  refine ⟨h1, h4, h5, fun c hc => ?_⟩
  obtain ⟨i, hi⟩ := hc
  cases hf : upF l c with
  | none => unfold it at hi; rw [hf] at hi; cases hi
  | some p =>
   obtain ⟨r, hr, hrc, _⟩ := upF_in hf
   have := h3 r hr
   have h6 := (abv_ab l (ch r) (ch r)).2 (by rw [hrc]; exact ⟨i, hi⟩)
   rw [this] at h6
   cases h6
 ·rintro ⟨h1, h2, h3, h4⟩
  refine ⟨h1, steps_of_asc h2 h3, fun r hr => ?_⟩
  rw [← Bool.not_eq_true, abv_ab]
  exact h4 (ch r)
theorem fnd_none {l : List Rw} {c : Int} : fnd l c = none ↔ ∀ r ∈ l, ch r ≠ c := by
 unfold fnd
 rw [List.find?_eq_none]
 simp
theorem plc_none {l : List Rw} {c : Int} (h : plc l c = -1) : ∀ r ∈ l, ch r ≠ c := by
 unfold plc idx at h
 intro r hr he
 cases hf : l.findIdx? (fun x => ch x == c) with
 | none => exact absurd he (by simpa using (List.findIdx?_eq_none_iff.1 hf) r hr)
 | some k => rw [hf] at h; exact absurd h (by show (k : Int) ≠ -1; omega)
theorem plc_some {l : List Rw} {c : Int} {k : Nat} (h : plc l c = (k : Int)) : ∃ r, l[k]? = some r ∧ ch r = c ∧ (∀ s ∈ l.take k, ch s ≠ c) ∧ k < l.length := by
 unfold plc idx at h
 cases hf : l.findIdx? (fun x => ch x == c) with
 | none => rw [hf] at h; exact absurd h (by show (-1 : Int) ≠ _; omega)
 | some m =>
  rw [hf] at h
  obtain rfl : m = k := by have : (m : Int) = k := h; omega
  obtain ⟨h1, h2, h3⟩ := List.findIdx?_eq_some_iff_getElem.1 hf
  refine ⟨l[m], List.getElem?_eq_getElem h1, by simpa using h2, fun s hs => ?_, h1⟩
  obtain ⟨j, hj, e⟩ := List.mem_iff_getElem.1 hs
  rw [List.length_take] at hj
  rw [List.getElem_take] at e
  have := h3 j (by omega)
  rw [← e]
  simpa using this
theorem find_app (a b : List Rw) (c : Int) : fnd (a ++ b) c = (fnd a c).or (fnd b c) := by
 unfold fnd
 rw [List.find?_append]
theorem fnd_cons (r : Rw) (l : List Rw) (c : Int) : fnd (r :: l) c = if ch r = c then some r else fnd l c := by
 unfold fnd
 by_cases h : ch r = c
 ·rw [List.find?_cons_of_pos (by simpa using h), if_pos h]
 ·rw [List.find?_cons_of_neg (by simpa using h), if_neg h]
theorem setP_fnd (l : List Rw) (r : Rw) (c : Int) : fnd (setP l r) c = if c = ch r then some r else fnd l c := by
 rcases set_cases l r with ⟨k, x, h1, hk, h2, hkl⟩ | ⟨k, x, h1, h1b, hk, h2, hkl⟩ | ⟨h1, h1b, h2⟩
 ·rw [h2]
  obtain ⟨y, hy, hyc, hno, _⟩ := plc_some h1
  rw [hk] at hy
  cases hy
  have hl : l = l.take k ++ x :: l.drop (k + 1) := by
   have e := (List.getElem?_eq_some_iff.1 hk).2
   rw [← e, ← List.drop_eq_getElem_cons hkl, List.take_append_drop]
  by_cases hc : c = ch r
  ·rw [if_pos hc, find_app, fnd_none.2 (by rw [hc]; exact hno), fnd_cons, if_pos hc.symm]; rfl
  ·rw [if_neg hc]
   conv => rhs; rw [hl]
   rw [find_app, find_app, fnd_cons, fnd_cons, if_neg (fun e => hc e.symm), if_neg (fun e => hc (by rw [← e, hyc]))]
 ·have hno := plc_none h1
  rw [h2, find_app, fnd_cons]
  by_cases hc : c = ch r
  ·rw [if_pos hc, if_pos hc.symm, fnd_none.2 (by rw [hc]; exact fun s hs => hno s (List.mem_of_mem_take hs))]; rfl
  ·rw [if_neg hc, if_neg (fun e => hc e.symm), ← find_app, List.take_append_drop]
 ·have hno := plc_none h1
  rw [h2, find_app, fnd_cons]
  by_cases hc : c = ch r
  ·rw [if_pos hc, if_pos hc.symm, fnd_none.2 (by rw [hc]; exact hno)]; rfl
  ·rw [if_neg hc, if_neg (fun e => hc e.symm)]
   show (fnd l c).or none = _
   rw [Option.or_none]
theorem setP_up (l : List Rw) (r : Rw) : upF (setP l r) = upd (upF l) (ch r) (pa r) := by
 funext c
 unfold upF upd
 rw [setP_fnd]
 by_cases hc : c = ch r
 ·rw [if_pos hc, if_pos hc]; rfl
 ·rw [if_neg hc, if_neg hc]
theorem setP_mem {l : List Rw} {r x : Rw} (h : x ∈ setP l r) : x = r ∨ x ∈ l := by
 rcases set_cases l r with ⟨k, y, _, _, h2, _⟩ | ⟨k, y, _, _, _, h2, _⟩ | ⟨_, _, h2⟩
 ·rw [h2, List.mem_append, List.mem_cons] at h
  rcases h with h | h | h
  ·exact .inr (List.mem_of_mem_take h)
  ·exact .inl h
  ·exact .inr (List.mem_of_mem_drop h)
 ·rw [h2, List.mem_append, List.mem_cons] at h
  rcases h with h | h | h
  ·exact .inr (List.mem_of_mem_take h)
  ·exact .inl h
  ·exact .inr (List.mem_of_mem_drop h)
 ·rw [h2, List.mem_append, List.mem_singleton] at h
  rcases h with h | h
  ·exact .inr h
  ·exact .inl h
theorem setP_len (l : List Rw) (r : Rw) : (setP l r).length ≤ l.length + 1 := by
 rcases set_cases l r with ⟨k, y, _, _, h2, hk⟩ | ⟨k, y, _, _, _, h2, hk⟩ | ⟨_, _, h2⟩
 all_goals
  rw [h2]
  simp only [List.length_append, List.length_take, List.length_cons, List.length_drop, List.length_nil]
  omega
theorem setP_asc {l : List Rw} (h : AscR l) (r : Rw) : AscR (setP l r) := by
 rcases set_cases l r with ⟨k, x, h1, hk, h2, hkl⟩ | ⟨k, x, h1, h1b, hk, h2, hkl⟩ | ⟨h1, h1b, h2⟩
 ·rw [h2]
  obtain ⟨y, hy, hyc, hno, _⟩ := plc_some h1
  rw [hk] at hy
  cases hy
  have hl : l = l.take k ++ x :: l.drop (k + 1) := by
   have e := (List.getElem?_eq_some_iff.1 hk).2
   rw [← e, ← List.drop_eq_getElem_cons hkl, List.take_append_drop]
  rw [hl] at h
  obtain ⟨ha, hb, hab⟩ := List.pairwise_append.1 h
  obtain ⟨hb1, hb2⟩ := List.pairwise_cons.1 hb
  refine List.pairwise_append.2 ⟨ha, List.pairwise_cons.2 ⟨fun s hs => by rw [← hyc]; exact hb1 s hs, hb2⟩, fun s hs t ht => ?_⟩
  rcases List.mem_cons.1 ht with rfl | ht
  ·rw [← hyc]; exact hab s hs x List.mem_cons_self
  ·exact hab s hs t (List.mem_cons_of_mem _ ht)
 ·rw [h2]
  have hno := plc_none h1
  have hlo : ∀ s ∈ l.take k, ch s < ch r := by
   intro s hs
   unfold gtc idx at h1b
   cases hf : l.findIdx? (fun x => decide (ch r < ch x)) with
   | none => rw [hf] at h1b; exact absurd h1b (by show (-1 : Int) ≠ _; omega)
   | some m =>
    rw [hf] at h1b
    obtain rfl : m = k := by have : (m : Int) = k := h1b; omega
    obtain ⟨g1, g2, g3⟩ := List.findIdx?_eq_some_iff_getElem.1 hf
    obtain ⟨j, hj, e⟩ := List.mem_iff_getElem.1 hs
    rw [List.length_take] at hj
    rw [List.getElem_take] at e
    have h3 := g3 j (by omega)
    have h4 := hno s (List.mem_of_mem_take hs)
    rw [← e] at h4 ⊢
    simp at h3
    omega
  have hkx : ch r < ch x := by
   unfold gtc idx at h1b
   cases hf : l.findIdx? (fun x => decide (ch r < ch x)) with
   | none => rw [hf] at h1b; exact absurd h1b (by show (-1 : Int) ≠ _; omega)
   | some m =>
    rw [hf] at h1b
    obtain rfl : m = k := by have : (m : Int) = k := h1b; omega
    obtain ⟨g1, g2, g3⟩ := List.findIdx?_eq_some_iff_getElem.1 hf
    rw [List.getElem?_eq_getElem g1] at hk
    cases hk
    simpa using g2
  have hd : l.drop k = x :: l.drop (k + 1) := by
   have e := (List.getElem?_eq_some_iff.1 hk).2
   rw [← e, ← List.drop_eq_getElem_cons hkl]
  have h' := h
  rw [← List.take_append_drop k l] at h'
  obtain ⟨ha, hb, hab⟩ := List.pairwise_append.1 h'
  have hhi : ∀ s ∈ l.drop k, ch r < ch s := fun s hs => by
   rw [hd] at hs hb
   rcases List.mem_cons.1 hs with rfl | hs
   ·exact hkx
   ·exact Int.lt_trans hkx ((List.pairwise_cons.1 hb).1 s hs)
  refine List.pairwise_append.2 ⟨ha, List.pairwise_cons.2 ⟨hhi, hb⟩, fun s hs t ht => ?_⟩
  rcases List.mem_cons.1 ht with rfl | ht
  ·exact hlo s hs
  ·exact hab s hs t ht
 ·rw [h2]
  have hno := plc_none h1
  refine List.pairwise_append.2 ⟨h, by simp, fun s hs t ht => ?_⟩
  rw [List.mem_singleton] at ht
  subst ht
  have h4 := hno s hs
  unfold gtc idx at h1b
  cases hf : l.findIdx? (fun x => decide (ch t < ch x)) with
  | none =>
   have := (List.findIdx?_eq_none_iff.1 hf) s hs
   simp at this
   omega
  | some m => rw [hf] at h1b; exact absurd h1b (by show (m : Int) ≠ -1; omega)
theorem set_tree {l : List Rw} {r : Rw} (h : Tree l) (hr : oneP r = true) (hl : l.length < 2000) (h1 : pa r ≠ ch r) (h2 : ¬ Ab (upF l) (ch r) (pa r)) : Tree (setP l r) := by
 refine ⟨?_, fun x hx => ?_, setP_asc h.asc r, ?_⟩
 ·have := setP_len l r; omega
 ·rcases setP_mem hx with rfl | hx
  ·exact hr
  ·exact h.one x hx
 ·rw [setP_up]; exact upd_acyc h.acyc h1 h2
end Go.Proofs.YthhckdjagnlgpaaGreat
end
