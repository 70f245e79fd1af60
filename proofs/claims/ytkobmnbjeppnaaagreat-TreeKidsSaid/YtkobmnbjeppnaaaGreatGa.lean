/-
 Nodes and their parents, plain: who is above whom, in as many steps as there are rows; what is hung elsewhere, what is cut off.
-/
import Derived.Test.YtkobmnbjeppnaaaGreatFa
namespace Go.Proofs.YtkobmnbjeppnaaaGreat
namespace Gr
/-- n steps up -/
def it (f : Int → Option Int) : Nat → Int → Option Int
 | 0, c => some c
 | n + 1, c => match f c with
  | none => none
  | some p => it f n p
theorem it_add (f : Int → Option Int) : ∀ (i j : Nat) (c : Int), it f (i + j) c = (it f i c).bind (it f j)
 | 0, j, c => by rw [Nat.zero_add]; rfl
 | i + 1, j, c => by
  rw [show i + 1 + j = (i + j) + 1 by omega]
  unfold it
  cases f c with
  | none => rfl
  | some p => exact it_add f i j p
theorem it_one (f : Int → Option Int) (c : Int) : it f 1 c = f c := by
 unfold it
 cases f c <;> rfl
theorem it_less {f : Int → Option Int} {i j : Nat} {c x : Int} (h : it f j c = some x) (hij : i ≤ j) : ∃ y, it f i c = some y ∧ it f (j - i) y = some x := by
 obtain ⟨k, rfl⟩ : ∃ k, j = i + k := ⟨j - i, by omega⟩
 rw [it_add] at h
 cases hi : it f i c with
 | none => rw [hi] at h; cases h
 | some y => rw [hi] at h; exact ⟨y, rfl, by rw [Nat.add_sub_cancel_left]; exact h⟩
theorem it_add' {f : Int → Option Int} {i j : Nat} {c x y : Int} (h : it f i c = some x) (h2 : it f j x = some y) : it f (i + j) c = some y := by
 rw [it_add, h]; exact h2
/-- is a above b -/
def Ab (f : Int → Option Int) (a b : Int) : Prop := ∃ i, it f (i + 1) b = some a
theorem Ab.trans {f : Int → Option Int} {a b c : Int} (h : Ab f a b) (h2 : Ab f b c) : Ab f a c := by
 obtain ⟨i, hi⟩ := h
 obtain ⟨j, hj⟩ := h2
 exact ⟨j + 1 + i, by rw [show j + 1 + i + 1 = (j + 1) + (i + 1) by omega]; exact it_add' hj hi⟩
theorem Ab.up {f : Int → Option Int} {a b p : Int} (h : f b = some p) : Ab f a b ↔ p = a ∨ Ab f a p := by
 constructor
 ·rintro ⟨i, hi⟩
  unfold it at hi
  rw [h] at hi
  cases i with
  | zero => exact .inl (Option.some.inj hi)
  | succ i => exact .inr ⟨i, hi⟩
 ·rintro (rfl | ⟨i, hi⟩)
  ·exact ⟨0, by rw [it_one]; exact h⟩
  ·refine ⟨i + 1, ?_⟩
   show it f (i + 1 + 1) b = _
   unfold it
   rw [h]
   exact hi
theorem Ab.linear {f : Int → Option Int} {a b c : Int} (h : Ab f a c) (h2 : Ab f b c) (hne : a ≠ b) : Ab f a b ∨ Ab f b a := by
 obtain ⟨i, hi⟩ := h
 obtain ⟨j, hj⟩ := h2
 rcases Nat.lt_trichotomy i j with hij | hij | hij
 ·obtain ⟨y, hy, hr⟩ := it_less hj (show i + 1 ≤ j + 1 by omega)
  rw [hi] at hy
  cases hy
  exact .inr ⟨j - i - 1, by rw [show j - i - 1 + 1 = j + 1 - (i + 1) by omega]; exact hr⟩
 ·subst hij
  rw [hi] at hj
  exact absurd (Option.some.inj hj) hne
 ·obtain ⟨y, hy, hr⟩ := it_less hi (show j + 1 ≤ i + 1 by omega)
  rw [hj] at hy
  cases hy
  exact .inl ⟨i - j - 1, by rw [show i - j - 1 + 1 = i + 1 - (j + 1) by omega]; exact hr⟩
/-- what differs, of a list, is not more than what it is out of -/
theorem nodup_len : ∀ {a b : List Int}, a.Nodup → (∀ x ∈ a, x ∈ b) → a.length ≤ b.length
 | [], _, _, _ => Nat.zero_le _
 | x :: a, b, hn, hs => by
  obtain ⟨h1, h2⟩ := List.nodup_cons.1 hn
  have hx := hs x List.mem_cons_self
  have h3 := nodup_len (a := a) (b := b.erase x) h2 (fun y hy => by
   have hne : y ≠ x := fun e => h1 (e ▸ hy)
   exact (List.mem_erase_of_ne hne).2 (hs y (List.mem_cons_of_mem _ hy)))
  rw [List.length_erase_of_mem hx] at h3
  have : 0 < b.length := List.length_pos_of_mem hx
  rw [List.length_cons]
  omega
/-- as far as the first that comes again -/
theorem it_twice {f : Int → Option Int} {L : List Int} (hL : ∀ c p, f c = some p → c ∈ L) {c x : Int} {n : Nat} (h : it f n c = some x) (hn : L.length < n) : ∃ i j y, i < j ∧ j < n ∧ it f i c = some y ∧ it f j c = some y := by
 let g : Nat → Int := fun i => (it f i c).getD 0
 have hg : ∀ i, i < n → it f i c = some (g i) ∧ g i ∈ L := fun i hi => by
  obtain ⟨y, hy, hr⟩ := it_less h (Nat.le_of_lt hi)
  have e : g i = y := by show (it f i c).getD 0 = y; rw [hy]; rfl
  rw [e]
  refine ⟨hy, ?_⟩
  cases hf : f y with
  | none =>
   rw [show n - i = (n - i - 1) + 1 by omega] at hr
   unfold it at hr
   rw [hf] at hr
   cases hr
  | some p => exact hL y p hf
 by_cases hd : ∃ i j, i < j ∧ j < n ∧ g i = g j
 ·obtain ⟨i, j, hij, hj, e⟩ := hd
  exact ⟨i, j, g i, hij, hj, (hg i (by omega)).1, by rw [e]; exact (hg j hj).1⟩
 ·exfalso
  have hnd : ((List.range n).map g).Nodup := by
   rw [List.nodup_iff_pairwise_ne, List.pairwise_map]
   have := List.pairwise_lt_range (n := n)
   refine List.Pairwise.imp_of_mem ?_ this
   intro a b ha hb hab e
   exact hd ⟨a, b, hab, List.mem_range.1 hb, e⟩
  have := nodup_len hnd (b := L) (fun x hx => by
   obtain ⟨i, hi, rfl⟩ := List.mem_map.1 hx
   exact (hg i (List.mem_range.1 hi)).2)
  rw [List.length_map, List.length_range] at this
  omega
theorem it_short {f : Int → Option Int} {L : List Int} (hL : ∀ c p, f c = some p → c ∈ L) {c x : Int} : ∀ {n : Nat}, it f (n + 1) c = some x → ∃ m, m < L.length ∧ it f (m + 1) c = some x := by
 intro n
 induction n using Nat.strongRecOn with
 | ind n ih =>
  intro h
  by_cases hn : n < L.length
  ·exact ⟨n, hn, h⟩
  ·obtain ⟨i, j, y, hij, hj, h1, h2⟩ := it_twice hL h (by omega)
   obtain ⟨z, hz, hr⟩ := it_less h (show j ≤ n + 1 by omega)
   rw [h2] at hz
   cases hz
   have h3 := it_add' h1 hr
   rw [show i + (n + 1 - j) = (n - (j - i)) + 1 by omega] at h3
   exact ih _ (by omega) h3
def upd (f : Int → Option Int) (c p : Int) : Int → Option Int := fun x => if x = c then some p else f x
def acyc (f : Int → Option Int) : Prop := ∀ c, ¬ Ab f c c
theorem first_hit {f : Int → Option Int} {o c : Int} : ∀ {i : Nat}, it f i o = some c → ∃ m, m ≤ i ∧ it f m o = some c ∧ ∀ j, j < m → it f j o ≠ some c := by
 intro i
 induction i using Nat.strongRecOn with
 | ind i ih =>
  intro h
  by_cases hx : ∃ j, j < i ∧ it f j o = some c
  ·obtain ⟨j, hj, hc⟩ := hx
   obtain ⟨m, hm, h1, h2⟩ := ih j hj hc
   exact ⟨m, by omega, h1, h2⟩
  ·exact ⟨i, Nat.le_refl _, h, fun j hj hc => hx ⟨j, hj, hc⟩⟩
/-- two that are the same but at c go the same way, as long as that does not come to c -/
theorem it_off {f g : Int → Option Int} {c : Int} (hfg : ∀ x, x ≠ c → f x = g x) {o : Int} : ∀ {m : Nat}, (∀ j, j < m → it f j o ≠ some c) → it g m o = it f m o
 | 0, _ => rfl
 | m + 1, h => by
  have ih := it_off hfg (o := o) (m := m) (fun j hj => h j (by omega))
  rw [it_add, it_add, ih]
  cases hm : it f m o with
  | none => rfl
  | some y =>
   have hy : y ≠ c := fun e => h m (Nat.lt_succ_self _) (by rw [hm, e])
   show it g 1 y = it f 1 y
   rw [it_one, it_one, hfg y hy]
theorem upd_off (f : Int → Option Int) (c p : Int) : ∀ x, x ≠ c → f x = upd f c p x := fun x h => by unfold upd; rw [if_neg h]
theorem upd_on (f : Int → Option Int) (c p : Int) : upd f c p c = some p := by unfold upd; rw [if_pos rfl]
theorem ab_off {f g : Int → Option Int} {c o : Int} (hfg : ∀ x, x ≠ c → f x = g x) (ho : o ≠ c) (h : Ab f c o) : Ab g c o := by
 obtain ⟨i, hi⟩ := h
 obtain ⟨m, hm, h1, h2⟩ := first_hit hi
 cases m with
 | zero => exact absurd (Option.some.inj h1) ho
 | succ m => exact ⟨m, by rw [it_off hfg h2]; exact h1⟩
theorem upd_acyc {f : Int → Option Int} {c p : Int} (ha : acyc f) (h1 : p ≠ c) (h2 : ¬ Ab f c p) : acyc (upd f c p) := by
 rintro x ⟨i, hi⟩
 by_cases hx : ∃ j, j < i + 1 ∧ it (upd f c p) j x = some c
 ·obtain ⟨j, hj, hc⟩ := hx
  obtain ⟨y, hy, hr⟩ := it_less hi (Nat.le_of_lt hj)
  rw [hc] at hy
  cases hy
  have h3 := it_add' hr hc
  rw [show i + 1 - j + j = i + 1 by omega] at h3
  have h4 : Ab (upd f c p) c c := ⟨i, h3⟩
  rcases (Ab.up (upd_on f c p)).1 h4 with h5 | h5
  ·exact h1 h5
  ·exact h2 (ab_off (fun x hx => (upd_off f c p x hx).symm) h1 h5)
 ·have h3 := it_off (fun x hx => (upd_off f c p x hx).symm) (g := f) (o := x) (m := i + 1) (fun j hj hc => hx ⟨j, hj, hc⟩)
  rw [hi] at h3
  exact ha x ⟨i, h3⟩
theorem upd_cyc {f : Int → Option Int} {c p : Int} (h : p = c ∨ Ab f c p) : ¬ acyc (upd f c p) := fun ha => by
 refine ha c ((Ab.up (upd_on f c p)).2 ?_)
 by_cases hp : p = c
 ·exact .inl hp
 ·rcases h with h | h
  ·exact absurd h hp
  ·exact .inr (ab_off (upd_off f c p) hp h)
theorem upd_below {f : Int → Option Int} {c p o : Int} (ha : acyc f) (h1 : p ≠ c) (h2 : ¬ Ab f c p) : Ab (upd f c p) c o ↔ Ab f c o := by
 by_cases ho : o = c
 ·subst ho
  exact ⟨fun h => absurd h (upd_acyc ha h1 h2 o), fun h => absurd h (ha o)⟩
 ·exact ⟨ab_off (fun x hx => (upd_off f c p x hx).symm) ho, ab_off (upd_off f c p) ho⟩
theorem upd_under (f : Int → Option Int) (c p : Int) : Ab (upd f c p) p c := (Ab.up (upd_on f c p)).2 (.inl rfl)
/-- without c's: the way that does not come to c is the same -/
def cut (f : Int → Option Int) (c : Int) : Int → Option Int := fun x => if x = c then none else f x
theorem cut_off (f : Int → Option Int) (c : Int) : ∀ x, x ≠ c → f x = cut f c x := fun x h => by unfold cut; rw [if_neg h]
theorem cut_sub {f : Int → Option Int} {c : Int} : ∀ {i : Nat} {o x : Int}, it (cut f c) i o = some x → it f i o = some x
 | 0, _, _, h => h
 | i + 1, o, x, h => by
  unfold it at h ⊢
  by_cases ho : o = c
  ·unfold cut at h; rw [if_pos ho] at h; cases h
  ·rw [← cut_off f c o ho] at h
   cases hf : f o with
   | none => rw [hf] at h; cases h
   | some p => rw [hf] at h; exact cut_sub h
theorem cut_acyc {f : Int → Option Int} (c : Int) (h : acyc f) : acyc (cut f c) := by
 rintro x ⟨i, hi⟩
 exact h x ⟨i, cut_sub hi⟩
/-- the root is reached -/
def reach (f : Int → Option Int) (c : Int) : Prop := ∃ i, it f i c = some 0
theorem reach_iff {f : Int → Option Int} (c : Int) : reach f c ↔ c = 0 ∨ Ab f 0 c := by
 constructor
 ·rintro ⟨i, hi⟩
  cases i with
  | zero => exact .inl (Option.some.inj hi)
  | succ i => exact .inr ⟨i, hi⟩
 ·rintro (rfl | ⟨i, hi⟩)
  ·exact ⟨0, rfl⟩
  ·exact ⟨i + 1, hi⟩
theorem cut_reach {f : Int → Option Int} {c : Int} (hc : c ≠ 0) {o : Int} (ho : o ≠ c) : reach (cut f c) o ↔ reach f o ∧ (f 0 = none → ¬ Ab f c o) ∧ (f 0 ≠ none → reach (cut f c) o) := by
 constructor
 ·rintro ⟨i, hi⟩
  refine ⟨⟨i, cut_sub hi⟩, fun h0 => ?_, fun _ => ⟨i, hi⟩⟩
  rintro ⟨j, hj⟩
  have hi' := cut_sub hi
  rcases Nat.lt_or_ge i (j + 1) with hlt | hge
  ·obtain ⟨y, hy, hr⟩ := it_less hj (show i ≤ j + 1 by omega)
   rw [hi'] at hy
   cases hy
   rw [show j + 1 - i = (j - i) + 1 by omega] at hr
   unfold it at hr
   rw [h0] at hr
   cases hr
  ·obtain ⟨m, hm, h1, h2⟩ := first_hit hj
   have e := it_off (cut_off f c) h2
   obtain ⟨y, hy, hr⟩ := it_less hi (show m ≤ i by omega)
   rw [e, h1] at hy
   cases hy
   cases hd : i - m with
   | zero => rw [hd] at hr; exact hc (Option.some.inj hr)
   | succ k =>
    rw [hd] at hr
    unfold it cut at hr
    rw [if_pos rfl] at hr
    cases hr
 ·rintro ⟨⟨i, hi⟩, h1, h2⟩
  by_cases h0 : f 0 = none
  ·refine ⟨i, ?_⟩
   rw [it_off (cut_off f c)]
   ·exact hi
   ·intro j hj hjc
    cases j with
    | zero => exact ho (Option.some.inj hjc)
    | succ j => exact h1 h0 ⟨j, hjc⟩
  ·exact h2 h0
end Gr
end Go.Proofs.YtkobmnbjeppnaaaGreat
