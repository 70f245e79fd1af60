/-
 Rows in the stable order, plain: what may change between two places, what a merge by halves does.
-/
import Derived.Test.YtkobmnbjeppnaaaGreatPe
namespace Go.Proofs.YtkobmnbjeppnaaaGreat
open Fl
/-- stands in order between two places -/
def AscT (L : List Rw) (i j : Nat) : Prop := ∀ (p q : Nat) (x y : Rw), i ≤ p → p < q → q < j → L[p]? = some x → L[q]? = some y → ch x ≤ ch y
theorem AscT.sub {L : List Rw} {i j i' j' : Nat} (h : AscT L i j) (hi : i ≤ i') (hj : j' ≤ j) : AscT L i' j' := fun p q x y h1 h2 h3 => h p q x y (by omega) h2 (by omega)
theorem AscT.le {L : List Rw} {i j : Nat} (h : AscT L i j) {p q : Nat} {x y : Rw} (h1 : i ≤ p) (h2 : p ≤ q) (h3 : q < j) (hx : L[p]? = some x) (hy : L[q]? = some y) : ch x ≤ ch y := by
 rcases Nat.lt_or_eq_of_le h2 with h | rfl
 ·exact (by assumption : AscT L i j) p q x y h1 h h3 hx hy
 ·rw [hx] at hy; cases hy; exact Int.le_refl _
theorem AscT.few {L : List Rw} {i j : Nat} (h : j ≤ i + 1) : AscT L i j := fun p q x y h1 h2 h3 => by omega
theorem AscT.same {L L' : List Rw} {i j : Nat} (h : AscT L i j) (he : ∀ k, i ≤ k → k < j → L'[k]? = L[k]?) : AscT L' i j := fun p q x y h1 h2 h3 hx hy =>
 h p q x y h1 h2 h3 (by rw [← he p h1 (by omega)]; exact hx) (by rw [← he q (by omega) h3]; exact hy)
theorem asc_iff : ∀ {l : List Rw}, ascB l = true ↔ l.Pairwise fun x y => ch x ≤ ch y
 | [] => by simp [ascB]
 | [x] => by simp [ascB]
 | x :: y :: t => by
  rw [asc_cons, asc_iff (l := y :: t), List.pairwise_cons (a := x)]
  constructor
  ·rintro ⟨h1, h2⟩
   refine ⟨fun z hz => ?_, h2⟩
   rcases List.mem_cons.1 hz with rfl | hz
   ·exact h1
   ·exact Int.le_trans h1 ((List.pairwise_cons.1 h2).1 z hz)
  ·rintro ⟨h1, h2⟩
   exact ⟨h1 y (by simp), h2⟩
theorem asc_all {l : List Rw} (h : AscT l 0 l.length) : ascB l = true := by
 rw [asc_iff, List.pairwise_iff_getElem]
 intro i j hi hj hij
 exact h i j _ _ (Nat.zero_le _) hij hj (List.getElem?_eq_getElem hi) (List.getElem?_eq_getElem hj)
/-- the same rows of each child, in the same order -/
def Flt (X Y : List Rw) : Prop := ∀ c : Int, Y.filter (fun x => decide (ch x = c)) = X.filter (fun x => decide (ch x = c))
theorem Flt.refl (X : List Rw) : Flt X X := fun _ => rfl
theorem Flt.trans {X Y Z : List Rw} (h : Flt X Y) (k : Flt Y Z) : Flt X Z := fun c => (k c).trans (h c)
theorem Flt.app {X X' Y Y' : List Rw} (h : Flt X X') (k : Flt Y Y') : Flt (X ++ Y) (X' ++ Y') := fun c => by rw [List.filter_append, List.filter_append, h c, k c]
theorem Flt.swap {X Y : List Rw} (h : ∀ x ∈ X, ∀ y ∈ Y, ch x ≠ ch y) : Flt (X ++ Y) (Y ++ X) := fun c => by
 rw [List.filter_append, List.filter_append]
 by_cases hx : ∃ x ∈ X, ch x = c
 ·obtain ⟨x, hx, hc⟩ := hx
  have : Y.filter (fun x => decide (ch x = c)) = [] := List.filter_eq_nil_iff.2 fun y hy => by simp only [decide_eq_true_iff]; exact fun e => h x hx y hy (by omega)
  rw [this]; simp
 ·have : X.filter (fun x => decide (ch x = c)) = [] := List.filter_eq_nil_iff.2 fun x hx' => by simp only [decide_eq_true_iff]; exact fun e => hx ⟨x, hx', e⟩
  rw [this]; simp
theorem Flt.mem {X Y : List Rw} (h : Flt X Y) {z : Rw} : z ∈ Y ↔ z ∈ X := by
 have := h (ch z)
 constructor
 ·intro hz
  have h1 : z ∈ Y.filter (fun x => decide (ch x = ch z)) := List.mem_filter.2 ⟨hz, by simp⟩
  rw [this] at h1
  exact (List.mem_filter.1 h1).1
 ·intro hz
  have h1 : z ∈ X.filter (fun x => decide (ch x = ch z)) := List.mem_filter.2 ⟨hz, by simp⟩
  rw [← this] at h1
  exact (List.mem_filter.1 h1).1
theorem flt_cons_head {y : Rw} {t : List Rw} {c : Int} (h : ch y = c) : (y :: t).filter (fun x => decide (ch x = c)) = y :: t.filter (fun x => decide (ch x = c)) := by rw [List.filter_cons, if_pos (by simpa using h)]
theorem flt_cons_off {y : Rw} {t : List Rw} {c : Int} (h : ch y ≠ c) : (y :: t).filter (fun x => decide (ch x = c)) = t.filter (fun x => decide (ch x = c)) := by rw [List.filter_cons, if_neg (by simpa using h)]
theorem flt_unique : ∀ {Y Z : List Rw}, (Y.Pairwise fun x y => ch x ≤ ch y) → (Z.Pairwise fun x y => ch x ≤ ch y) → Flt Y Z → Y = Z
 | [], Z, _, _, h => by
  cases Z with
  | nil => rfl
  | cons z u => exact absurd (h.mem.1 (List.mem_cons_self ..)) (by simp)
 | y :: t, [], _, _, h => absurd (h.mem.2 (List.mem_cons_self ..)) (by simp)
 | y :: t, z :: u, hy, hz, h => by
  have h1 := List.pairwise_cons.1 hy
  have h2 := List.pairwise_cons.1 hz
  have hc : ch y = ch z := by
   have m1 : z ∈ y :: t := h.mem.1 (List.mem_cons_self ..)
   have m2 : y ∈ z :: u := h.mem.2 (List.mem_cons_self ..)
   have a1 : ch y ≤ ch z := by
    rcases List.mem_cons.1 m1 with e | m
    ·rw [e]; exact Int.le_refl _
    ·exact h1.1 z m
   have a2 : ch z ≤ ch y := by
    rcases List.mem_cons.1 m2 with e | m
    ·rw [e]; exact Int.le_refl _
    ·exact h2.1 y m
   omega
  have hh := h (ch y)
  rw [flt_cons_head rfl, flt_cons_head hc.symm] at hh
  injection hh with e1 e2
  subst e1
  have : Flt t u := fun c => by
   by_cases hcc : ch z = c
   ·subst hcc; exact e2
   ·have := h c
    rwa [flt_cons_off hcc, flt_cons_off hcc] at this
  rw [flt_unique h1.2 h2.2 this]
theorem insS_flt (x : Rw) : ∀ l : List Rw, Flt (x :: l) (insS x l)
 | [] => Flt.refl _
 | y :: t => by
  unfold insS
  split
  ·exact Flt.refl _
  ·rename_i hc
   have h1 : Flt (x :: y :: t) (y :: x :: t) := Flt.app (X := [x] ++ [y]) (X' := [y] ++ [x]) (Y := t) (Flt.swap (fun a ha b hb => by simp at ha hb; subst ha; subst hb; omega)) (Flt.refl t)
   exact h1.trans (Flt.app (X := [y]) (X' := [y]) (Flt.refl _) (insS_flt x t))
theorem srt_flt : ∀ l : List Rw, Flt l (srt l)
 | [] => Flt.refl _
 | x :: t => (Flt.app (X := [x]) (X' := [x]) (Flt.refl _) (srt_flt t)).trans (insS_flt x (srt t))
theorem srt_of {l Y : List Rw} (ha : ascB Y = true) (h : Flt l Y) : Y = srt l :=
 flt_unique (asc_iff.1 ha) (asc_iff.1 (srt_asc l)) (fun c => (srt_flt l c).trans (h c).symm)
/-- rows that were changed between two places alone, those of one child left in their order -/
structure Chg (L L' : List Rw) (a b : Nat) : Prop where
 len : L'.length = L.length
 flt : Flt L L'
 out : ∀ k, (k < a ∨ b ≤ k) → L'[k]? = L[k]?
 mem : ∀ k x, a ≤ k → k < b → L'[k]? = some x → ∃ k', a ≤ k' ∧ k' < b ∧ L[k']? = some x
theorem Chg.refl (L : List Rw) (a b : Nat) : Chg L L a b := ⟨rfl, Flt.refl _, fun _ _ => rfl, fun k _ h1 h2 h3 => ⟨k, h1, h2, h3⟩⟩
theorem Chg.trans {L M N : List Rw} {a b : Nat} (h : Chg L M a b) (k : Chg M N a b) : Chg L N a b :=
 ⟨k.len.trans h.len, h.flt.trans k.flt, fun i hi => (k.out i hi).trans (h.out i hi), fun i x h1 h2 h3 => by
  obtain ⟨j, j1, j2, j3⟩ := k.mem i x h1 h2 h3
  exact h.mem j x j1 j2 j3⟩
theorem Chg.wide {L M : List Rw} {a b a' b' : Nat} (h : Chg L M a b) (ha : a' ≤ a) (hb : b ≤ b') : Chg L M a' b' :=
 ⟨h.len, h.flt, fun i hi => h.out i (by omega), fun i x h1 h2 h3 => by
  by_cases hi : a ≤ i ∧ i < b
  ·obtain ⟨j, j1, j2, j3⟩ := h.mem i x hi.1 hi.2 h3
   exact ⟨j, by omega, by omega, j3⟩
  ·rw [h.out i (by omega)] at h3
   exact ⟨i, h1, h2, h3⟩⟩
/-- two rows of unlike children that stand beside one another change places -/
theorem swap_two {α : Type} (A B C : List α) (x y : α) : ((A ++ x :: B ++ y :: C).set A.length y).set (A.length + 1 + B.length) x = A ++ y :: B ++ x :: C := by
 have e1 : (A ++ x :: B ++ y :: C).set A.length y = A ++ y :: B ++ y :: C := by
  rw [List.append_assoc, List.set_append_right _ _ (Nat.le_refl _), Nat.sub_self, List.cons_append, List.set_cons_zero, List.append_assoc, List.cons_append]
 rw [e1, List.set_append_right _ _ (by simp; omega)]
 rw [show A.length + 1 + B.length - (A ++ y :: B).length = 0 by simp; omega, List.set_cons_zero]
theorem split_at {α : Type} {L : List α} {k : Nat} {x : α} (h : L[k]? = some x) : L = L.take k ++ x :: L.drop (k + 1) := by
 have hk := (List.getElem?_eq_some_iff.1 h).1
 have he := (List.getElem?_eq_some_iff.1 h).2
 conv => lhs; rw [← List.take_append_drop k L, List.drop_eq_getElem_cons hk, he]
theorem Chg.adj {L : List Rw} {a b k : Nat} {x y : Rw} (hx : L[k]? = some x) (hy : L[k + 1]? = some y) (hne : ch x ≠ ch y) (ha : a ≤ k) (hb : k + 1 < b) : Chg L ((L.set k y).set (k + 1) x) a b := by
 have hk1 := (List.getElem?_eq_some_iff.1 hy).1
 have hd : (L.drop (k + 1))[0]? = some y := by rw [List.getElem?_drop]; exact hy
 have e2 := split_at hd
 rw [List.take_zero, List.nil_append, List.drop_drop] at e2
 have e1 := split_at hx
 rw [e2] at e1
 have hlen : (L.take k).length = k := by rw [List.length_take]; omega
 refine ⟨by simp, ?_, fun i hi => by rw [List.getElem?_set_ne (by omega), List.getElem?_set_ne (by omega)], ?_⟩
 ·have e3 := swap_two (L.take k) [] (L.drop (k + 1 + (0 + 1))) x y
  rw [hlen] at e3
  simp only [List.length_nil, Nat.add_zero] at e3
  have e4 : ((L.set k y).set (k + 1) x) = L.take k ++ y :: [] ++ x :: L.drop (k + 1 + (0 + 1)) := by
   rw [← e3]
   congr 2
   conv => lhs; rw [e1]
   simp
  rw [e4]
  conv => arg 1; rw [e1]
  rw [show L.take k ++ x :: y :: L.drop (k + 1 + (0 + 1)) = L.take k ++ (([x] ++ [y]) ++ L.drop (k + 1 + (0 + 1))) by simp, show L.take k ++ y :: [] ++ x :: L.drop (k + 1 + (0 + 1)) = L.take k ++ (([y] ++ [x]) ++ L.drop (k + 1 + (0 + 1))) by simp]
  exact Flt.app (Flt.refl _) (Flt.app (Flt.swap (fun a ha b hb => by simp at ha hb; rw [ha, hb]; exact hne)) (Flt.refl _))
 ·intro i z h1 h2 hz
  by_cases hi1 : i = k + 1
  ·subst hi1
   rw [List.getElem?_set_self (by simp; omega)] at hz
   cases hz
   exact ⟨k, ha, by omega, hx⟩
  ·rw [List.getElem?_set_ne (by omega)] at hz
   by_cases hi2 : i = k
   ·subst hi2
    rw [List.getElem?_set_self (by omega)] at hz
    cases hz
    exact ⟨i + 1, by omega, hb, hy⟩
   ·rw [List.getElem?_set_ne (by omega)] at hz
    exact ⟨i, h1, h2, hz⟩
/-- two stretches beside one another change places -/
theorem rot_at {P X Y S : List Rw} {L : List Rw} {a m b : Nat} (hL : L = P ++ X ++ Y ++ S) (ha : P.length = a) (hm : a + X.length = m) (hb : m + Y.length = b) (k : Nat) :
  (P ++ Y ++ X ++ S)[k]? = if k < a then L[k]? else if k < a + (b - m) then L[k - a + m]? else if k < b then L[k - (b - m)]? else L[k]? := by
 subst hL
 by_cases h1 : k < a
 ·rw [if_pos h1, List.append_assoc, List.append_assoc, List.getElem?_append_left (by omega), List.append_assoc, List.append_assoc, List.getElem?_append_left (by omega)]
 ·rw [if_neg h1]
  by_cases h2 : k < a + (b - m)
  ·rw [if_pos h2, List.append_assoc, List.getElem?_append_left (by simp; omega), List.getElem?_append_right (by omega), List.append_assoc, List.getElem?_append_right (by simp; omega), List.getElem?_append_left (by simp; omega)]
   congr 1; simp; omega
  ·rw [if_neg h2]
   by_cases h3 : k < b
   ·rw [if_pos h3, List.getElem?_append_left (by simp; omega), List.getElem?_append_right (by simp; omega), List.append_assoc, List.append_assoc, List.getElem?_append_right (by omega), List.getElem?_append_left (by first | omega | (simp; omega))]
    congr 1; simp; omega
   ·rw [if_neg h3, List.getElem?_append_right (by simp; omega), List.getElem?_append_right (by simp; omega), show k - (P ++ Y ++ X).length = k - (P ++ X ++ Y).length by simp; omega]
theorem Chg.rot {P X Y S : List Rw} {L : List Rw} {a m b : Nat} (hL : L = P ++ X ++ Y ++ S) (ha : P.length = a) (hm : a + X.length = m) (hb : m + Y.length = b) (hne : ∀ x ∈ X, ∀ y ∈ Y, ch x ≠ ch y) : Chg L (P ++ Y ++ X ++ S) a b := by
 refine ⟨by subst hL; simp; omega, ?_, fun k hk => ?_, fun k x h1 h2 h3 => ?_⟩
 ·subst hL
  rw [List.append_assoc P X Y, List.append_assoc P Y X]
  exact Flt.app (Flt.app (Flt.refl _) (Flt.swap hne)) (Flt.refl _)
 ·rw [rot_at hL ha hm hb]
  by_cases h1 : k < a
  ·rw [if_pos h1]
  ·rw [if_neg h1, if_neg (by omega), if_neg (by omega)]
 ·rw [rot_at hL ha hm hb, if_neg (by omega)] at h3
  by_cases h4 : k < a + (b - m)
  ·rw [if_pos h4] at h3
   exact ⟨_, by omega, by omega, h3⟩
  ·rw [if_neg h4, if_pos h2] at h3
   exact ⟨_, by omega, by omega, h3⟩
/-- a stretch as it stands -/
theorem cut4 (L : List Rw) {a m b : Nat} (h1 : a ≤ m) (h2 : m ≤ b) (h3 : b ≤ L.length) : ∃ P X Y S, L = P ++ X ++ Y ++ S ∧ P.length = a ∧ a + X.length = m ∧ m + Y.length = b := by
 refine ⟨L.take a, (L.drop a).take (m - a), (L.drop m).take (b - m), L.drop b, ?_, by simp; omega, by simp; omega, by simp; omega⟩
 have e1 : L = L.take a ++ L.drop a := (List.take_append_drop a L).symm
 have e2 : L.drop a = (L.drop a).take (m - a) ++ L.drop m := by
  conv => lhs; rw [← List.take_append_drop (m - a) (L.drop a), List.drop_drop, show a + (m - a) = m by omega]
 have e3 : L.drop m = (L.drop m).take (b - m) ++ L.drop b := by
  conv => lhs; rw [← List.take_append_drop (b - m) (L.drop m), List.drop_drop, show m + (b - m) = b by omega]
 conv => lhs; rw [e1, e2, e3]
 simp
theorem mem_cut {P X R L : List Rw} {a m : Nat} (hL : L = P ++ X ++ R) (ha : P.length = a) (hm : a + X.length = m) {x : Rw} (hx : x ∈ X) : ∃ k, a ≤ k ∧ k < m ∧ L[k]? = some x := by
 obtain ⟨i, hi⟩ := List.mem_iff_getElem?.1 hx
 have hil := (List.getElem?_eq_some_iff.1 hi).1
 refine ⟨a + i, by omega, by omega, ?_⟩
 rw [hL, List.getElem?_append_left (by simp; omega), List.getElem?_append_right (by omega), show a + i - P.length = i by omega]
 exact hi
/-- the middle of a merge: what is found by halves, turned about, parts the rows in two that are merged apart -/
theorem sym_cross {L L2 : List Rw} {a m b mid s e : Nat} (hX : AscT L a m) (hY : AscT L m b)
  (ha : a ≤ s) (hs : s ≤ m) (he : m ≤ e) (hb : e ≤ b) (hmid : mid = s + (e - m))
  (h1 : ∀ x y, s < m → m < e → L[s]? = some x → L[e - 1]? = some y → ch y < ch x)
  (h2 : ∀ x y, a < s → e < b → L[s - 1]? = some x → L[e]? = some y → ch x ≤ ch y)
  (hl : b ≤ L.length)
  (hr : ∀ k, L2[k]? = if k < s then L[k]? else if k < mid then L[k - s + m]? else if k < e then L[k - (e - m)]? else L[k]?) :
  AscT L2 a s ∧ AscT L2 s mid ∧ AscT L2 mid e ∧ AscT L2 e b ∧ ∀ p q x y, a ≤ p → p < mid → mid ≤ q → q < b → L2[p]? = some x → L2[q]? = some y → ch x ≤ ch y := by
 have r1 : ∀ k, k < s → L2[k]? = L[k]? := fun k hk => by rw [hr, if_pos hk]
 have r2 : ∀ k, s ≤ k → k < mid → L2[k]? = L[k - s + m]? := fun k hk hk2 => by rw [hr, if_neg (by omega), if_pos hk2]
 have r3 : ∀ k, mid ≤ k → k < e → L2[k]? = L[k - (e - m)]? := fun k hk hk2 => by rw [hr, if_neg (by omega), if_neg (by omega), if_pos hk2]
 have r4 : ∀ k, e ≤ k → L2[k]? = L[k]? := fun k hk => by rw [hr, if_neg (by omega), if_neg (by omega), if_neg (by omega)]
 refine ⟨?_, ?_, ?_, ?_, ?_⟩
 ·intro p q x y p1 p2 p3 hx hy
  rw [r1 p (by omega)] at hx; rw [r1 q (by omega)] at hy
  exact hX p q x y p1 p2 (by omega) hx hy
 ·intro p q x y p1 p2 p3 hx hy
  rw [r2 p (by omega) (by omega)] at hx; rw [r2 q (by omega) (by omega)] at hy
  exact hY _ _ x y (by omega) (by omega) (by omega) hx hy
 ·intro p q x y p1 p2 p3 hx hy
  rw [r3 p (by omega) (by omega)] at hx; rw [r3 q (by omega) (by omega)] at hy
  exact hX _ _ x y (by omega) (by omega) (by omega) hx hy
 ·intro p q x y p1 p2 p3 hx hy
  rw [r4 p (by omega)] at hx; rw [r4 q (by omega)] at hy
  exact hY _ _ x y (by omega) (by omega) (by omega) hx hy
 ·intro p q x y p1 p2 p3 p4 hx hy
  by_cases hp : p < s
  ·rw [r1 p hp] at hx
   by_cases hq : q < e
   ·rw [r3 q p3 hq] at hy
    exact hX.le p1 (by omega) (by omega) hx hy
   ·rw [r4 q (by omega)] at hy
    obtain ⟨x', hx'⟩ : ∃ x', L[s - 1]? = some x' := ⟨_, List.getElem?_eq_getElem (by omega)⟩
    obtain ⟨y', hy'⟩ : ∃ y', L[e]? = some y' := ⟨_, List.getElem?_eq_getElem (by omega)⟩
    have q1 := hX.le p1 (show p ≤ s - 1 by omega) (by omega) hx hx'
    have q2 := h2 x' y' (by omega) (by omega) hx' hy'
    have q3 := hY.le (by omega) (show e ≤ q by omega) p4 hy' hy
    omega
  ·rw [r2 p (by omega) p2] at hx
   by_cases hq : q < e
   ·rw [r3 q p3 hq] at hy
    obtain ⟨x', hx'⟩ : ∃ x', L[s]? = some x' := ⟨_, List.getElem?_eq_getElem (by omega)⟩
    obtain ⟨y', hy'⟩ : ∃ y', L[e - 1]? = some y' := ⟨_, List.getElem?_eq_getElem (by omega)⟩
    have q1 := hX.le (by omega) (show s ≤ q - (e - m) by omega) (by omega) hx' hy
    have q2 := h1 x' y' (by omega) (by omega) hx' hy'
    have q3 := hY.le (by omega) (show p - s + m ≤ e - 1 by omega) (by omega) hx hy'
    omega
   ·rw [r4 q (by omega)] at hy
    exact hY.le (by omega) (by omega) p4 hx hy
theorem asc_join {L : List Rw} {a m b : Nat} (h1 : AscT L a m) (h2 : AscT L m b) (h : ∀ p q x y, a ≤ p → p < m → m ≤ q → q < b → L[p]? = some x → L[q]? = some y → ch x ≤ ch y) : AscT L a b := fun p q x y p1 p2 p3 hx hy => by
 by_cases hp : p < m
 ·by_cases hq : q < m
  ·exact h1 p q x y p1 p2 hq hx hy
  ·exact h p q x y p1 hp (by omega) p3 hx hy
 ·exact h2 p q x y (by omega) p2 p3 hx hy
theorem cross_chg {L L' : List Rw} {a m b : Nat} (h : ∀ p q x y, a ≤ p → p < m → m ≤ q → q < b → L[p]? = some x → L[q]? = some y → ch x ≤ ch y) (hc : Chg L L' a m ∨ Chg L L' m b) :
  ∀ p q x y, a ≤ p → p < m → m ≤ q → q < b → L'[p]? = some x → L'[q]? = some y → ch x ≤ ch y := fun p q x y p1 p2 p3 p4 hx hy => by
 rcases hc with hc | hc
 ·obtain ⟨p', q1, q2, q3⟩ := hc.mem p x p1 p2 hx
  rw [hc.out q (by omega)] at hy
  exact h p' q x y q1 q2 p3 p4 q3 hy
 ·obtain ⟨q', q1, q2, q3⟩ := hc.mem q y p3 p4 hy
  rw [hc.out p (by omega)] at hx
  exact h p q' x y p1 p2 q1 q2 hx q3
end Go.Proofs.YtkobmnbjeppnaaaGreat
