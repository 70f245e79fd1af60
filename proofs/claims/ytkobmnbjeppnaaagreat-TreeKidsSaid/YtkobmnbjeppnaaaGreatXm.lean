/-
 Kids in the stable order by rank and child: plain: what may change between two places, what merges do, and that of these comes kidsR.
-/
import Derived.Test.YtkobmnbjeppnaaaGreatSa
import Derived.Test.YtkobmnbjeppnaaaGreatXj
namespace Go.Proofs.YtkobmnbjeppnaaaGreat
namespace Kk
open Fl
set_option maxRecDepth 100000
/-- the key of a row among kids: its rank's, then its child -/
def kk (r : Rw) : Int := (ky (rk r) : Int) * 36893488147419103232 + ch r
/-- stands in order between two places -/
def AscT (L : List Rw) (i j : Nat) : Prop := ∀ (p q : Nat) (x y : Rw), i ≤ p → p < q → q < j → L[p]? = some x → L[q]? = some y → kk x ≤ kk y
theorem AscT.sub {L : List Rw} {i j i' j' : Nat} (h : AscT L i j) (hi : i ≤ i') (hj : j' ≤ j) : AscT L i' j' := fun p q x y h1 h2 h3 => h p q x y (by omega) h2 (by omega)
theorem AscT.le {L : List Rw} {i j : Nat} (h : AscT L i j) {p q : Nat} {x y : Rw} (h1 : i ≤ p) (h2 : p ≤ q) (h3 : q < j) (hx : L[p]? = some x) (hy : L[q]? = some y) : kk x ≤ kk y := by
 rcases Nat.lt_or_eq_of_le h2 with h | rfl
 ·exact (by assumption : AscT L i j) p q x y h1 h h3 hx hy
 ·rw [hx] at hy; cases hy; exact Int.le_refl _
theorem AscT.few {L : List Rw} {i j : Nat} (h : j ≤ i + 1) : AscT L i j := fun p q x y h1 h2 h3 => by omega
theorem AscT.same {L L' : List Rw} {i j : Nat} (h : AscT L i j) (he : ∀ k, i ≤ k → k < j → L'[k]? = L[k]?) : AscT L' i j := fun p q x y h1 h2 h3 hx hy =>
 h p q x y h1 h2 h3 (by rw [← he p h1 (by omega)]; exact hx) (by rw [← he q (by omega) h3]; exact hy)
/-- the same rows of each child, in the same order -/
def Flt (X Y : List Rw) : Prop := ∀ c : Int, Y.filter (fun x => decide (kk x = c)) = X.filter (fun x => decide (kk x = c))
theorem Flt.refl (X : List Rw) : Flt X X := fun _ => rfl
theorem Flt.trans {X Y Z : List Rw} (h : Flt X Y) (k : Flt Y Z) : Flt X Z := fun c => (k c).trans (h c)
theorem Flt.app {X X' Y Y' : List Rw} (h : Flt X X') (k : Flt Y Y') : Flt (X ++ Y) (X' ++ Y') := fun c => by rw [List.filter_append, List.filter_append, h c, k c]
theorem Flt.swap {X Y : List Rw} (h : ∀ x ∈ X, ∀ y ∈ Y, kk x ≠ kk y) : Flt (X ++ Y) (Y ++ X) := fun c => by
 rw [List.filter_append, List.filter_append]
 by_cases hx : ∃ x ∈ X, kk x = c
 ·obtain ⟨x, hx, hc⟩ := hx
  have : Y.filter (fun x => decide (kk x = c)) = [] := List.filter_eq_nil_iff.2 fun y hy => by simp only [decide_eq_true_iff]; exact fun e => h x hx y hy (by omega)
  rw [this]; simp
 ·have : X.filter (fun x => decide (kk x = c)) = [] := List.filter_eq_nil_iff.2 fun x hx' => by simp only [decide_eq_true_iff]; exact fun e => hx ⟨x, hx', e⟩
  rw [this]; simp
theorem Flt.mem {X Y : List Rw} (h : Flt X Y) {z : Rw} : z ∈ Y ↔ z ∈ X := by
 have := h (kk z)
 constructor
 ·intro hz
  have h1 : z ∈ Y.filter (fun x => decide (kk x = kk z)) := List.mem_filter.2 ⟨hz, by simp⟩
  rw [this] at h1
  exact (List.mem_filter.1 h1).1
 ·intro hz
  have h1 : z ∈ X.filter (fun x => decide (kk x = kk z)) := List.mem_filter.2 ⟨hz, by simp⟩
  rw [← this] at h1
  exact (List.mem_filter.1 h1).1
theorem flt_cons_head {y : Rw} {t : List Rw} {c : Int} (h : kk y = c) : (y :: t).filter (fun x => decide (kk x = c)) = y :: t.filter (fun x => decide (kk x = c)) := by rw [List.filter_cons, if_pos (by simpa using h)]
theorem flt_cons_off {y : Rw} {t : List Rw} {c : Int} (h : kk y ≠ c) : (y :: t).filter (fun x => decide (kk x = c)) = t.filter (fun x => decide (kk x = c)) := by rw [List.filter_cons, if_neg (by simpa using h)]
theorem flt_unique : ∀ {Y Z : List Rw}, (Y.Pairwise fun x y => kk x ≤ kk y) → (Z.Pairwise fun x y => kk x ≤ kk y) → Flt Y Z → Y = Z
 | [], Z, _, _, h => by
  cases Z with
  | nil => rfl
  | cons z u => exact absurd (h.mem.1 (List.mem_cons_self ..)) (by simp)
 | y :: t, [], _, _, h => absurd (h.mem.2 (List.mem_cons_self ..)) (by simp)
 | y :: t, z :: u, hy, hz, h => by
  have h1 := List.pairwise_cons.1 hy
  have h2 := List.pairwise_cons.1 hz
  have hc : kk y = kk z := by
   have m1 : z ∈ y :: t := h.mem.1 (List.mem_cons_self ..)
   have m2 : y ∈ z :: u := h.mem.2 (List.mem_cons_self ..)
   have a1 : kk y ≤ kk z := by
    rcases List.mem_cons.1 m1 with e | m
    ·rw [e]; exact Int.le_refl _
    ·exact h1.1 z m
   have a2 : kk z ≤ kk y := by
    rcases List.mem_cons.1 m2 with e | m
    ·rw [e]; exact Int.le_refl _
    ·exact h2.1 y m
   omega
  have hh := h (kk y)
  rw [flt_cons_head rfl, flt_cons_head hc.symm] at hh
  injection hh with e1 e2
  subst e1
  have : Flt t u := fun c => by
   by_cases hcc : kk z = c
   ·subst hcc; exact e2
   ·have := h c
    rwa [flt_cons_off hcc, flt_cons_off hcc] at this
  rw [flt_unique h1.2 h2.2 this]
/-- rows that were changed between two places alone, those of one child left in their order -/
structure Chg (L L' : List Rw) (a b : Nat) : Prop where
 len : L'.length = L.length
 flt : Flt L L'
 out : ∀ k, (k < a ∨ b ≤ k) → L'[k]? = L[k]?
 mem : ∀ k x, a ≤ k → k < b → L'[k]? = some x → ∃ k', a ≤ k' ∧ k' < b ∧ L[k']? = some x
theorem Chg.refl (L : List Rw) (a b : Nat) : Chg L L a b := ⟨rfl, Flt.refl _, fun _ _ => rfl, fun k _ h1 h2 h3 => ⟨k, h1, h2, h3⟩⟩
theorem Chg.trans {L M N : List Rw} {a b : Nat} (h : Chg L M a b) (k : Chg M N a b) : Chg L N a b :=
 ⟨k.len.trans h.len, h.flt.trans k.flt, fun i hi => (k.out i hi).trans (h.out i hi), fun i x h1 h2 h3 => by
  obtain ⟨j, j1, j2, j3⟩ := k.mem i x h1 h2 h3
  exact h.mem j x j1 j2 j3⟩
theorem Chg.wide {L M : List Rw} {a b a' b' : Nat} (h : Chg L M a b) (ha : a' ≤ a) (hb : b ≤ b') : Chg L M a' b' :=
 ⟨h.len, h.flt, fun i hi => h.out i (by omega), fun i x h1 h2 h3 => by
  by_cases hi : a ≤ i ∧ i < b
  ·obtain ⟨j, j1, j2, j3⟩ := h.mem i x hi.1 hi.2 h3
   exact ⟨j, by omega, by omega, j3⟩
  ·rw [h.out i (by omega)] at h3
   exact ⟨i, h1, h2, h3⟩⟩
theorem Chg.adj {L : List Rw} {a b k : Nat} {x y : Rw} (hx : L[k]? = some x) (hy : L[k + 1]? = some y) (hne : kk x ≠ kk y) (ha : a ≤ k) (hb : k + 1 < b) : Chg L ((L.set k y).set (k + 1) x) a b := by
 have hk1 := (List.getElem?_eq_some_iff.1 hy).1
 have hd : (L.drop (k + 1))[0]? = some y := by rw [List.getElem?_drop]; exact hy
 have e2 := split_at hd
 rw [List.take_zero, List.nil_append, List.drop_drop] at e2
 have e1 := split_at hx
 rw [e2] at e1
 have hlen : (L.take k).length = k := by rw [List.length_take]; omega
 refine ⟨by simp, ?_, fun i hi => by rw [List.getElem?_set_ne (by omega), List.getElem?_set_ne (by omega)], ?_⟩
 ·have e3 := swap_two (L.take k) [] (L.drop (k + 1 + (0 + 1))) x y
  rw [hlen] at e3
  simp only [List.length_nil, Nat.add_zero] at e3
  have e4 : ((L.set k y).set (k + 1) x) = L.take k ++ y :: [] ++ x :: L.drop (k + 1 + (0 + 1)) := by
   rw [← e3]
   congr 2
   conv => lhs; rw [e1]
   simp
  rw [e4]
  conv => arg 1; rw [e1]
  rw [show L.take k ++ x :: y :: L.drop (k + 1 + (0 + 1)) = L.take k ++ (([x] ++ [y]) ++ L.drop (k + 1 + (0 + 1))) by simp, show L.take k ++ y :: [] ++ x :: L.drop (k + 1 + (0 + 1)) = L.take k ++ (([y] ++ [x]) ++ L.drop (k + 1 + (0 + 1))) by simp]
  exact Flt.app (Flt.refl _) (Flt.app (Flt.swap (fun a ha b hb => by simp at ha hb; rw [ha, hb]; exact hne)) (Flt.refl _))
 ·intro i z h1 h2 hz
  by_cases hi1 : i = k + 1
  ·subst hi1
   rw [List.getElem?_set_self (by simp; omega)] at hz
   cases hz
   exact ⟨k, ha, by omega, hx⟩
  ·rw [List.getElem?_set_ne (by omega)] at hz
   by_cases hi2 : i = k
   ·subst hi2
    rw [List.getElem?_set_self (by omega)] at hz
    cases hz
    exact ⟨i + 1, by omega, hb, hy⟩
   ·rw [List.getElem?_set_ne (by omega)] at hz
    exact ⟨i, h1, h2, hz⟩
theorem Chg.rot {P X Y S : List Rw} {L : List Rw} {a m b : Nat} (hL : L = P ++ X ++ Y ++ S) (ha : P.length = a) (hm : a + X.length = m) (hb : m + Y.length = b) (hne : ∀ x ∈ X, ∀ y ∈ Y, kk x ≠ kk y) : Chg L (P ++ Y ++ X ++ S) a b := by
 refine ⟨by subst hL; simp; omega, ?_, fun k hk => ?_, fun k x h1 h2 h3 => ?_⟩
 ·subst hL
  rw [List.append_assoc P X Y, List.append_assoc P Y X]
  exact Flt.app (Flt.app (Flt.refl _) (Flt.swap hne)) (Flt.refl _)
 ·rw [rot_at hL ha hm hb]
  by_cases h1 : k < a
  ·rw [if_pos h1]
  ·rw [if_neg h1, if_neg (by omega), if_neg (by omega)]
 ·rw [rot_at hL ha hm hb, if_neg (by omega)] at h3
  by_cases h4 : k < a + (b - m)
  ·rw [if_pos h4] at h3
   exact ⟨_, by omega, by omega, h3⟩
  ·rw [if_neg h4, if_pos h2] at h3
   exact ⟨_, by omega, by omega, h3⟩
/-- the middle of a merge: what is found by halves, turned about, parts the rows in two that are merged apart -/
theorem sym_cross {L L2 : List Rw} {a m b mid s e : Nat} (hX : AscT L a m) (hY : AscT L m b)
  (ha : a ≤ s) (hs : s ≤ m) (he : m ≤ e) (hb : e ≤ b) (hmid : mid = s + (e - m))
  (h1 : ∀ x y, s < m → m < e → L[s]? = some x → L[e - 1]? = some y → kk y < kk x)
  (h2 : ∀ x y, a < s → e < b → L[s - 1]? = some x → L[e]? = some y → kk x ≤ kk y)
  (hl : b ≤ L.length)
  (hr : ∀ k, L2[k]? = if k < s then L[k]? else if k < mid then L[k - s + m]? else if k < e then L[k - (e - m)]? else L[k]?) :
  AscT L2 a s ∧ AscT L2 s mid ∧ AscT L2 mid e ∧ AscT L2 e b ∧ ∀ p q x y, a ≤ p → p < mid → mid ≤ q → q < b → L2[p]? = some x → L2[q]? = some y → kk x ≤ kk y := by
 have r1 : ∀ k, k < s → L2[k]? = L[k]? := fun k hk => by rw [hr, if_pos hk]
 have r2 : ∀ k, s ≤ k → k < mid → L2[k]? = L[k - s + m]? := fun k hk hk2 => by rw [hr, if_neg (by omega), if_pos hk2]
 have r3 : ∀ k, mid ≤ k → k < e → L2[k]? = L[k - (e - m)]? := fun k hk hk2 => by rw [hr, if_neg (by omega), if_neg (by omega), if_pos hk2]
 have r4 : ∀ k, e ≤ k → L2[k]? = L[k]? := fun k hk => by rw [hr, if_neg (by omega), if_neg (by omega), if_neg (by omega)]
 refine ⟨?_, ?_, ?_, ?_, ?_⟩
 ·intro p q x y p1 p2 p3 hx hy
  rw [r1 p (by omega)] at hx; rw [r1 q (by omega)] at hy
  exact hX p q x y p1 p2 (by omega) hx hy
 ·intro p q x y p1 p2 p3 hx hy
  rw [r2 p (by omega) (by omega)] at hx; rw [r2 q (by omega) (by omega)] at hy
  exact hY _ _ x y (by omega) (by omega) (by omega) hx hy
 ·intro p q x y p1 p2 p3 hx hy
  rw [r3 p (by omega) (by omega)] at hx; rw [r3 q (by omega) (by omega)] at hy
  exact hX _ _ x y (by omega) (by omega) (by omega) hx hy
 ·intro p q x y p1 p2 p3 hx hy
  rw [r4 p (by omega)] at hx; rw [r4 q (by omega)] at hy
  exact hY _ _ x y (by omega) (by omega) (by omega) hx hy
 ·intro p q x y p1 p2 p3 p4 hx hy
  by_cases hp : p < s
  ·rw [r1 p hp] at hx
   by_cases hq : q < e
   ·rw [r3 q p3 hq] at hy
    exact hX.le p1 (by omega) (by omega) hx hy
   ·rw [r4 q (by omega)] at hy
    obtain ⟨x', hx'⟩ : ∃ x', L[s - 1]? = some x' := ⟨_, List.getElem?_eq_getElem (by omega)⟩
    obtain ⟨y', hy'⟩ : ∃ y', L[e]? = some y' := ⟨_, List.getElem?_eq_getElem (by omega)⟩
    have q1 := hX.le p1 (show p ≤ s - 1 by omega) (by omega) hx hx'
    have q2 := h2 x' y' (by omega) (by omega) hx' hy'
    have q3 := hY.le (by omega) (show e ≤ q by omega) p4 hy' hy
    omega
  ·rw [r2 p (by omega) p2] at hx
   by_cases hq : q < e
   ·rw [r3 q p3 hq] at hy
    obtain ⟨x', hx'⟩ : ∃ x', L[s]? = some x' := ⟨_, List.getElem?_eq_getElem (by omega)⟩
    obtain ⟨y', hy'⟩ : ∃ y', L[e - 1]? = some y' := ⟨_, List.getElem?_eq_getElem (by omega)⟩
    have q1 := hX.le (by omega) (show s ≤ q - (e - m) by omega) (by omega) hx' hy
    have q2 := h1 x' y' (by omega) (by omega) hx' hy'
    have q3 := hY.le (by omega) (show p - s + m ≤ e - 1 by omega) (by omega) hx hy'
    omega
   ·rw [r4 q (by omega)] at hy
    exact hY.le (by omega) (by omega) p4 hx hy
theorem asc_join {L : List Rw} {a m b : Nat} (h1 : AscT L a m) (h2 : AscT L m b) (h : ∀ p q x y, a ≤ p → p < m → m ≤ q → q < b → L[p]? = some x → L[q]? = some y → kk x ≤ kk y) : AscT L a b := fun p q x y p1 p2 p3 hx hy => by
 by_cases hp : p < m
 ·by_cases hq : q < m
  ·exact h1 p q x y p1 p2 hq hx hy
  ·exact h p q x y p1 hp (by omega) p3 hx hy
 ·exact h2 p q x y (by omega) p2 p3 hx hy
theorem cross_chg {L L' : List Rw} {a m b : Nat} (h : ∀ p q x y, a ≤ p → p < m → m ≤ q → q < b → L[p]? = some x → L[q]? = some y → kk x ≤ kk y) (hc : Chg L L' a m ∨ Chg L L' m b) :
  ∀ p q x y, a ≤ p → p < m → m ≤ q → q < b → L'[p]? = some x → L'[q]? = some y → kk x ≤ kk y := fun p q x y p1 p2 p3 p4 hx hy => by
 rcases hc with hc | hc
 ·obtain ⟨p', q1, q2, q3⟩ := hc.mem p x p1 p2 hx
  rw [hc.out q (by omega)] at hy
  exact h p' q x y q1 q2 p3 p4 q3 hy
 ·obtain ⟨q', q1, q2, q3⟩ := hc.mem q y p3 p4 hy
  rw [hc.out p (by omega)] at hx
  exact h p q' x y p1 p2 q1 q2 hx q3
/-- where an insertion stands: all but the row at j are in order, and it is not behind those that follow -/
structure Ins (L : List Rw) (a i j : Nat) : Prop where
 off : ∀ (p q : Nat) (x y : Rw), a ≤ p → p < q → q ≤ i → p ≠ j → q ≠ j → L[p]? = some x → L[q]? = some y → kk x ≤ kk y
 at_ : ∀ (q : Nat) (x y : Rw), j < q → q ≤ i → L[j]? = some x → L[q]? = some y → kk x ≤ kk y
theorem ins_start {L : List Rw} {a i : Nat} (h : AscT L a i) : Ins L a i i :=
 ⟨fun p q x y h1 h2 h3 _ h5 hx hy => h p q x y h1 h2 (by omega) hx hy, fun q x y h1 h2 => by omega⟩
theorem ins_first {L : List Rw} {a i : Nat} (h : Ins L a i a) : AscT L a (i + 1) := fun p q x y h1 h2 h3 hx hy => by
 by_cases hp : p = a
 ·subst hp
  exact h.at_ q x y h2 (by omega) hx hy
 ·exact h.off p q x y h1 h2 (by omega) hp (by omega) hx hy
theorem ins_stop {L : List Rw} {a i k : Nat} {x y : Rw} (h : Ins L a i (k + 1)) (hk : a ≤ k) (hx : L[k + 1]? = some x) (hy : L[k]? = some y) (hc : kk y ≤ kk x) : AscT L a (i + 1) := fun p q u v h1 h2 h3 hu hv => by
 by_cases hp : p = k + 1
 ·subst hp
  exact h.at_ q u v h2 (by omega) hu hv
 ·by_cases hq : q = k + 1
  ·subst hq
   rw [hx] at hv; cases hv
   by_cases hpk : p = k
   ·subst hpk; rw [hy] at hu; cases hu; exact hc
   ·have := h.off p k u y h1 (by omega) (by omega) hp (by omega) hu hy
    omega
  ·exact h.off p q u v h1 h2 (by omega) hp hq hu hv
theorem ins_step {L : List Rw} {a i k : Nat} {x y : Rw} (h : Ins L a i (k + 1)) (hak : a ≤ k) (hki : k + 1 ≤ i) (hx : L[k + 1]? = some x) (hy : L[k]? = some y) (hc : kk x < kk y) : Ins ((L.set (k + 1) y).set k x) a i k := by
 have hkl := (List.getElem?_eq_some_iff.1 hx).1
 have e0 : ((L.set (k + 1) y).set k x)[k]? = some x := by rw [List.getElem?_set_self (by simp; omega)]
 have e1 : ((L.set (k + 1) y).set k x)[k + 1]? = some y := by rw [List.getElem?_set_ne (by omega), List.getElem?_set_self (by omega)]
 have e2 : ∀ j, j ≠ k → j ≠ k + 1 → ((L.set (k + 1) y).set k x)[j]? = L[j]? := fun j h1 h2 => by rw [List.getElem?_set_ne (by omega), List.getElem?_set_ne (by omega)]
 refine ⟨fun p q u v h1 h2 h3 h4 h5 hu hv => ?_, fun q u v h1 h2 hu hv => ?_⟩
 ·by_cases hq : q = k + 1
  ·subst hq
   rw [e1] at hv; cases hv
   rw [e2 p h4 (by omega)] at hu
   exact h.off p k u y h1 (by omega) (by omega) (by omega) (by omega) hu hy
  ·by_cases hp : p = k + 1
   ·subst hp
    rw [e1] at hu; cases hu
    rw [e2 q h5 hq] at hv
    exact h.off k q y v (by omega) (by omega) h3 (by omega) hq hy hv
   ·rw [e2 p h4 hp] at hu
    rw [e2 q h5 hq] at hv
    exact h.off p q u v h1 h2 h3 hp hq hu hv
 ·rw [e0] at hu; cases hu
  by_cases hq : q = k + 1
  ·subst hq
   rw [e1] at hv; cases hv
   omega
  ·rw [e2 q (by omega) hq] at hv
   exact h.at_ q x v (by omega) h2 hx hv
theorem Chg.back {L : List Rw} {a b k : Nat} {x y : Rw} (hx : L[k + 1]? = some x) (hy : L[k]? = some y) (hne : kk y ≠ kk x) (ha : a ≤ k) (hb : k + 1 < b) : Chg L ((L.set (k + 1) y).set k x) a b := by
 rw [List.set_comm _ _ (by omega)]
 exact Chg.adj hy hx hne ha hb
/-- the row of a was moved up to k -/
structure MovR (L M : List Rw) (a b k : Nat) (x : Rw) : Prop where
 at_ : M[k]? = some x
 lo : ∀ p, a ≤ p → p < k → M[p]? = L[p + 1]?
 hi : ∀ p, k < p → M[p]? = L[p]?
 chg : Chg L M a b
theorem movR_start {L : List Rw} {a b : Nat} {x : Rw} (h : L[a]? = some x) : MovR L L a b a x := ⟨h, fun p h1 h2 => by omega, fun _ _ => rfl, Chg.refl _ _ _⟩
theorem movR_step {L M : List Rw} {a b k : Nat} {x y : Rw} (h : MovR L M a b k x) (ha : a ≤ k) (hk : k + 1 < b) (hy : L[k + 1]? = some y) (hne : kk x ≠ kk y) : MovR L ((M.set k y).set (k + 1) x) a b (k + 1) x := by
 have hy2 : M[k + 1]? = some y := by rw [h.hi _ (by omega)]; exact hy
 have hl := (List.getElem?_eq_some_iff.1 hy2).1
 refine ⟨by rw [List.getElem?_set_self (by simp; omega)], fun p h1 h2 => ?_, fun p h1 => ?_, h.chg.trans (Chg.adj h.at_ hy2 hne ha hk)⟩
 ·rw [List.getElem?_set_ne (by omega)]
  by_cases e : p = k
  ·subst e; rw [List.getElem?_set_self (by omega), hy]
  ·rw [List.getElem?_set_ne (by omega)]; exact h.lo p h1 (by omega)
 ·rw [List.getElem?_set_ne (by omega), List.getElem?_set_ne (by omega)]; exact h.hi p (by omega)
theorem movR_end {L M : List Rw} {a b k : Nat} {x : Rw} (h : MovR L M a b k x) (ha : a ≤ k) (hk : k < b) (hs : AscT L (a + 1) b) (hlo : ∀ p y, a + 1 ≤ p → p ≤ k → L[p]? = some y → kk y < kk x) (hhi : ∀ p y, k + 1 ≤ p → p < b → L[p]? = some y → kk x ≤ kk y) : AscT M a b := fun p q u v h1 h2 h3 hu hv => by
 by_cases hp : p < k
 ·rw [h.lo p h1 hp] at hu
  by_cases hq : q < k
  ·rw [h.lo q (by omega) hq] at hv
   exact hs _ _ u v (by omega) (by omega) (by omega) hu hv
  ·by_cases hqk : q = k
   ·subst hqk
    rw [h.at_] at hv; cases hv
    have := hlo _ u (by omega) (by omega) hu
    omega
   ·rw [h.hi q (by omega)] at hv
    exact hs _ _ u v (by omega) (by omega) h3 hu hv
 ·by_cases hpk : p = k
  ·subst hpk
   rw [h.at_] at hu; cases hu
   rw [h.hi q (by omega)] at hv
   exact hhi q v (by omega) h3 hv
  ·rw [h.hi p (by omega)] at hu
   rw [h.hi q (by omega)] at hv
   exact hs _ _ u v (by omega) h2 h3 hu hv
/-- the row of m was moved down to k -/
structure MovL (L M : List Rw) (a m k : Nat) (y : Rw) : Prop where
 at_ : M[k]? = some y
 lo : ∀ p, p < k → M[p]? = L[p]?
 hi : ∀ p, k < p → p ≤ m → M[p]? = L[p - 1]?
 chg : Chg L M a (m + 1)
theorem movL_start {L : List Rw} {a m : Nat} {y : Rw} (h : L[m]? = some y) : MovL L L a m m y := ⟨h, fun _ _ => rfl, fun p h1 h2 => by omega, Chg.refl _ _ _⟩
theorem movL_step {L M : List Rw} {a m k : Nat} {x y : Rw} (h : MovL L M a m (k + 1) y) (ha : a ≤ k) (hk : k + 1 ≤ m) (hx : L[k]? = some x) (hne : kk x ≠ kk y) : MovL L ((M.set (k + 1) x).set k y) a m k y := by
 have hx2 : M[k]? = some x := by rw [h.lo _ (by omega)]; exact hx
 have hl := (List.getElem?_eq_some_iff.1 h.at_).1
 refine ⟨by rw [List.getElem?_set_self (by simp; omega)], fun p h1 => ?_, fun p h1 h2 => ?_, h.chg.trans ?_⟩
 ·rw [List.getElem?_set_ne (by omega), List.getElem?_set_ne (by omega)]; exact h.lo p (by omega)
 ·rw [List.getElem?_set_ne (by omega)]
  by_cases e : p = k + 1
  ·subst e; rw [List.getElem?_set_self (by omega), Nat.add_sub_cancel, hx]
  ·rw [List.getElem?_set_ne (by omega)]; exact h.hi p (by omega) h2
 ·rw [List.set_comm _ _ (by omega)]
  exact Chg.adj hx2 h.at_ hne ha (by omega)
theorem movL_end {L M : List Rw} {a m k : Nat} {y : Rw} (h : MovL L M a m k y) (hk : k ≤ m) (hs : AscT L a m) (hlo : ∀ p x, a ≤ p → p < k → L[p]? = some x → kk x ≤ kk y) (hhi : ∀ p x, k ≤ p → p < m → L[p]? = some x → kk y < kk x) (hak : a ≤ k) : AscT M a (m + 1) := fun p q u v h1 h2 h3 hu hv => by
 by_cases hp : p < k
 ·rw [h.lo p hp] at hu
  by_cases hq : q < k
  ·rw [h.lo q hq] at hv
   exact hs _ _ u v h1 h2 (by omega) hu hv
  ·by_cases hqk : q = k
   ·subst hqk
    rw [h.at_] at hv; cases hv
    exact hlo p u h1 hp hu
   ·rw [h.hi q (by omega) (by omega)] at hv
    by_cases e : p = q - 1
    ·rw [e, hv] at hu; cases hu; exact Int.le_refl _
    ·exact hs _ _ u v h1 (by omega) (by omega) hu hv
 ·by_cases hpk : p = k
  ·subst hpk
   rw [h.at_] at hu; cases hu
   rw [h.hi q (by omega) (by omega)] at hv
   have := hhi (q - 1) v (by omega) (by omega) hv
   omega
  ·rw [h.hi p (by omega) (by omega)] at hu
   rw [h.hi q (by omega) (by omega)] at hv
   exact hs _ _ u v (by omega) (by omega) (by omega) hu hv
/-- where a merge may be parted, and what is known of the rows there -/
structure Part (L : List Rw) (a m b mid s e : Nat) : Prop where
 fa : a ≤ s
 fm : s ≤ m
 fe : m ≤ e
 fb : e ≤ b
 mid : mid = s + (e - m)
 lt : ∀ x y, s < m → m < e → L[s]? = some x → L[e - 1]? = some y → kk y < kk x
 le : ∀ x y, a < s → e < b → L[s - 1]? = some x → L[e]? = some y → kk x ≤ kk y
theorem part_of {L : List Rw} {a m b mid s0 r0 p s : Nat} (_ : a < m) (hmb : m < b) (hmid : mid = (a + b) / 2) (hs0 : s0 ≤ s) (hr0 : s ≤ r0) (hp : p + 1 = mid + m)
  (hc : (mid < m ∧ s0 + b = mid + m ∧ r0 = mid) ∨ (m ≤ mid ∧ s0 = a ∧ r0 = m))
  (hlo : ∀ c x y, s0 ≤ c → c < s → L[c]? = some x → L[p - c]? = some y → kk x ≤ kk y) (hhi : ∀ c x y, s ≤ c → c < r0 → L[c]? = some x → L[p - c]? = some y → kk y < kk x) : Part L a m b mid s (mid + m - s) := by
 refine ⟨by omega, by omega, by omega, by omega, by omega, fun x y h1 h2 hx hy => ?_, fun x y h1 h2 hx hy => ?_⟩
 ·exact hhi s x y (Nat.le_refl _) (by omega) hx (by rw [show p - s = mid + m - s - 1 by omega]; exact hy)
 ·exact hlo (s - 1) x y (by omega) (by omega) hx (by rw [show p - (s - 1) = mid + m - s by omega]; exact hy)
/-- the rows in two halves, of which the one's are not behind the other's -/
structure Halves (L : List Rw) (a mid b s e : Nat) : Prop where
 me : mid ≤ e
 h1 : AscT L a s
 h2 : AscT L s mid
 h3 : AscT L mid e
 h4 : AscT L e b
 cr : ∀ p q x y, a ≤ p → p < mid → mid ≤ q → q < b → L[p]? = some x → L[q]? = some y → kk x ≤ kk y
theorem halves_rot {L P X Y S : List Rw} {a m b mid s e : Nat} (h : Part L a m b mid s e) (hX : AscT L a m) (hY : AscT L m b) (hb : b ≤ L.length) (h1 : s < m) (h2 : m < e) (hL : L = P ++ X ++ Y ++ S) (hP : P.length = s) (hXm : s + X.length = m) (hYe : m + Y.length = e) :
  Chg L (P ++ Y ++ X ++ S) a b ∧ Halves (P ++ Y ++ X ++ S) a mid b s e := by
 refine ⟨(Chg.rot hL hP hXm hYe fun x hx y hy => ?_).wide h.fa h.fb, ?_⟩
 ·obtain ⟨i, i1, i2, i3⟩ := mem_cut (L := L) (R := Y ++ S) (by rw [hL]; simp) hP hXm hx
  obtain ⟨j, j1, j2, j3⟩ := mem_cut (L := L) (P := P ++ X) (X := Y) (R := S) (a := m) hL (by rw [List.length_append]; omega) hYe hy
  obtain ⟨x', hx'⟩ : ∃ x', L[s]? = some x' := ⟨_, List.getElem?_eq_getElem (by have := h.fm; have := h.fe; have := h.fb; omega)⟩
  obtain ⟨y', hy'⟩ : ∃ y', L[e - 1]? = some y' := ⟨_, List.getElem?_eq_getElem (by have := h.fb; omega)⟩
  have q1 := hX.le h.fa i1 i2 hx' i3
  have q2 := hY.le j1 (show j ≤ e - 1 by omega) (by have := h.fb; omega) j3 hy'
  have q3 := h.lt x' y' h1 h2 hx' hy'
  omega
 ·have hr := rot_at hL hP hXm hYe
  rw [← h.mid] at hr
  obtain ⟨g1, g2, g3, g4, g5⟩ := sym_cross hX hY h.fa h.fm h.fe h.fb h.mid h.lt h.le hb hr
  exact ⟨by have := h.fm; have := h.mid; have := h.fe; omega, g1, g2, g3, g4, g5⟩
theorem halves_same {L : List Rw} {a m b mid s e : Nat} (h : Part L a m b mid s e) (hX : AscT L a m) (hY : AscT L m b) (hb : b ≤ L.length) (h1 : ¬ s < m ∨ ¬ m < e) : Halves L a mid b s e := by
 have e1 := h.fm
 have e2 := h.fe
 have e3 := h.mid
 obtain ⟨g1, g2, g3, g4, g5⟩ := sym_cross (L2 := L) hX hY h.fa h.fm h.fe h.fb h.mid h.lt h.le hb (fun k => by
  by_cases k1 : k < s
  ·rw [if_pos k1]
  ·rw [if_neg k1]
   by_cases k2 : k < mid
   ·rw [if_pos k2, show k - s + m = k by omega]
   ·rw [if_neg k2]
    by_cases k3 : k < e
    ·rw [if_pos k3, show k - (e - m) = k by omega]
    ·rw [if_neg k3])
 exact ⟨by omega, g1, g2, g3, g4, g5⟩
theorem Halves.first {L : List Rw} {a mid b s e : Nat} (h : Halves L a mid b s e) (hs : s ≤ a ∨ mid ≤ s) : AscT L a mid := by
 rcases hs with hs | hs
 ·exact fun p q x y h1 h2 h3 => h.h2 p q x y (by omega) h2 h3
 ·exact h.h1.sub (Nat.le_refl _) hs
theorem Halves.last {L : List Rw} {a mid b s e : Nat} (h : Halves L a mid b s e) (hs : e ≤ mid ∨ b ≤ e) : AscT L mid b := by
 rcases hs with hs | hs
 ·exact h.h4.sub hs (Nat.le_refl _)
 ·exact h.h3.sub (Nat.le_refl _) hs
theorem Halves.left {L M : List Rw} {a mid b s e : Nat} (h : Halves L a mid b s e) (hc : Chg L M a mid) : AscT M mid e ∧ AscT M e b ∧ (e ≤ mid ∨ b ≤ e → AscT M mid b) ∧ ∀ p q x y, a ≤ p → p < mid → mid ≤ q → q < b → M[p]? = some x → M[q]? = some y → kk x ≤ kk y :=
 ⟨h.h3.same (fun k k1 _ => hc.out k (.inr k1)), h.h4.same (fun k k1 _ => hc.out k (.inr (Nat.le_trans h.me k1))), fun hs => (h.last hs).same (fun k k1 _ => hc.out k (.inr k1)), cross_chg h.cr (.inl hc)⟩
theorem halves_done {M N : List Rw} {a mid b : Nat} (h1 : AscT M a mid) (h2 : AscT N mid b) (hc : Chg M N mid b) (hcr : ∀ p q x y, a ≤ p → p < mid → mid ≤ q → q < b → M[p]? = some x → M[q]? = some y → kk x ≤ kk y) : AscT N a b :=
 asc_join (h1.same (fun k _ k1 => hc.out k (.inl k1))) h2 (cross_chg hcr (.inr hc))
/-- each block of s rows, of the first k, is in order -/
def Blk (L : List Rw) (s k : Nat) : Prop := ∀ i, i < k → AscT L (i * s) (i * s + s)
/-- each block of s rows is in order -/
def Blks (L : List Rw) (s : Nat) : Prop := ∀ i, AscT L (i * s) (i * s + s)
theorem blk_le {i k s : Nat} (h : i < k) : i * s + s ≤ k * s := by
 have := Nat.mul_le_mul_right s (show i + 1 ≤ k by omega)
 rw [Nat.add_mul, Nat.one_mul] at this
 exact this
theorem Blk.one {L M : List Rw} {s k : Nat} (h : Blk L s k) (hc : Chg L M (k * s) (k * s + s)) (ha : AscT M (k * s) (k * s + s)) : Blk M s (k + 1) := fun i hi => by
 by_cases e : i = k
 ·subst e; exact ha
 ·have h1 := blk_le (s := s) (show i < k by omega)
  exact (h i (by omega)).same fun j _ hj => hc.out j (.inl (by omega))
theorem asc_beyond {L : List Rw} {a b n : Nat} (h : AscT L a n) (hl : L.length ≤ n) : AscT L a b := fun p q x y h1 h2 _ hx hy => by
 have := (List.getElem?_eq_some_iff.1 hy).1
 exact h p q x y h1 h2 (by omega) hx hy
theorem asc_none {L : List Rw} {a b : Nat} (hl : L.length ≤ a) : AscT L a b := fun p q x y h1 h2 _ hx hy => by
 have := (List.getElem?_eq_some_iff.1 hy).1
 omega
theorem Blk.last {L M : List Rw} {s k n : Nat} (h : Blk L s k) (hc : Chg L M (k * s) n) (ha : AscT M (k * s) n) (hl : M.length ≤ n) (hk : n < k * s + s) : Blks M s := fun i => by
 rcases Nat.lt_trichotomy i k with e | e | e
 ·have h1 := blk_le (s := s) e
  exact (h i e).same fun j _ hj => hc.out j (.inl (by omega))
 ·subst e; exact asc_beyond ha hl
 ·have h1 := blk_le (s := s) e
  exact asc_none (by omega)
/-- blocks of twice as many rows are in order, of the first k; behind them those of s -/
structure Mix (L : List Rw) (s k : Nat) : Prop where
 two : Blk L (s + s) k
 one : ∀ i, k + k ≤ i → AscT L (i * s) (i * s + s)
theorem Mix.start {L : List Rw} {s : Nat} (h : Blks L s) : Mix L s 0 := ⟨fun i hi => by omega, fun i _ => h i⟩
theorem mix_at (s k : Nat) : (k + k) * s = k * (s + s) := by rw [Nat.add_mul, Nat.mul_add]
theorem Mix.pair {L : List Rw} {s k a : Nat} (h : Mix L s k) (ha : a = k * (s + s)) : AscT L a (a + s) ∧ AscT L (a + s) (a + s + s) := by
 have h1 := h.one (k + k) (Nat.le_refl _)
 have h2 := h.one (k + k + 1) (by omega)
 rw [mix_at, ← ha] at h1
 rw [Nat.add_mul, Nat.one_mul, mix_at, ← ha] at h2
 exact ⟨h1, h2⟩
theorem Mix.step {L M : List Rw} {s k a : Nat} (h : Mix L s k) (ha : a = k * (s + s)) (hc : Chg L M a (a + (s + s))) (hs : AscT M a (a + (s + s))) : Mix M s (k + 1) := by
 subst ha
 refine ⟨h.two.one hc hs, fun i hi => (h.one i (by omega)).same fun j hj _ => hc.out j (.inr ?_)⟩
 have h1 := Nat.mul_le_mul_right s (show k + k + 2 ≤ i by omega)
 rw [Nat.add_mul, mix_at] at h1
 omega
theorem Mix.last {L M : List Rw} {s k a n : Nat} (h : Mix L s k) (ha : a = k * (s + s)) (hc : Chg L M a n) (hs : AscT M a n) (hl : M.length ≤ n) (hk : n < a + (s + s)) : Blks M (s + s) := by
 subst ha
 exact h.two.last hc hs hl hk
theorem Blks.all {L : List Rw} {s n : Nat} (h : Blks L s) (hs : n ≤ s) : AscT L 0 n := by
 have := h 0
 rw [Nat.zero_mul, Nat.zero_add] at this
 exact this.sub (Nat.le_refl _) hs
/-- nodes in 64 bits -/
def R64 (x : Rw) : Prop := (-9223372036854775808 ≤ ch x ∧ ch x < 9223372036854775808) ∧ rk x < 18446744073709551616
def S64 (L : List Rw) : Prop := ∀ x ∈ L, R64 x
theorem S64.chg {L M : List Rw} (h : S64 L) (hf : Flt L M) : S64 M := fun x hx => h x (hf.mem.1 hx)
theorem lsP_kk {x y : Rw} (hx : R64 x) (hy : R64 y) : lsP x y = true ↔ kk x < kk y := by
 rw [lsP_iff]
 have hx := hx.1
 have hy := hy.1
 unfold kk
 generalize ky (rk x) = a
 generalize ky (rk y) = b
 generalize ch x = c at *
 generalize ch y = d at *
 omega
theorem lsP_kk_not {x y : Rw} (hx : R64 x) (hy : R64 y) : lsP x y = false ↔ kk y ≤ kk x := by
 have := lsP_kk hx hy
 cases h : lsP x y
 ·rw [h] at this
  have h2 : ¬ kk x < kk y := fun e => by have := this.2 e; cases this
  simp; omega
 ·have := this.1 h
  simp; omega
theorem lsP_eq {x y : Rw} (hx : R64 x) (hy : R64 y) : lsP x y = decide (kk x < kk y) := by
 cases h : lsP x y
 ·have := (lsP_kk_not hx hy).1 h
  simp; omega
 ·have := (lsP_kk hx hy).1 h
  simp [this]
theorem insK_le {o : List Rw} {x : Rw} (h64 : S64 o) (hx : R64 x) (ho : o.Pairwise fun a b => kk a ≤ kk b) : (insK o x).Pairwise (fun a b => kk a ≤ kk b) ∧ Flt (o ++ [x]) (insK o x) := by
 unfold insK
 obtain ⟨k, hk⟩ : ∃ k, kAt o x o.length = k := ⟨_, rfl⟩
 rw [hk]
 have ho' := ho
 rw [← List.take_append_drop k o] at ho'
 obtain ⟨h1, h2, h3⟩ := List.pairwise_append.1 ho'
 have hhi : ∀ b ∈ o.drop k, kk x < kk b := fun b hb => by
  obtain ⟨j, hj⟩ := List.mem_iff_getElem?.1 hb
  rw [List.getElem?_drop] at hj
  exact (lsP_kk hx (h64 b (List.mem_of_mem_drop hb))).1 (kAt_hi o x o.length (k + j) b (by omega) (List.getElem?_eq_some_iff.1 hj).1 hj)
 have hlo : ∀ a ∈ o.take k, kk a ≤ kk x := fun a ha => by
  cases k with
  | zero => simp at ha
  | succ m =>
   have hkl := kAt_le o x o.length
   have hm : m < o.length := by omega
   have hy := List.getElem?_eq_getElem hm
   have h4 := kAt_lo o x o.length m o[m] hk hy
   have h5 := (lsP_kk_not hx (h64 _ (List.getElem_mem hm))).1 h4
   obtain ⟨j, hj⟩ := List.mem_iff_getElem?.1 ha
   have hjm : j < m + 1 := by
    have := (List.getElem?_eq_some_iff.1 hj).1
    simp at this
    omega
   rw [List.getElem?_take_of_lt hjm] at hj
   by_cases hje : j = m
   ·subst hje; rw [hy] at hj; rw [← Option.some.inj hj]; exact h5
   ·obtain ⟨hjl, he⟩ := List.getElem?_eq_some_iff.1 hj
    have := List.pairwise_iff_getElem.1 ho j m hjl hm (by omega)
    rw [he] at this
    omega
 refine ⟨List.pairwise_append.2 ⟨h1, List.pairwise_cons.2 ⟨fun b hb => Int.le_of_lt (hhi b hb), h2⟩, fun a ha b hb => ?_⟩, ?_⟩
 ·rcases List.mem_cons.1 hb with rfl | hb
  ·exact hlo a ha
  ·exact h3 a ha b hb
 ·have e : o ++ [x] = o.take k ++ (o.drop k ++ [x]) := by rw [← List.append_assoc, List.take_append_drop]
  rw [e]
  exact Flt.app (Flt.refl _) (Flt.swap (Y := [x]) fun y hy z hz => by
   rw [List.mem_singleton] at hz; subst hz
   have := hhi y hy
   omega)
theorem kids_le (p : Int) : ∀ (l o : List Rw), S64 l → S64 o → o.Pairwise (fun a b => kk a ≤ kk b) → (l.foldl (kidG p) o).Pairwise (fun a b => kk a ≤ kk b) ∧ Flt (o ++ l.filter fun r => decide (pa r = p)) (l.foldl (kidG p) o)
 | [], o, _, _, ho => ⟨ho, by rw [List.filter_nil, List.append_nil]; exact Flt.refl _⟩
 | r :: t, o, hl, h64, ho => by
  rw [List.foldl_cons, List.filter_cons]
  have ht : S64 t := fun x hx => hl x (List.mem_cons_of_mem _ hx)
  have hr := hl r (List.mem_cons_self ..)
  unfold kidG
  by_cases hp : pa r = p
  ·rw [if_pos hp, if_pos (by simpa using hp)]
   obtain ⟨h1, h2⟩ := insK_le h64 hr ho
   have h3 : S64 (insK o r) := S64.chg (L := o ++ [r]) (fun x hx => by
    rcases List.mem_append.1 hx with hx | hx
    ·exact h64 x hx
    ·rw [List.mem_singleton] at hx; subst hx; exact hr) h2
   obtain ⟨g1, g2⟩ := kids_le p t (insK o r) ht h3 h1
   refine ⟨g1, Flt.trans (Y := insK o r ++ t.filter fun r => decide (pa r = p)) ?_ g2⟩
   rw [show o ++ r :: t.filter (fun r => decide (pa r = p)) = (o ++ [r]) ++ t.filter fun r => decide (pa r = p) by simp]
   exact Flt.app h2 (Flt.refl _)
  ·rw [if_neg hp, if_neg (by simpa using hp)]
   exact kids_le p t o ht h64 ho
/-- what is in the stable order, of the rows of a Parent, is kidsR -/
theorem kids_of {l Y : List Rw} {p : Int} (hl : S64 l) (hf : Flt (l.filter fun r => decide (pa r = p)) Y) (ha : AscT Y 0 Y.length) : Y = kidsR l p := by
 obtain ⟨h1, h2⟩ := kids_le p l [] hl (fun x hx => by simp at hx) List.Pairwise.nil
 refine flt_unique ?_ h1 fun c => ?_
 ·rw [List.pairwise_iff_getElem]
  intro i j hi hj hij
  exact ha i j _ _ (Nat.zero_le _) hij hj (List.getElem?_eq_getElem hi) (List.getElem?_eq_getElem hj)
 ·have := h2 c
  rw [List.nil_append] at this
  rw [kidsR, this, hf c]
end Kk
end Go.Proofs.YtkobmnbjeppnaaaGreat
