/-
 Marks that may be are told by what they have of each replica: plain.
 Join, Of, Below: the document's; whether marks may be, and whether they are the same.
-/
import Derived.Test.YthhckdjagnlgpaaGreatAb
import Derived.Test.YthhckdjagnlgpaaGreatAh
section
namespace Go.Proofs.YthhckdjagnlgpaaGreat
def PosK (l : List Mk) : Prop := ∀ m ∈ l, 1 ≤ kc m
theorem getK_not {l : List Mk} {r : Int} (h : ∀ m ∈ l, kr m ≠ r) : getK l r = 0 := getK_none fun x hx => by
 simpa [isK] using h x hx
theorem getK_get {l : List Mk} {r : Int} : getK l r = 0 ∨ ∃ m ∈ l, kr m = r ∧ getK l r = kc m := by
 rcases getK_cases l r with ⟨_, h⟩ | ⟨k, x, _, h1, h2, _, h4⟩
 ·exact .inl h
 ·exact .inr ⟨x, List.mem_of_getElem? h1, h4, h2⟩
theorem getK_nn {l : List Mk} (h : PosK l) (r : Int) : 0 ≤ getK l r := by
 rcases getK_get (l := l) (r := r) with h0 | ⟨m, hm, _, e⟩
 ·omega
 ·have := h m hm; omega
theorem getK_cons (m : Mk) (l : List Mk) (r : Int) : getK (m :: l) r = if kr m = r then kc m else getK l r := by
 unfold getK
 rw [List.find?_cons]
 by_cases h : kr m = r
 ·simp [isK, h]
 ·have : isK r m = false := by simpa [isK] using h
  rw [this, if_neg h]
theorem extK : ∀ {a b : List Mk}, AscK a → AscK b → PosK a → PosK b → (∀ r, getK a r = getK b r) → a = b
 | [], [], _, _, _, _, _ => rfl
 | [], y :: b, _, _, _, hb, h => by
  have h1 := h (kr y)
  rw [getK_cons, if_pos rfl] at h1
  have h2 := hb y List.mem_cons_self
  have : getK ([] : List Mk) (kr y) = 0 := rfl
  omega
 | x :: a, [], _, _, ha, _, h => by
  have h1 := h (kr x)
  rw [getK_cons, if_pos rfl] at h1
  have h2 := ha x List.mem_cons_self
  have : getK ([] : List Mk) (kr x) = 0 := rfl
  omega
 | x :: a, y :: b, sa, sb, pa, pb, h => by
  obtain ⟨sa1, sa2⟩ := List.pairwise_cons.1 sa
  obtain ⟨sb1, sb2⟩ := List.pairwise_cons.1 sb
  have px := pa x List.mem_cons_self
  have py := pb y List.mem_cons_self
  have low : ∀ {l : List Mk} {k : Int}, (∀ m ∈ l, k < kr m) → ∀ r, r ≤ k → getK l r = 0 := fun {l k} hl r hr => getK_not fun m hm => by have := hl m hm; omega
  have hr : kr x = kr y := by
   rcases Int.lt_trichotomy (kr x) (kr y) with hlt | he | hlt
   ·exfalso
    have h1 := h (kr x)
    rw [getK_cons, getK_cons, if_pos rfl, if_neg (by omega), low sb1 (kr x) (by omega)] at h1
    omega
   ·exact he
   ·exfalso
    have h1 := h (kr y)
    rw [getK_cons, getK_cons, if_pos rfl, if_neg (by omega), low sa1 (kr y) (by omega)] at h1
    omega
  have hc : kc x = kc y := by
   have h1 := h (kr x)
   rwa [getK_cons, getK_cons, if_pos rfl, if_pos hr.symm] at h1
  have hxy : x = y := Prod.ext hr hc
  subst hxy
  rw [extK sa2 sb2 (fun m hm => pa m (List.mem_cons_of_mem _ hm)) (fun m hm => pb m (List.mem_cons_of_mem _ hm)) fun r => by
   by_cases hk : kr x = r
   ·rw [low sa1 r (by omega), low sb1 r (by omega)]
   ·have h1 := h r
    rwa [getK_cons, getK_cons, if_neg hk, if_neg hk] at h1]
theorem getK_app (a b : List Mk) (r : Int) (h : ∀ m ∈ a, kr m ≠ r) : getK (a ++ b) r = getK b r := by
 induction a with
 | nil => rfl
 | cons x a ih => rw [List.cons_append, getK_cons, if_neg (h x List.mem_cons_self)]; exact ih fun m hm => h m (List.mem_cons_of_mem _ hm)
theorem getK_mid (x : Mk) : ∀ (a b : List Mk) (r : Int), kr x ≠ r → getK (a ++ x :: b) r = getK (a ++ b) r
 | [], b, r, h => by rw [List.nil_append, List.nil_append, getK_cons, if_neg h]
 | y :: a, b, r, h => by rw [List.cons_append, List.cons_append, getK_cons, getK_cons, getK_mid x a b r h]
theorem not_isK {v : List Mk} {r : Int} (h : idxK (isK r) v = -1) : ∀ m ∈ v, kr m ≠ r := fun m hm => by
 rcases idxK_cases (isK r) v with ⟨_, h2⟩ | ⟨k, x, h1, _⟩
 ·have := List.findIdx?_eq_none_iff.1 h2 m hm
  simpa [isK] using this
 ·omega
theorem getK_set {v : List Mk} {k : Nat} {x : Mk} (c : Int) (hx : v[k]? = some x) (hi : idxK (isK (kr x)) v = (k : Int)) (r : Int) : getK (v.set k (kr x, c)) r = if r = kr x then c else getK v r := by
 have hk := (List.getElem?_eq_some_iff.1 hx).1
 have hno : ∀ y ∈ v.take k, kr y ≠ kr x := by
  rcases idxK_cases (isK (kr x)) v with ⟨h1, _⟩ | ⟨j, y, h1, h2, _⟩
  ·omega
  ·obtain rfl : j = k := by omega
   obtain ⟨g1, g2, g3⟩ := List.findIdx?_eq_some_iff_getElem.1 h2
   intro z hz
   obtain ⟨i, hi2, rfl⟩ := List.mem_take_iff_getElem.1 hz
   have := g3 i (by omega)
   simpa [isK] using this
 have hset := List.set_eq_take_append_cons_drop (l := v) (i := k) (a := (kr x, c))
 rw [if_pos hk] at hset
 have hv : v = v.take k ++ x :: v.drop (k + 1) := by
  rw [← (List.getElem?_eq_some_iff.1 hx).2, ← List.drop_eq_getElem_cons hk, List.take_append_drop]
 by_cases hr : r = kr x
 ·rw [if_pos hr, hset, hr, getK_app _ _ _ hno, getK_cons, if_pos rfl]
 ·rw [if_neg hr, hset, getK_mid (kr x, c) _ _ _ (fun e => hr e.symm)]
  conv => rhs; rw [hv]
  rw [getK_mid x _ _ _ (fun e => hr e.symm)]
theorem getK_raise (v : List Mk) (c r : Int) (q : Int) : getK (raiseK v c r) q = if q = r then max (getK v r) c else getK v q := by
 rcases raiseK_cases v c r with ⟨k, x, h1, h2, h3, h4, h5⟩ | ⟨h1, ⟨h2, h3⟩ | ⟨h2, h3⟩⟩
 ·subst h4
  rw [h5, getK_set _ h2 h1]
  have hg : getK v (kr x) = kc x := by
   rcases getK_cases v (kr x) with ⟨g1, _⟩ | ⟨j, y, g1, g2, g3, _⟩
   ·omega
   ·obtain rfl : j = k := by omega
    rw [g2] at h2; cases h2; exact g3
  rw [hg]
 ·rw [h3]
  have hg := getK_not (not_isK h1)
  by_cases hq : q = r
  ·rw [if_pos hq, hq, hg]; omega
  ·rw [if_neg hq]
 ·have hno := not_isK h1
  have hg := getK_not hno
  obtain ⟨j, hj, h3⟩ : ∃ j, j ≤ v.length ∧ raiseK v c r = v.take j ++ (r, c) :: v.drop j := by
   rcases h3 with ⟨k, _, hk, e⟩ | ⟨_, e⟩
   ·exact ⟨k, by omega, e⟩
   ·exact ⟨v.length, Nat.le_refl _, by rw [e, List.take_length, List.drop_length]⟩
  rw [h3]
  by_cases hq : q = r
  ·rw [if_pos hq, hq, getK_app _ _ _ (fun m hm => hno m (List.mem_of_mem_take hm)), getK_cons, if_pos rfl, hg]
   show c = _
   omega
  ·rw [if_neg hq, getK_mid _ _ _ _ (fun e => hq e.symm), List.take_append_drop]
theorem raiseK_mem {v : List Mk} {c r : Int} {m : Mk} (h : m ∈ raiseK v c r) : m ∈ v ∨ (kr m = r ∧ (1 ≤ c ∧ kc m = c ∨ ∃ x ∈ v, kr x = r ∧ kc m = max (kc x) c)) := by
 rcases raiseK_cases v c r with ⟨k, x, h1, h2, h3, h4, h5⟩ | ⟨h1, ⟨h2, h3⟩ | ⟨h2, h3⟩⟩
 ·rw [h5] at h
  rcases List.mem_or_eq_of_mem_set h with h | h
  ·exact .inl h
  ·exact .inr ⟨by rw [h]; exact h4, .inr ⟨x, List.mem_of_getElem? h2, h4, by rw [h]⟩⟩
 ·rw [h3] at h; exact .inl h
 ·obtain ⟨j, h3⟩ : ∃ j, raiseK v c r = v.take j ++ (r, c) :: v.drop j := by
   rcases h3 with ⟨k, _, hk, e⟩ | ⟨_, e⟩
   ·exact ⟨k, e⟩
   ·exact ⟨v.length, by rw [e, List.take_length, List.drop_length]⟩
  rw [h3] at h
  rcases List.mem_append.1 h with h | h
  ·exact .inl (List.mem_of_mem_take h)
  ·rcases List.mem_cons.1 h with h | h
   ·exact .inr ⟨by rw [h], .inl ⟨by omega, by rw [h]⟩⟩
   ·exact .inl (List.mem_of_mem_drop h)
theorem raiseK_pos {v : List Mk} (c r : Int) (h : PosK v) : PosK (raiseK v c r) := fun m hm => by
 rcases raiseK_mem hm with h1 | ⟨_, ⟨h1, h2⟩ | ⟨x, hx, _, h2⟩⟩
 ·exact h m h1
 ·omega
 ·have := h x hx; omega
theorem raiseK_asc {v : List Mk} (c r : Int) (h : AscK v) : AscK (raiseK v c r) := by
 rcases raiseK_cases v c r with ⟨k, x, h1, h2, h3, h4, h5⟩ | ⟨h1, ⟨h2, h3⟩ | ⟨h2, h3⟩⟩
 ·rw [h5]
  unfold AscK at h ⊢
  rw [← List.pairwise_map (f := kr) (R := fun a b => a < b)] at h ⊢
  have : (v.set k (kr x, max (kc x) c)).map kr = v.map kr := by
   rw [List.map_set]
   show (v.map kr).set k (kr x) = v.map kr
   have hk : (v.map kr)[k]? = some (kr x) := by rw [List.getElem?_map, h2]; rfl
   obtain ⟨g1, g2⟩ := List.getElem?_eq_some_iff.1 hk
   rw [← g2, List.set_getElem_self]
  rw [this]; exact h
 ·rw [h3]; exact h
 ·have hno := not_isK h1
  have key : ∀ j, j ≤ v.length → (∀ m ∈ v.take j, kr m < r) → (∀ m ∈ v.drop j, r < kr m) → AscK (v.take j ++ (r, c) :: v.drop j) := fun j hj hlo hhi => by
   have h' := h
   unfold AscK at h' ⊢
   rw [show v = v.take j ++ v.drop j from (List.take_append_drop j v).symm] at h'
   obtain ⟨ha, hb, hab⟩ := List.pairwise_append.1 h'
   refine List.pairwise_append.2 ⟨ha, List.pairwise_cons.2 ⟨hhi, hb⟩, fun x hx y hy => ?_⟩
   rcases List.mem_cons.1 hy with rfl | hy
   ·exact hlo x hx
   ·exact hab x hx y hy
  have tri : ∀ m ∈ v, ¬ r < kr m → kr m < r := fun m hm hn => by have := hno m hm; omega
  rcases h3 with ⟨k, hk1, hk, e⟩ | ⟨hk1, e⟩
  ·rw [e]
   rcases idxK_cases (gtK r) v with ⟨g1, _⟩ | ⟨j, y, g1, g2, g3, g4, g5⟩
   ·omega
   ·obtain rfl : j = k := by omega
    obtain ⟨q1, q2, q3⟩ := List.findIdx?_eq_some_iff_getElem.1 g2
    refine key j (by omega) (fun m hm => ?_) (fun m hm => ?_)
    ·obtain ⟨i, hi, rfl⟩ := List.mem_take_iff_getElem.1 hm
     have := q3 i (by omega)
     refine tri _ (List.getElem_mem _) ?_
     simpa [gtK] using this
    ·obtain ⟨i, hi, rfl⟩ := List.mem_iff_getElem.1 hm
     rw [List.length_drop] at hi
     rw [List.getElem_drop]
     have hy : r < kr v[j] := by simpa [gtK] using q2
     cases i with
     | zero => simpa using hy
     | succ i =>
      have := List.pairwise_iff_getElem.1 h j (j + (i + 1)) q1 (by omega) (by omega)
      omega
  ·have hall : ∀ m ∈ v, kr m < r := fun m hm => by
    rcases idxK_cases (gtK r) v with ⟨_, g2⟩ | ⟨j, y, g1, _⟩
    ·have := List.findIdx?_eq_none_iff.1 g2 m hm
     exact tri m hm (by simpa [gtK] using this)
    ·omega
   rw [e]
   have := key v.length (Nat.le_refl _) (fun m hm => hall m (List.mem_of_mem_take hm)) (fun m hm => by rw [List.drop_length] at hm; cases hm)
   rwa [List.take_length, List.drop_length] at this
theorem joinK_asc : ∀ {b a : List Mk}, AscK a → AscK (joinK a b)
 | [], _, h => h
 | m :: b, _, h => joinK_asc (b := b) (raiseK_asc (kc m) (kr m) h)
theorem getK_join : ∀ {b a : List Mk} (r : Int), AscK b → PosK b → PosK a → getK (joinK a b) r = max (getK a r) (getK b r)
 | [], a, r, _, _, pa => by
  have := getK_nn pa r
  show getK a r = max (getK a r) 0
  omega
 | m :: b, a, r, sb, pb, pa => by
  obtain ⟨s1, s2⟩ := List.pairwise_cons.1 sb
  have pm := pb m List.mem_cons_self
  have ih := getK_join (b := b) (a := raiseK a (kc m) (kr m)) r s2 (fun x hx => pb x (List.mem_cons_of_mem _ hx)) (raiseK_pos _ _ pa)
  show getK (joinK (raiseK a (kc m) (kr m)) b) r = _
  rw [ih, getK_raise, getK_cons]
  by_cases h : r = kr m
  ·have h0 : getK b r = 0 := getK_not fun x hx => by have := s1 x hx; omega
   rw [if_pos h, if_pos h.symm, h0, h]
   have := getK_nn pa (kr m)
   omega
  ·rw [if_neg h, if_neg (fun e => h e.symm)]
/-- in range -/
def RanK (l : List Mk) : Prop := ∀ m ∈ l, oneK m = true
theorem oneK_iff {m : Mk} : oneK m = true ↔ 1 ≤ kr m ∧ kr m ≤ 255 ∧ 1 ≤ kc m ∧ kc m ≤ 4611686018427387903 := by simp [oneK]
theorem RanK.pos {l : List Mk} (h : RanK l) : PosK l := fun m hm => (oneK_iff.1 (h m hm)).2.2.1
theorem raiseK_ran {v : List Mk} {c r : Int} (h : RanK v) (hr : 1 ≤ r ∧ r ≤ 255) (hc : c ≤ 4611686018427387903) : RanK (raiseK v c r) := fun m hm => by
 rcases raiseK_mem hm with h1 | ⟨h0, ⟨h1, h2⟩ | ⟨x, hx, _, h2⟩⟩
 ·exact h m h1
 ·rw [oneK_iff]; omega
 ·have := oneK_iff.1 (h x hx)
  rw [oneK_iff]; omega
theorem joinK_ran : ∀ {b a : List Mk}, RanK a → RanK b → RanK (joinK a b)
 | [], _, h, _ => h
 | m :: b, a, h, hb => by
  have hm := oneK_iff.1 (hb m List.mem_cons_self)
  exact joinK_ran (b := b) (raiseK_ran h ⟨hm.1, hm.2.1⟩ hm.2.2.2) fun x hx => hb x (List.mem_cons_of_mem _ hx)
theorem belowK_iff {a b : List Mk} (pb : PosK b) : belowK a b = true ↔ ∀ r, getK a r ≤ getK b r := by
 unfold belowK
 rw [List.all_eq_true]
 constructor
 ·intro h r
  rcases getK_get (l := a) (r := r) with h0 | ⟨m, hm, hr, e⟩
  ·have := getK_nn pb r; omega
  ·have := h m hm
   rw [hr] at this
   simpa using this
 ·intro h m hm
  simpa using h (kr m)
def mayK (l : List Mk) : Bool := l.all oneK && (List.range l.length).all fun i => match l[i]?, l[i + 1]? with
 | some a, some b => decide (kr a < kr b)
 | _, _ => true
theorem asc_next {l : List Mk} : AscK l ↔ ∀ i a b, l[i]? = some a → l[i + 1]? = some b → kr a < kr b := by
 constructor
 ·intro h i a b ha hb
  obtain ⟨h1, e1⟩ := List.getElem?_eq_some_iff.1 ha
  obtain ⟨h2, e2⟩ := List.getElem?_eq_some_iff.1 hb
  rw [← e1, ← e2]
  exact List.pairwise_iff_getElem.1 h i (i + 1) h1 h2 (by omega)
 ·intro h
  induction l with
  | nil => exact List.Pairwise.nil
  | cons x l ih =>
   have hl : AscK l := ih fun i a b ha hb => h (i + 1) a b (by simpa using ha) (by simpa using hb)
   refine List.pairwise_cons.2 ⟨fun y hy => ?_, hl⟩
   cases l with
   | nil => cases hy
   | cons z l =>
    have hxz := h 0 x z rfl rfl
    rcases List.mem_cons.1 hy with rfl | hy
    ·exact hxz
    ·have := (List.pairwise_cons.1 hl).1 y hy
     omega
theorem mayK_iff {l : List Mk} : mayK l = true ↔ RanK l ∧ AscK l := by
 unfold mayK
 rw [Bool.and_eq_true, List.all_eq_true, List.all_eq_true, asc_next]
 refine and_congr Iff.rfl ⟨fun h i a b ha hb => ?_, fun h i _ => ?_⟩
 ·have hi := (List.getElem?_eq_some_iff.1 ha).1
  have := h i (List.mem_range.2 hi)
  rw [ha, hb] at this
  simpa using this
 ·cases ha : l[i]? with
  | none => rfl
  | some a =>
   cases hb : l[i + 1]? with
   | none => rfl
   | some b => simpa using h i a b ha hb
theorem ofK_fold_asc : ∀ (l : List Mv) {v : List Mk}, AscK v → AscK (l.foldl (fun v m => raiseK v (mc m) (mr m)) v)
 | [], _, h => h
 | m :: l, _, h => ofK_fold_asc l (raiseK_asc (mc m) (mr m) h)
theorem ofK_fold_pos : ∀ (l : List Mv) {v : List Mk}, PosK v → PosK (l.foldl (fun v m => raiseK v (mc m) (mr m)) v)
 | [], _, h => h
 | m :: l, _, h => ofK_fold_pos l (raiseK_pos (mc m) (mr m) h)
theorem ofK_asc (l : List Mv) : AscK (ofK l) := ofK_fold_asc l List.Pairwise.nil
theorem ofK_pos (l : List Mv) : PosK (ofK l) := ofK_fold_pos l fun m hm => by cases hm
/-- the greatest counter of moves of a replica, or 0 -/
def topM (l : List Mv) (r : Int) : Int := l.foldl (fun n m => if mr m = r then max n (mc m) else n) 0
theorem getK_fold : ∀ (l : List Mv) (v : List Mk) (r : Int), getK (l.foldl (fun v m => raiseK v (mc m) (mr m)) v) r = l.foldl (fun n m => if mr m = r then max n (mc m) else n) (getK v r)
 | [], _, _ => rfl
 | m :: l, v, r => by
  rw [List.foldl_cons, List.foldl_cons, getK_fold l, getK_raise]
  by_cases h : r = mr m
  ·rw [if_pos h, if_pos h.symm, h]
  ·rw [if_neg h, if_neg (fun e => h e.symm)]
theorem getK_of (l : List Mv) (r : Int) : getK (ofK l) r = topM l r := getK_fold l [] r
theorem top_fold_max (r : Int) : ∀ (l : List Mv) (n : Int), 0 ≤ n → l.foldl (fun n m => if mr m = r then max n (mc m) else n) n = max n (topM l r)
 | [], n, h => by show n = max n 0; omega
 | m :: l, n, h => by
  unfold topM
  rw [List.foldl_cons, List.foldl_cons]
  by_cases hr : mr m = r
  ·rw [if_pos hr, if_pos hr, top_fold_max r l _ (by omega), top_fold_max r l _ (by omega)]
   omega
  ·rw [if_neg hr, if_neg hr, top_fold_max r l n h, top_fold_max r l 0 (Int.le_refl 0)]
   omega
theorem topM_cons (m : Mv) (l : List Mv) (r : Int) : topM (m :: l) r = if mr m = r then max (max 0 (mc m)) (topM l r) else topM l r := by
 unfold topM
 rw [List.foldl_cons]
 by_cases hr : mr m = r
 ·rw [if_pos hr, if_pos hr, top_fold_max r l _ (by omega)]
  rfl
 ·rw [if_neg hr, if_neg hr]
theorem topM_nn (r : Int) : ∀ l : List Mv, 0 ≤ topM l r
 | [] => Int.le_refl 0
 | m :: l => by
  have := topM_nn r l
  rw [topM_cons]
  split <;> omega
theorem topM_app (a b : List Mv) (r : Int) : topM (a ++ b) r = max (topM a r) (topM b r) := by
 rw [show topM (a ++ b) r = b.foldl (fun n m => if mr m = r then max n (mc m) else n) (topM a r) from List.foldl_append, top_fold_max r b _ (topM_nn r a)]
theorem topM_le {l : List Mv} {m : Mv} (hm : m ∈ l) : mc m ≤ topM l (mr m) := by
 induction l with
 | nil => cases hm
 | cons x l ih =>
  rw [topM_cons]
  rcases List.mem_cons.1 hm with rfl | h
  ·rw [if_pos rfl]; omega
  ·have := ih h
   split <;> omega
theorem topM_is {l : List Mv} {r : Int} (h : 0 < topM l r) : ∃ m ∈ l, mr m = r ∧ mc m = topM l r := by
 induction l with
 | nil => exact absurd h (by show ¬ (0 : Int) < 0; omega)
 | cons x l ih =>
  rw [topM_cons] at h ⊢
  have hn := topM_nn r l
  by_cases hr : mr x = r
  ·rw [if_pos hr] at h ⊢
   by_cases hc : topM l r < mc x
   ·exact ⟨x, List.mem_cons_self, hr, by omega⟩
   ·obtain ⟨m, hm, h1, h2⟩ := ih (by omega)
    exact ⟨m, List.mem_cons_of_mem _ hm, h1, by omega⟩
  ·rw [if_neg hr] at h ⊢
   obtain ⟨m, hm, h1, h2⟩ := ih h
   exact ⟨m, List.mem_cons_of_mem _ hm, h1, h2⟩
theorem ofK_fold_ran : ∀ (l : List Mv) {v : List Mk}, RanK v → (∀ m ∈ l, 1 ≤ mr m ∧ mr m ≤ 255 ∧ mc m ≤ 4611686018427387903) → RanK (l.foldl (fun v m => raiseK v (mc m) (mr m)) v)
 | [], _, h, _ => h
 | m :: l, v, h, hm => by
  have h0 := hm m List.mem_cons_self
  rw [List.foldl_cons]
  exact ofK_fold_ran l (raiseK_ran h ⟨h0.1, h0.2.1⟩ h0.2.2) fun x hx => hm x (List.mem_cons_of_mem _ hx)
theorem ofK_ran {l : List Mv} (h : ∀ m ∈ l, 1 ≤ mr m ∧ mr m ≤ 255 ∧ mc m ≤ 4611686018427387903) : RanK (ofK l) := ofK_fold_ran l (fun m hm => by cases hm) h
end Go.Proofs.YthhckdjagnlgpaaGreat
end
section
namespace Go.Proofs.YthhckdjagnlgpaaGreat
open Go.RowKit Go.IntWalk
set_option maxRecDepth 100000
attribute [local go_sem] Oper.semAt_some
theorem rkraise_k {A : Option Addr} {cap : Nat} {l N : List Mk} {c r : Int} (h : raiseK l c r = N) (hl : l.length ≤ 50000) (hA : A = none → cap = 0) (hcap : l.length ≤ cap) {w : World} (hc : At w w.heap.size A (kvs l)) :
  Calls Tryz.prog 92 #[.slice A l.length cap, .agg #[.int .i64 c, .int .i64 r]] w (ToldK N w) := by
 subst h; exact (rkraise_c A cap l c r hl hA hcap w hc).mono fun e w' h => h.told
set_option maxHeartbeats 4000000 in
theorem rkof_c (A2 : Option Addr) (c2 : Nat) (b : List Mv) (hl : b.length ≤ 40000) (w : World) (h2 : At w w.heap.size A2 (mvs b)) :
  Calls Tryz.prog 115 #[.slice A2 b.length c2] w (ToldK (ofK b) w) := by
 have H2 := Lib.hid h2
 clear h2
 go_enter Tryz.func115, Tryz.ntmps115
 go_wp2_with fail
 go_loopw [3, 4] (fun v i wr => ∃ (k : Nat) (A : Option Addr) (cp : Nat), i = .int .i64 (k : Int) ∧ k ≤ b.length ∧ v = .slice A (ofK (b.take k)).length cp ∧ At wr wr.heap.size A (kvs (ofK (b.take k))) ∧ (A = none → cp = 0) ∧ (ofK (b.take k)).length ≤ cp ∧ Below w.heap.size w wr) (fun _ i _ => b.length - (intOf i).toNat)
 case atStart => exact ⟨0, none, 0, rfl, Nat.zero_le _, rfl, At.nil _ _ _, fun _ => rfl, Nat.le_refl _, Below.refl _ _⟩
 case round =>
  obtain ⟨k, A, cp, rfl, hk, rfl, hat, hn, hcp, hbw⟩ := hrel
  have HAT := Lib.hid hat
  have HN := Lib.hid hn
  have HBW := Lib.hid hbw
  clear hat hn hbw
  by_cases hlt : k < b.length
  ·obtain ⟨m, hm⟩ := some_at hlt
   obtain ⟨b0, o0, rfl, -, x0, x1, -⟩ := move_cells (H2.out.keep HBW.out) hm
   have hk0 : (0 : Int) ≤ (k : Int) := by omega
   have hkl : (k : Int) < (b.length : Int) := by omega
   have HST := Lib.hid (ofK_take hm)
   have hjl := ofK_len (b.take k)
   rw [List.length_take] at hjl
   have HJL := Lib.hid (show (ofK (b.take k)).length ≤ 50000 by omega)
   have HR := Lib.hid (rkraise_k HST.out.symm HJL.out HN.out hcp HAT.out)
   clear hm hjl
   go_wp2_with fail
   refine HR.out.mono ?_
   rintro e wa ⟨E1, f1, rfl, t1, n1, l1, hbn⟩
   have HBZ := Lib.hid (HBW.out.trans (hbn.mono HBW.out.size))
   have HT1 := Lib.hid t1
   have HN1 := Lib.hid n1
   have HL1 := Lib.hid l1
   clear t1 n1 l1 hbn x0 x1
   go_wp2_with fail
   go_roundw
   case rel => exact ⟨k + 1, E1, f1, by go_num, by omega, rfl, HT1.out, HN1.out, HL1.out, HBZ.out⟩
   case measure => simp only [intOf]; omega
  ·obtain rfl : k = b.length := by omega
   have ha := HAT.out
   rw [List.take_length] at ha hcp ⊢
   have HAZ := Lib.hid ha
   clear ha HAT
   go_wp2_with fail
   go_ret
   exact ⟨A, cp, rfl, HAZ.out, HN.out, hcp, HBW.out⟩
theorem below_step {a b : List Mk} {k : Nat} {m : Mk} (hm : a[k]? = some m) : ((a.drop k).all fun m => decide (getK a (kr m) ≤ getK b (kr m))) = (decide (getK a (kr m) ≤ getK b (kr m)) && (a.drop (k + 1)).all fun m => decide (getK a (kr m) ≤ getK b (kr m))) := by
 obtain ⟨h1, h2⟩ := List.getElem?_eq_some_iff.1 hm
 rw [List.drop_eq_getElem_cons h1, h2, List.all_cons]
set_option maxHeartbeats 4000000 in
theorem rkbelow_c (A1 A2 : Option Addr) (c1 c2 : Nat) (a b : List Mk) (ha : a.length ≤ 100000) (hb : b.length ≤ 100000) (w : World) (k1 : At w w.heap.size A1 (kvs a)) (k2 : At w w.heap.size A2 (kvs b)) :
  Calls Tryz.prog 114 #[.slice A1 a.length c1, .slice A2 b.length c2] w fun e w' => e = .returned (.bool (belowK a b)) ∧ Below w.heap.size w w' := by
 have ham : a.length ≤ maxLen := by unfold maxLen; omega
 have hbm : b.length ≤ maxLen := by unfold maxLen; omega
 have H1 := Lib.hid k1
 have H2 := Lib.hid k2
 obtain ⟨R, hR⟩ : ∃ R, belowK a b = R := ⟨_, rfl⟩
 rw [hR]
 have HR := Lib.hid hR
 clear k1 k2 hR
 go_enter Tryz.func114, Tryz.ntmps114
 go_wp2_with fail
 go_loopw [5] (fun i wr => ∃ k : Nat, i = .int .i64 (k : Int) ∧ k ≤ a.length ∧ ((a.drop k).all fun m => decide (getK a (kr m) ≤ getK b (kr m))) = R ∧ Below w.heap.size w wr) (fun i _ => a.length - (intOf i).toNat)
 case atStart => exact ⟨0, rfl, Nat.zero_le _, HR.out, Below.refl _ _⟩
 case round =>
  obtain ⟨k, rfl, hk, hal, hbw⟩ := hrel
  have HAL := Lib.hid hal
  have HBW := Lib.hid hbw
  clear hal hbw
  by_cases hlt : k < a.length
  ·obtain ⟨m, hm⟩ := some_at hlt
   obtain ⟨b0, o0, rfl, -, x0, -⟩ := mark_cells (H1.out.keep HBW.out) hm
   have hk0 : (0 : Int) ≤ (k : Int) := by omega
   have hkl : (k : Int) < (a.length : Int) := by omega
   have hst := below_step (b := b) hm
   rw [HAL.out] at hst
   obtain ⟨u, hu⟩ : ∃ u, getK a (kr m) = u := ⟨_, rfl⟩
   obtain ⟨v, hv⟩ : ∃ v, getK b (kr m) = v := ⟨_, rfl⟩
   rw [hu, hv] at hst
   have HU := Lib.hid hu
   have HV := Lib.hid hv
   have HST := Lib.hid hst
   have HC1 := Lib.hid (H1.out.keep HBW.out)
   have HC2 := Lib.hid (H2.out.keep HBW.out)
   clear hu hv hst hm
   go_wp2_with fail
   refine quiet_held (fun w' => Below wr.heap.size wr w') (by kernel_rfl) (by kernel_rfl) (Below.refl _ _).drew ?_
   repeat (first
    | go_big_quiet_skip
    | (go_big_quiet_want; go_big_quiet_op; go_big_quiet_on)
    | (go_big_quiet_want; apply Exists.intro; refine ⟨fun wq hq => ?_, ?_⟩; (focus (have z0 := keep_cell hq x0; unfold Oper.quietAt; go_simp; all_goals (first | rfl | exact ⟨rfl, rfl⟩ | (with_reducible refine (rkget_k HU.out ham wq (HC1.out.keep hq)).mono ?_; rintro e w5 ⟨rfl, rfl⟩; exact ⟨rfl, hq⟩) | (with_reducible refine (rkget_k HV.out hbm wq (HC2.out.keep hq)).mono ?_; rintro e w5 ⟨rfl, rfl⟩; exact ⟨rfl, hq⟩)))); simp only [Act.put, List.setIfInBounds_toArray, List.set_cons_zero, List.set_cons_succ]; go_big_quiet_on))
   refine wpQuiet_nil ?_
   intro wx hbx
   have HBX := Lib.hid (HBW.out.trans (hbx.mono HBW.out.size))
   by_cases hgt : u ≤ v
   ·have hn : ¬ u > v := by omega
    rw [decide_eq_true hgt, Bool.true_and] at HST
    clear x0 hbx
    go_wp2_with fail
    go_roundw
    case rel => exact ⟨k + 1, by go_num, by omega, HST.out.symm, HBX.out⟩
    case measure => simp only [intOf]; omega
   ·have hn : u > v := by omega
    rw [decide_eq_false hgt, Bool.false_and] at HST
    clear x0 hbx
    go_wp2_with fail
    go_ret
    exact ⟨by rw [HST.out]; rfl, HBX.out⟩
  ·obtain rfl : k = a.length := by omega
   have hal := HAL.out
   rw [List.drop_length] at hal
   have HZ := Lib.hid hal
   clear hal
   go_wp2_with fail
   go_ret
   exact ⟨by rw [← HZ.out]; rfl, HBW.out⟩
end Go.Proofs.YthhckdjagnlgpaaGreat
end
