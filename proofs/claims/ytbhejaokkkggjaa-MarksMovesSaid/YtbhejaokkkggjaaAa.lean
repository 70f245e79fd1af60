/-
  Marks as cells; what they have of a replica, raised, joined: plain.
-/
import Derived.Test.YtbhejaokkkggjaaTe
import Derived.Test.YtbhejaokkkggjaaUa
namespace Go.Proofs.Ytbhejaokkkggjaa
open Go.RowKit Go.IntWalk
set_option maxRecDepth 100000
attribute [local go_sem] Oper.semAt_some

/-- a mark: its replica, and its counter -/
abbrev Mk := Int × Int
abbrev kr (m : Mk) : Int := m.1
abbrev kc (m : Mk) : Int := m.2
def kcs (m : Mk) : List Value := [.int .i64 (kr m), .int .i64 (kc m)]
def kv (m : Mk) : Value := .agg #[.int .i64 (kr m), .int .i64 (kc m)]
/-- the cells of a list of marks -/
def kvs (l : List Mk) : List Value := l.flatMap kcs
theorem kvs_len (l : List Mk) : (kvs l).length = l.length * 2 := by
  induction l with
  | nil => rfl
  | cons x l ih =>
    have h : kvs (x :: l) = kcs x ++ kvs l := rfl
    rw [h, List.length_append, List.length_cons, ih, show (kcs x).length = 2 from rfl]
    omega
theorem kvs_append (a b : List Mk) : kvs (a ++ b) = kvs a ++ kvs b := by simp [kvs]
theorem kvs_one (l : List Mk) : ∀ u ∈ kvs l, u.oneCell' = true := by
  intro u hu
  simp only [kvs, List.mem_flatMap, kcs] at hu
  obtain ⟨x, _, hx⟩ := hu
  simp only [List.mem_cons, List.not_mem_nil, or_false] at hx
  rcases hx with rfl | rfl <;> rfl
theorem kvs_take (l : List Mk) : ∀ j, kvs (l.take j) = (kvs l).take (j * 2) := by
  induction l with
  | nil => intro j; simp [kvs]
  | cons c l ih =>
    intro j
    cases j with
    | zero => simp [kvs]
    | succ j =>
      rw [List.take_succ_cons, show kvs (c :: l.take j) = kcs c ++ kvs (l.take j) from rfl, ih, show kvs (c :: l) = kcs c ++ kvs l from rfl, List.take_append, List.take_of_length_le (l := kcs c) (by show 2 ≤ (j + 1) * 2; omega), show (j + 1) * 2 - (kcs c).length = j * 2 from by show (j + 1) * 2 - 2 = _; omega]
theorem kvs_drop (l : List Mk) : ∀ j, kvs (l.drop j) = (kvs l).drop (j * 2) := by
  induction l with
  | nil => intro j; simp [kvs]
  | cons c l ih =>
    intro j
    cases j with
    | zero => simp [kvs]
    | succ j =>
      rw [List.drop_succ_cons, ih, show kvs (c :: l) = kcs c ++ kvs l from rfl, List.drop_append, List.drop_of_length_le (l := kcs c) (by show 2 ≤ (j + 1) * 2; omega), show (j + 1) * 2 - (kcs c).length = j * 2 from by show (j + 1) * 2 - 2 = _; omega, List.nil_append]
theorem kvs_at {l : List Mk} {k : Nat} {x : Mk} (h : l[k]? = some x) : (kvs l)[k * 2]? = some (.int .i64 (kr x)) ∧ (kvs l)[k * 2 + 1]? = some (.int .i64 (kc x)) := by
  have hd : kvs (l.drop k) = kcs x ++ kvs (l.drop (k + 1)) := by
    have hk := (List.getElem?_eq_some_iff.1 h).1
    have hc := (List.getElem?_eq_some_iff.1 h).2
    rw [List.drop_eq_getElem_cons hk, hc]; rfl
  rw [kvs_drop] at hd
  have g : ∀ i, (kvs l)[k * 2 + i]? = (kcs x ++ kvs (l.drop (k + 1)))[i]? := fun i => by rw [← hd, List.getElem?_drop]
  exact ⟨by have := g 0; simpa [kcs] using this, by have := g 1; simpa [kcs] using this⟩
theorem mark_cells {w : World} {B k : Nat} {A : Option Addr} {l : List Mk} {x : Mk} (h : At w B A (kvs l)) (hk : l[k]? = some x) :
    ∃ b off, A = some ⟨b, off, none⟩ ∧ b < B ∧ w.cell? ⟨b, off + k * 2, none⟩ = some (.int .i64 (kr x)) ∧ w.cell? ⟨b, off + k * 2 + 1, none⟩ = some (.int .i64 (kc x)) := by
  obtain ⟨h1, h2⟩ := kvs_at hk
  obtain ⟨b, off, hA, hlt, hc⟩ := h _ _ h1
  obtain ⟨b', off', hA', _, hc1⟩ := h _ _ h2
  rw [hA] at hA'
  cases hA'
  exact ⟨b, off, hA, hlt, hc, hc1⟩
theorem Try.info70 : (Try.prog.info? 70).map (fun i => (i.zero, i.size, i.bytes)) = some (some (.agg #[.int .i64 0, .int .i64 0]), 2, 16) := by kernel_rfl
theorem kvs_set (m : Mk) : ∀ (l : List Mk) (k : Nat), k < l.length → ((kvs l).set (k * 2) (.int .i64 (kr m))).set (k * 2 + 1) (.int .i64 (kc m)) = kvs (l.set k m)
  | [], k, h => by simp at h
  | x :: l, 0, _ => rfl
  | x :: l, k + 1, h => by
    have h1 : kvs (x :: l) = .int .i64 (kr x) :: .int .i64 (kc x) :: kvs l := rfl
    have h2 : kvs ((x :: l).set (k + 1) m) = .int .i64 (kr x) :: .int .i64 (kc x) :: kvs (l.set k m) := rfl
    rw [h1, h2, ← kvs_set m l k (by simpa using h)]
    rw [show (k + 1) * 2 = k * 2 + 1 + 1 by omega]
    rfl
theorem kvs_setc {l : List Mk} {k : Nat} {x : Mk} (c : Int) (h : l[k]? = some x) : (kvs l).set (k * 2 + 1) (.int .i64 c) = kvs (l.set k (kr x, c)) := by
  have h1 := (kvs_at h).1
  rw [← kvs_set (kr x, c) l k (List.getElem?_eq_some_iff.1 h).1]
  show _ = ((kvs l).set (k * 2) (.int .i64 (kr x))).set (k * 2 + 1) _
  obtain ⟨h2, h3⟩ := List.getElem?_eq_some_iff.1 h1
  rw [← h3, List.set_getElem_self]

def idxK (p : Mk → Bool) (l : List Mk) : Int := match l.findIdx? p with
  | some i => (i : Int)
  | none => -1
theorem idxK_none {p : Mk → Bool} {l : List Mk} (h : ∀ r ∈ l, p r = false) : idxK p l = -1 := by
  have : l.findIdx? p = none := List.findIdx?_eq_none_iff.2 h
  unfold idxK; rw [this]
theorem idxK_some {p : Mk → Bool} {l : List Mk} {k : Nat} {r : Mk} (hk : l[k]? = some r) (hp : p r = true) (h : ∀ x ∈ l.take k, p x = false) : idxK p l = (k : Int) := by
  have hkl := (List.getElem?_eq_some_iff.1 hk).1
  have hkr := (List.getElem?_eq_some_iff.1 hk).2
  have : l.findIdx? p = some k := by
    rw [List.findIdx?_eq_some_iff_getElem]
    refine ⟨hkl, by rw [hkr]; exact hp, fun j hj => ?_⟩
    have := h l[j] (by rw [List.mem_take_iff_getElem]; exact ⟨j, by omega, rfl⟩)
    simp [this]
  unfold idxK; rw [this]
theorem idxK_cases (p : Mk → Bool) (l : List Mk) : (idxK p l = -1 ∧ l.findIdx? p = none) ∨ ∃ (k : Nat) (x : Mk), idxK p l = (k : Int) ∧ l.findIdx? p = some k ∧ l[k]? = some x ∧ k < l.length ∧ p x = true := by
  unfold idxK
  cases h : l.findIdx? p with
  | none => exact .inl ⟨rfl, rfl⟩
  | some k =>
    obtain ⟨h1, h2, _⟩ := List.findIdx?_eq_some_iff_getElem.1 h
    exact .inr ⟨k, l[k], rfl, rfl, by simp [h1], h1, h2⟩
/-- the marks of that replica, and behind it -/
def isK (r : Int) (m : Mk) : Bool := kr m == r
def gtK (r : Int) (m : Mk) : Bool := decide (r < kr m)
def getK (v : List Mk) (r : Int) : Int := match v.find? (isK r) with
  | some m => kc m
  | none => 0
def raiseK (v : List Mk) (c r : Int) : List Mk := match v.findIdx? (isK r) with
  | some k => v.take k ++ (r, max ((v.getD k (0, 0)).2) c) :: v.drop (k + 1)
  | none => if c ≤ 0 then v else match v.findIdx? (gtK r) with
    | some k => v.take k ++ (r, c) :: v.drop k
    | none => v ++ [(r, c)]
def joinK (a b : List Mk) : List Mk := b.foldl (fun v m => raiseK v (kc m) (kr m)) a
def ofK (l : List Mv) : List Mk := l.foldl (fun v m => raiseK v (mc m) (mr m)) []
def belowK (a b : List Mk) : Bool := a.all fun m => decide (getK a (kr m) ≤ getK b (kr m))
def oneK (m : Mk) : Bool := decide (1 ≤ kr m) && (decide (kr m ≤ 255) && (decide (1 ≤ kc m) && decide (kc m ≤ 4611686018427387903)))
def AscK (l : List Mk) : Prop := l.Pairwise fun a b => kr a < kr b
theorem getK_cases (v : List Mk) (r : Int) : (idxK (isK r) v = -1 ∧ getK v r = 0) ∨ ∃ (k : Nat) (x : Mk), idxK (isK r) v = (k : Int) ∧ v[k]? = some x ∧ getK v r = kc x ∧ k < v.length ∧ kr x = r := by
  rcases idxK_cases (isK r) v with ⟨h1, h2⟩ | ⟨k, x, h1, h2, h3, h4, h5⟩
  · refine .inl ⟨h1, ?_⟩
    have : v.find? (isK r) = none := by
      rw [List.find?_eq_none]
      intro y hy
      have := List.findIdx?_eq_none_iff.1 h2 y hy
      simp [this]
    unfold getK; rw [this]
  · refine .inr ⟨k, x, h1, h3, ?_, h4, by simpa [isK] using h5⟩
    have : v.find? (isK r) = some x := by
      rw [List.find?_eq_some_iff_getElem]
      obtain ⟨g1, g2, g3⟩ := List.findIdx?_eq_some_iff_getElem.1 h2
      refine ⟨h5, k, h4, by have := (List.getElem?_eq_some_iff.1 h3).2; exact this, fun j hj => by simpa using g3 j hj⟩
    unfold getK; rw [this]
theorem raiseK_cases (v : List Mk) (c r : Int) :
    (∃ (k : Nat) (x : Mk), idxK (isK r) v = (k : Int) ∧ v[k]? = some x ∧ k < v.length ∧ kr x = r ∧ raiseK v c r = v.set k (kr x, max (kc x) c)) ∨
    (idxK (isK r) v = -1 ∧ ((c ≤ 0 ∧ raiseK v c r = v) ∨ (0 < c ∧ ((∃ (k : Nat), idxK (gtK r) v = (k : Int) ∧ k < v.length ∧ raiseK v c r = v.take k ++ (r, c) :: v.drop k) ∨ (idxK (gtK r) v = -1 ∧ raiseK v c r = v ++ [(r, c)]))))) := by
  rcases idxK_cases (isK r) v with ⟨h1, h2⟩ | ⟨k, x, h1, h2, h3, h4, h5⟩
  · refine .inr ⟨h1, ?_⟩
    unfold raiseK
    rw [h2]
    by_cases hc : c ≤ 0
    · exact .inl ⟨hc, by simp [hc]⟩
    · refine .inr ⟨by omega, ?_⟩
      rcases idxK_cases (gtK r) v with ⟨g1, g2⟩ | ⟨k, x, g1, g2, g3, g4, g5⟩
      · exact .inr ⟨g1, by simp [hc, g2]⟩
      · exact .inl ⟨k, g1, g4, by simp [hc, g2]⟩
  · have hr : kr x = r := by simpa [isK] using h5
    refine .inl ⟨k, x, h1, h3, h4, hr, ?_⟩
    unfold raiseK
    rw [h2]
    show v.take k ++ (r, max ((v.getD k (0, 0)).2) c) :: v.drop (k + 1) = _
    rw [show v.getD k (0, 0) = x by rw [List.getD_eq_getElem?_getD, h3]; rfl, hr]
    have := List.set_eq_take_append_cons_drop (l := v) (i := k) (a := (r, max x.2 c))
    rw [this, if_pos h4]
theorem raiseK_len (v : List Mk) (c r : Int) : (raiseK v c r).length ≤ v.length + 1 := by
  rcases raiseK_cases v c r with ⟨k, x, _, _, _, _, h⟩ | ⟨_, ⟨_, h⟩ | ⟨_, ⟨k, _, hk, h⟩ | ⟨_, h⟩⟩⟩ <;> rw [h] <;> simp <;> omega
theorem joinK_len (a : List Mk) : ∀ b : List Mk, (joinK a b).length ≤ a.length + b.length := fun b => by
  induction b generalizing a with
  | nil => exact Nat.le_refl _
  | cons m b ih =>
    have h1 := ih (raiseK a (kc m) (kr m))
    have h2 := raiseK_len a (kc m) (kr m)
    show (joinK (raiseK a (kc m) (kr m)) b).length ≤ _
    rw [List.length_cons]; omega
theorem ofK_len' (l : List Mv) : ∀ v : List Mk, (l.foldl (fun v m => raiseK v (mc m) (mr m)) v).length ≤ v.length + l.length := fun v => by
  induction l generalizing v with
  | nil => exact Nat.le_refl _
  | cons m l ih =>
    have h1 := ih (raiseK v (mc m) (mr m))
    have h2 := raiseK_len v (mc m) (mr m)
    rw [List.foldl_cons, List.length_cons]; omega
theorem ofK_len (l : List Mv) : (ofK l).length ≤ l.length := by have := ofK_len' l []; simpa [ofK] using this
theorem joinK_take {a b : List Mk} {k : Nat} {m : Mk} (h : b[k]? = some m) : joinK a (b.take (k + 1)) = raiseK (joinK a (b.take k)) (kc m) (kr m) := by
  unfold joinK
  rw [List.take_add_one, h, List.foldl_append]; rfl
theorem ofK_take {l : List Mv} {k : Nat} {m : Mv} (h : l[k]? = some m) : ofK (l.take (k + 1)) = raiseK (ofK (l.take k)) (mc m) (mr m) := by
  unfold ofK
  rw [List.take_add_one, h, List.foldl_append]; rfl
theorem getK_some {l : List Mk} {k : Nat} {m : Mk} {r : Int} (h : l[k]? = some m) (hr : kr m = r) (hno : ∀ x ∈ l.take k, isK r x = false) : getK l r = kc m := by
  have : l.find? (isK r) = some m := by
    rw [List.find?_eq_some_iff_getElem]
    obtain ⟨h1, h2⟩ := List.getElem?_eq_some_iff.1 h
    refine ⟨by simp [isK, hr], k, h1, h2, fun j hj => ?_⟩
    have := hno l[j] (by rw [List.mem_take_iff_getElem]; exact ⟨j, by omega, rfl⟩)
    simp [this]
  unfold getK; rw [this]
theorem getK_none {l : List Mk} {r : Int} (hno : ∀ x ∈ l, isK r x = false) : getK l r = 0 := by
  have : l.find? (isK r) = none := by
    rw [List.find?_eq_none]
    intro y hy
    simp [hno y hy]
  unfold getK; rw [this]
theorem isK_take {l : List Mk} {k : Nat} {m : Mk} {r : Int} (h : l[k]? = some m) (hr : ¬ kr m = r) (hno : ∀ x ∈ l.take k, isK r x = false) : ∀ x ∈ l.take (k + 1), isK r x = false := fun x hx => by
  rw [List.take_add_one, h] at hx
  rcases List.mem_append.1 hx with g | g
  · exact hno x g
  · simp at g; rw [g]; simpa [isK] using hr
end Go.Proofs.Ytbhejaokkkggjaa
