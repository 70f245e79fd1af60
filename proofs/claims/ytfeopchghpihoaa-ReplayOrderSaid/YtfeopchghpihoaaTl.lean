/-
  Rows of whole numbers; a node's way up: the document's.
  Whole numbers in their order; who is reached: plain.
-/
import Derived.Test.YtfeopchghpihoaaTk
section
namespace Go.Proofs.Ytfeopchghpihoaa
open Go.RowKit Go.IntWalk
set_option maxRecDepth 100000
attribute [local go_sem] Oper.semAt_some

theorem Try.info3 : (Try.prog.info? 3).map (fun i => (i.zero, i.size, i.bytes)) = some (some (.int .i64 0), 1, 8) := by kernel_rfl
theorem ivs_one (l : List Int) : ∀ u ∈ ivs l, u.oneCell' = true := by
  intro u hu
  simp only [ivs, List.mem_map] at hu
  obtain ⟨x, _, rfl⟩ := hu
  rfl
theorem ivs_app (a b : List Int) : ivs (a ++ b) = ivs a ++ ivs b := by simp [ivs]
theorem ivs_take (l : List Int) (k : Nat) : ivs (l.take k) = (ivs l).take k := by simp [ivs]
theorem ivs_drop (l : List Int) (k : Nat) : ivs (l.drop k) = (ivs l).drop k := by simp [ivs]
theorem own_oneI (w : World) (x : Int) : (w.alloc (.cells #[.int .i64 x] 3)).ownsRow w.heap.size 3 1 (.slice (some ⟨w.heap.size, 0, none⟩) 1 1) 1 (ivs [x]) :=
  ⟨rfl, .inr ⟨w.heap.size, 1, #[.int .i64 x], rfl, Nat.le_refl _, heap_alloc_new w _, Nat.le_refl _, by unfold maxLen; omega, rfl, rfl⟩⟩
theorem at_oneI (w : World) (x : Int) : At (w.alloc (.cells #[.int .i64 x] 3)) (w.heap.size + 1) (some ⟨w.heap.size, 0, none⟩) (ivs [x]) := fun i v hv =>
  ⟨w.heap.size, 0, rfl, Nat.lt_succ_self _, by rw [Nat.zero_add]; exact (is_cell (is_new w 3 (ivs [x])) i).trans hv⟩
theorem made_i (B : Nat) (W : World) (h : B ≤ W.heap.size) : (W.alloc (.cells #[] 3)).ownsRow B 3 1 (.slice (some ⟨W.heap.size, 0, none⟩) 0 0) 0 (ivs []) :=
  World.ownsRow_made (base := B) (e := 3) (size := 1) W #[] 0 h (by unfold maxLen; omega) rfl
theorem ivs_len1 (l : List Int) : (ivs l).length = l.length * 1 := by simp [ivs]

/-- append of whole numbers that came in, or of none -/
theorem append_optI (w : World) {ops : Array Oper} {rest : List Oper} {o : Oper} {a : Act} {Q : Exit → Act → World → Prop}
    (hg : o.guard = none) (s x : Operand) (hop : o.op = Op.call { callee := Callee.builtin Builtin.append, args := #[s, x], argTypes := #[47, 47] })
    (base B : Nat) (v : Value) (k : Nat) (us : List Int) (hs : a.eval s = v) (hown : w.ownsRow base 3 1 v k (ivs us)) (A : Option Addr) (c : Nat) (vs : List Int) (n : Nat) (hnv : n = vs.length) (hx : a.eval x = .slice A n c) (hn : A = none → c = 0) (hvl : n ≤ c)
    (hc : At w B A (ivs vs)) (hlen : k + n ≤ 100000) (b3 : base ≤ w.heap.size)
    (hK : ∀ v' w', w'.ownsRow base 3 1 v' (k + n) (ivs (us ++ vs)) → w.grownBy w' v.ownBlock → wpList Try.prog ops Q rest (a.put o.dst v') w') :
    wpList Try.prog ops Q (o :: rest) a w := by
  subst hnv
  obtain ⟨i0, hi, hz0, hz1, hz2⟩ := info_parts Try.info3
  rcases A with _ | ⟨b, off, spot⟩
  · obtain rfl : c = 0 := hn rfl
    obtain rfl : vs = [] := List.eq_nil_of_length_eq_zero (by omega)
    exact wpList_append_own_none hg s x _ hop base _ i0 1 Try.underlying47 hi v k (ivs us) hs hown hx (hK v w (by simpa using hown) (World.grownBy.refl w _))
  · by_cases hv : vs = []
    · subst hv
      refine wpList_append_own w hg s x _ hop base _ i0 (.int .i64 0) 1 8 Try.underlying47 hi hz0 hz1 hz2 rfl (by decide) v k (ivs us) hs hown ⟨b, off, spot⟩ 0 c [] hx rfl (fun j u hu => by simp at hu) (fun u hu => by simp at hu) (by unfold maxLen; simp at hlen; omega) (by simp at hlen; omega) b3 ?_
      intro v' w' h1 h2 _
      exact hK v' w' (by simpa using h1) h2
    · obtain ⟨y, ys, rfl⟩ : ∃ y ys, vs = y :: ys := by cases vs with | nil => exact absurd rfl hv | cons y ys => exact ⟨y, ys, rfl⟩
      obtain ⟨b', off', e, _, _⟩ := hc 0 _ rfl
      cases e
      refine wpList_append_own w hg s x _ hop base _ i0 (.int .i64 0) 1 8 Try.underlying47 hi hz0 hz1 hz2 rfl (by decide) v k (ivs us) hs hown ⟨b, off, none⟩ (y :: ys).length c (ivs (y :: ys)) hx (by rw [ivs_len, Nat.mul_one]) (at_news hc) (ivs_one _) (by unfold maxLen; omega) (by omega) b3 ?_
      intro v' w' h1 h2 _
      exact hK v' w' (by rw [ivs_app]; exact h1) h2

/-- the way up from the last of p, which ends at c, within n steps -/
def wayG (l : List Rw) : Nat → List Int → Int → Option (List Int)
  | 0, _, _ => none
  | n + 1, p, c => match fnd l c with
    | none => if c = 0 then some p else none
    | some r => if pa r ∈ p then none else wayG l n (p ++ [pa r]) (pa r)
def wayR (l : List Rw) (c : Int) : Option (List Int) := wayG l (l.length + 1) [c] c
def PathEnd (o : Option (List Int)) (w : World) (e : Ending) (w' : World) : Prop :=
  ∃ A cap, e = .returned (.tuple #[.slice A (o.getD []).length cap, .bool o.isSome]) ∧ At w' w'.heap.size A (ivs (o.getD [])) ∧ (A = none → cap = 0) ∧ (o.getD []).length ≤ cap ∧ Below w.heap.size w w'
theorem path_none {w w' : World} (hb : Below w.heap.size w w') : PathEnd none w (.returned (.tuple #[.slice none 0 0, .bool false])) w' := ⟨none, 0, rfl, At.nil _ _ _, fun _ => rfl, Nat.le_refl _, hb⟩

theorem cell_ownI {w : World} {B g n cap j : Nat} {u : Value} {e : TypeId} {xs : List Value} (h : w.ownsRow B e 1 (.slice (some ⟨g, 0, none⟩) n cap) n xs) (hj : xs[j]? = some u) : w.cell? ⟨g, j, none⟩ = some u := by
  have := h.cells (g := g) rfl j u hj
  rw [add_head] at this
  exact this
theorem ownsRow_drewN {w : World} {B n size : Nat} {v : Value} {e : TypeId} {xs : List Value} (h : w.ownsRow B e size v n xs) (q : Nat) : (w.drewN q).ownsRow B e size v n xs := h
theorem below_ownI {w1 w2 : World} {B size n : Nat} {e : TypeId} {v : Value} {xs : List Value} (h : w1.ownsRow B e size v n xs) (hb : Below w1.heap.size w1 w2) : w2.ownsRow B e size v n xs := by
  refine ⟨h.1, ?_⟩
  rcases h.2 with h2 | ⟨g, cap, cur, hv, hg, hh, r⟩
  · exact .inl h2
  · exact .inr ⟨g, cap, cur, hv, hg, by rw [hb.block g (Array.getElem?_eq_some_iff.1 hh).1]; exact hh, r⟩

end Go.Proofs.Ytfeopchghpihoaa
end

section
namespace Go.Proofs.Ytfeopchghpihoaa
open Go.RowKit Go.IntWalk
set_option maxRecDepth 100000

/-- a number put among others that stand in their order, once -/
def insI : List Int → Int → List Int
  | [], x => [x]
  | y :: t, x => if y < x then y :: insI t x else if y = x then y :: t else x :: y :: t
theorem insI_at {x : Int} : ∀ {o : List Int} {j : Nat}, j ≤ o.length → (∀ y ∈ o.take j, y < x) → (j = o.length ∨ ∃ y, o[j]? = some y ∧ ¬ y < x) →
    insI o x = if o[j]? = some x then o else o.take j ++ x :: o.drop j
  | [], j, hj, _, _ => by
    obtain rfl : j = 0 := by simpa using hj
    simp [insI]
  | y :: t, 0, _, _, hs => by
    rcases hs with hs | ⟨z, hz, hzn⟩
    · simp at hs
    · simp at hz
      subst hz
      rw [insI, if_neg hzn]
      by_cases he : y = x
      · subst he; simp
      · simp [he]
  | y :: t, j + 1, hj, hlo, hs => by
    have hyx : y < x := hlo y (by simp)
    rw [insI, if_pos hyx, insI_at (o := t) (j := j) (by simpa using hj) (fun z hz => hlo z (by simp [hz])) (by
      rcases hs with hs | ⟨z, hz, hzn⟩
      · left; simpa using hs
      · exact .inr ⟨z, by simpa using hz, hzn⟩)]
    simp only [List.getElem?_cons_succ, List.take_succ_cons, List.drop_succ_cons]
    split <;> rfl
def reachG (l : List Rw) (o : List Int) (r : Rw) : List Int := if (wayR l (ch r)).isSome then insI o (ch r) else o
def reachR (l : List Rw) : List Int := l.foldl (reachG l) [0]
theorem insI_len (x : Int) : ∀ o : List Int, (insI o x).length ≤ o.length + 1
  | [] => by simp [insI]
  | y :: t => by
    have := insI_len x t
    unfold insI
    split
    · simp; omega
    · split <;> simp
theorem insI_pos (x : Int) (o : List Int) : 0 < (insI o x).length := by
  cases o with
  | nil => simp [insI]
  | cons y t =>
    unfold insI
    split
    · simp
    · split <;> simp
theorem reachG_len (l : List Rw) (r : Rw) (o : List Int) (ho : 0 < o.length) : 0 < (reachG l o r).length ∧ (reachG l o r).length ≤ o.length + 1 := by
  unfold reachG
  split
  · exact ⟨insI_pos _ _, insI_len _ _⟩
  · exact ⟨ho, by omega⟩
theorem reach_step {l : List Rw} {k : Nat} {r : Rw} (h : l[k]? = some r) : (l.take (k + 1)).foldl (reachG l) [0] = reachG l ((l.take k).foldl (reachG l) [0]) r := by
  rw [List.take_add_one, h, List.foldl_append]; rfl
end Go.Proofs.Ytfeopchghpihoaa
end
