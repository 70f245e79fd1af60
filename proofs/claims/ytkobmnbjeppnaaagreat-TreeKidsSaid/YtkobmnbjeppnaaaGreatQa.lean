/-
 Rows of whole numbers; a node's way up: the document's.
 Whole numbers in their order; who is reached: plain.
 Maps of whole numbers, and their keys in order; whole numbers put among others, once.
-/
import Derived.Test.YtkobmnbjeppnaaaGreatTk
import Derived.Shelf.SlIterI.Nil
import Derived.Maps.OwnIn
section
namespace Go.Proofs.YtkobmnbjeppnaaaGreat
open Go.RowKit Go.IntWalk
set_option maxRecDepth 100000
attribute [local go_sem] Oper.semAt_some
theorem Tryz.info3 : (Tryz.prog.info? 3).map (fun i => (i.zero, i.size, i.bytes)) = some (some (.int .i64 0), 1, 8) := by kernel_rfl
theorem ivs_one (l : List Int) : ∀ u ∈ ivs l, u.oneCell' = true := by
 intro u hu
 simp only [ivs, List.mem_map] at hu
 obtain ⟨x, _, rfl⟩ := hu
 rfl
theorem ivs_app (a b : List Int) : ivs (a ++ b) = ivs a ++ ivs b := by simp [ivs]
theorem ivs_take (l : List Int) (k : Nat) : ivs (l.take k) = (ivs l).take k := by simp [ivs]
theorem ivs_drop (l : List Int) (k : Nat) : ivs (l.drop k) = (ivs l).drop k := by simp [ivs]
theorem own_oneI (w : World) (x : Int) : (w.alloc (.cells #[.int .i64 x] 3)).ownsRow w.heap.size 3 1 (.slice (some ⟨w.heap.size, 0, none⟩) 1 1) 1 (ivs [x]) :=
 ⟨rfl, .inr ⟨w.heap.size, 1, #[.int .i64 x], rfl, Nat.le_refl _, heap_alloc_new w _, Nat.le_refl _, by unfold maxLen; omega, rfl, rfl⟩⟩
theorem at_oneI (w : World) (x : Int) : At (w.alloc (.cells #[.int .i64 x] 3)) (w.heap.size + 1) (some ⟨w.heap.size, 0, none⟩) (ivs [x]) := fun i v hv =>
 ⟨w.heap.size, 0, rfl, Nat.lt_succ_self _, by rw [Nat.zero_add]; exact (is_cell (is_new w 3 (ivs [x])) i).trans hv⟩
theorem made_i (B : Nat) (W : World) (h : B ≤ W.heap.size) : (W.alloc (.cells #[] 3)).ownsRow B 3 1 (.slice (some ⟨W.heap.size, 0, none⟩) 0 0) 0 (ivs []) :=
 World.ownsRow_made (base := B) (e := 3) (size := 1) W #[] 0 h (by unfold maxLen; omega) rfl
/-- append of whole numbers that came in, or of none -/
theorem append_optI (w : World) {ops : Array Oper} {rest : List Oper} {o : Oper} {a : Act} {Q : Exit → Act → World → Prop}
  (hg : o.guard = none) (s x : Operand) (hop : o.op = Op.call { callee := Callee.builtin Builtin.append, args := #[s, x], argTypes := #[36, 36] })
  (base B : Nat) (v : Value) (k : Nat) (us : List Int) (hs : a.eval s = v) (hown : w.ownsRow base 3 1 v k (ivs us)) (A : Option Addr) (c : Nat) (vs : List Int) (n : Nat) (hnv : n = vs.length) (hx : a.eval x = .slice A n c) (hn : A = none → c = 0) (hvl : n ≤ c)
  (hc : At w B A (ivs vs)) (hlen : k + n ≤ 100000) (b3 : base ≤ w.heap.size)
  (hK : ∀ v' w', w'.ownsRow base 3 1 v' (k + n) (ivs (us ++ vs)) → w.grownBy w' v.ownBlock → wpList Tryz.prog ops Q rest (a.put o.dst v') w') :
  wpList Tryz.prog ops Q (o :: rest) a w := by
 subst hnv
 obtain ⟨i0, hi, hz0, hz1, hz2⟩ := info_parts Tryz.info3
 rcases A with _ | ⟨b, off, spot⟩
 ·obtain rfl : c = 0 := hn rfl
  obtain rfl : vs = [] := List.eq_nil_of_length_eq_zero (by omega)
  exact wpList_append_own_none hg s x _ hop base _ i0 1 Tryz.underlying36 hi v k (ivs us) hs hown hx (hK v w (by simpa using hown) (World.grownBy.refl w _))
 ·by_cases hv : vs = []
  ·subst hv
   refine wpList_append_own w hg s x _ hop base _ i0 (.int .i64 0) 1 8 Tryz.underlying36 hi hz0 hz1 hz2 rfl (by decide) v k (ivs us) hs hown ⟨b, off, spot⟩ 0 c [] hx rfl (fun j u hu => by simp at hu) (fun u hu => by simp at hu) (by unfold maxLen; simp at hlen; omega) (by simp at hlen; omega) b3 ?_
   intro v' w' h1 h2 _
   exact hK v' w' (by simpa using h1) h2
  ·obtain ⟨y, ys, rfl⟩ : ∃ y ys, vs = y :: ys := by cases vs with | nil => exact absurd rfl hv | cons y ys => exact ⟨y, ys, rfl⟩
   obtain ⟨b', off', e, _, _⟩ := hc 0 _ rfl
   cases e
   refine wpList_append_own w hg s x _ hop base _ i0 (.int .i64 0) 1 8 Tryz.underlying36 hi hz0 hz1 hz2 rfl (by decide) v k (ivs us) hs hown ⟨b, off, none⟩ (y :: ys).length c (ivs (y :: ys)) hx (by rw [ivs_len, Nat.mul_one]) (at_news hc) (ivs_one _) (by unfold maxLen; omega) (by omega) b3 ?_
   intro v' w' h1 h2 _
   exact hK v' w' (by rw [ivs_app]; exact h1) h2
/-- the way up from the last of p, which ends at c, within n steps -/
def wayG (l : List Rw) : Nat → List Int → Int → Option (List Int)
 | 0, _, _ => none
 | n + 1, p, c => match fnd l c with
  | none => if c = 0 then some p else none
  | some r => if pa r ∈ p then none else wayG l n (p ++ [pa r]) (pa r)
def wayR (l : List Rw) (c : Int) : Option (List Int) := wayG l (l.length + 1) [c] c
def PathEnd (o : Option (List Int)) (w : World) (e : Ending) (w' : World) : Prop :=
 ∃ A cap, e = .returned (.tuple #[.slice A (o.getD []).length cap, .bool o.isSome]) ∧ At w' w'.heap.size A (ivs (o.getD [])) ∧ (A = none → cap = 0) ∧ (o.getD []).length ≤ cap ∧ Below w.heap.size w w'
theorem path_none {w w' : World} (hb : Below w.heap.size w w') : PathEnd none w (.returned (.tuple #[.slice none 0 0, .bool false])) w' := ⟨none, 0, rfl, At.nil _ _ _, fun _ => rfl, Nat.le_refl _, hb⟩
theorem cell_ownI {w : World} {B g n cap j : Nat} {u : Value} {e : TypeId} {xs : List Value} (h : w.ownsRow B e 1 (.slice (some ⟨g, 0, none⟩) n cap) n xs) (hj : xs[j]? = some u) : w.cell? ⟨g, j, none⟩ = some u := by
 have := h.cells (g := g) rfl j u hj
 rw [add_head] at this
 exact this
theorem ownsRow_drewN {w : World} {B n size : Nat} {v : Value} {e : TypeId} {xs : List Value} (h : w.ownsRow B e size v n xs) (q : Nat) : (w.drewN q).ownsRow B e size v n xs := h
theorem below_ownI {w1 w2 : World} {B size n : Nat} {e : TypeId} {v : Value} {xs : List Value} (h : w1.ownsRow B e size v n xs) (hb : Below w1.heap.size w1 w2) : w2.ownsRow B e size v n xs := by
 refine ⟨h.1, ?_⟩
 rcases h.2 with h2 | ⟨g, cap, cur, hv, hg, hh, r⟩
 ·exact .inl h2
 ·exact .inr ⟨g, cap, cur, hv, hg, by rw [hb.block g (Array.getElem?_eq_some_iff.1 hh).1]; exact hh, r⟩
end Go.Proofs.YtkobmnbjeppnaaaGreat
end
section
namespace Go.Proofs.YtkobmnbjeppnaaaGreat
open Go.RowKit Go.IntWalk
set_option maxRecDepth 100000
/-- a number put among others that stand in their order, once -/
def insI : List Int → Int → List Int
 | [], x => [x]
 | y :: t, x => if y < x then y :: insI t x else if y = x then y :: t else x :: y :: t
theorem insI_at {x : Int} : ∀ {o : List Int} {j : Nat}, j ≤ o.length → (∀ y ∈ o.take j, y < x) → (j = o.length ∨ ∃ y, o[j]? = some y ∧ ¬ y < x) →
  insI o x = if o[j]? = some x then o else o.take j ++ x :: o.drop j
 | [], j, hj, _, _ => by
  obtain rfl : j = 0 := by simpa using hj
  simp [insI]
 | y :: t, 0, _, _, hs => by
  rcases hs with hs | ⟨z, hz, hzn⟩
  ·simp at hs
  ·simp at hz
   subst hz
   rw [insI, if_neg hzn]
   by_cases he : y = x
   ·subst he; simp
   ·simp [he]
 | y :: t, j + 1, hj, hlo, hs => by
  have hyx : y < x := hlo y (by simp)
  rw [insI, if_pos hyx, insI_at (o := t) (j := j) (by simpa using hj) (fun z hz => hlo z (by simp [hz])) (by
   rcases hs with hs | ⟨z, hz, hzn⟩
   ·left; simpa using hs
   ·exact .inr ⟨z, by simpa using hz, hzn⟩)]
  simp only [List.getElem?_cons_succ, List.take_succ_cons, List.drop_succ_cons]
  split <;> rfl
def reachG (l : List Rw) (o : List Int) (r : Rw) : List Int := if (wayR l (ch r)).isSome then insI o (ch r) else o
def reachR (l : List Rw) : List Int := l.foldl (reachG l) [0]
theorem insI_len (x : Int) : ∀ o : List Int, (insI o x).length ≤ o.length + 1
 | [] => by simp [insI]
 | y :: t => by
  have := insI_len x t
  unfold insI
  split
  ·simp; omega
  ·split <;> simp
theorem reach_step {l : List Rw} {k : Nat} {r : Rw} (h : l[k]? = some r) : (l.take (k + 1)).foldl (reachG l) [0] = reachG l ((l.take k).foldl (reachG l) [0]) r := by
 rw [List.take_add_one, h, List.foldl_append]; rfl
end Go.Proofs.YtkobmnbjeppnaaaGreat
end
section
namespace Go.Proofs.YtkobmnbjeppnaaaGreat
open Go.RowKit Go.IntWalk Go.Maps
set_option maxRecDepth 100000
def In64 (x : Int) : Prop := -9223372036854775808 ≤ x ∧ x ≤ 9223372036854775807
theorem in64_wf {x : Int} (h : In64 x) : (Lit.int .i64 x).wf = true := by
 obtain ⟨h1, h2⟩ := h
 simp [Lit.wf]
 exact ⟨h1, h2⟩
theorem keyed_int : Keyed Tryz.prog 3 := int_keyed Tryz.underlying3
theorem key_int {x : Int} (h : In64 x) : keyOf Tryz.prog 3 (.int .i64 x) = some (.int .i64 x) := keyOf_int_mk Tryz.underlying3 (in64_wf h)
/-- the map has just the keys of S -/
def Kok (D : DataW Unit) (S : List Int) : Prop := ∀ x, Maps.has D (.int .i64 x) = decide (x ∈ S)
theorem kok_nil : Kok (.map []) [] := fun x => by simp [Maps.has]
theorem kok_put {D : DataW Unit} {S : List Int} {x : Int} {d : DataW Unit} (hm : IsMap D) (h : Kok D S) : Kok (D.put (.int .i64 x) d) (S ++ [x]) := fun y => by
 by_cases e : y = x
 ·subst e; rw [has_put_same hm (show WideAt.IsKeyLit (Lit.int .i64 y) from trivial)]; simp
 ·rw [has_put_other (by simpa using e), h]; simp [e]
theorem insI_mem {x z : Int} : ∀ {o : List Int}, z ∈ insI o x ↔ z = x ∨ z ∈ o
 | [] => by simp [insI]
 | y :: t => by
  unfold insI
  split
  ·rw [List.mem_cons, insI_mem (o := t), List.mem_cons]
   constructor
   ·rintro (h | h | h) <;> simp [h]
   ·rintro (h | h | h) <;> simp [h]
  ·split
   ·rename_i h; subst h; simp
   ·simp
theorem insI_asc {x : Int} : ∀ {o : List Int}, o.Pairwise (· < ·) → (insI o x).Pairwise (· < ·)
 | [], _ => by simp [insI]
 | y :: t, h => by
  obtain ⟨h1, h2⟩ := List.pairwise_cons.1 h
  unfold insI
  split
  ·rename_i hy
   refine List.pairwise_cons.2 ⟨fun z hz => ?_, insI_asc h2⟩
   rcases insI_mem.1 hz with rfl | hz
   ·exact hy
   ·exact h1 z hz
  ·split
   ·exact h
   ·rename_i h3 h4
    refine List.pairwise_cons.2 ⟨fun z hz => ?_, h⟩
    rcases List.mem_cons.1 hz with rfl | hz
    ·omega
    ·have := h1 z hz; omega
theorem asc_unique {a b : List Int} (ha : a.Pairwise (· < ·)) (hb : b.Pairwise (· < ·)) (h : ∀ x, x ∈ a ↔ x ∈ b) : a = b := by
 have na : a.Nodup := ha.imp fun h e => by omega
 have nb : b.Nodup := hb.imp fun h e => by omega
 exact List.Perm.eq_of_pairwise (le := (· < ·)) (fun x y _ _ h1 h2 => by omega) ha hb ((List.perm_ext_iff_of_nodup na nb).2 h)
/-- numbers put, one behind the other -/
def putsI (o : List Int) (l : List Int) : List Int := l.foldl insI o
theorem putsI_mem {z : Int} : ∀ {l o : List Int}, z ∈ putsI o l ↔ z ∈ o ∨ z ∈ l
 | [], o => by simp [putsI]
 | x :: t, o => by
  rw [show putsI o (x :: t) = putsI (insI o x) t from rfl, putsI_mem, insI_mem, List.mem_cons]
  constructor
  ·rintro ((h | h) | h) <;> simp [h]
  ·rintro (h | h | h) <;> simp [h]
theorem putsI_asc : ∀ {l o : List Int}, o.Pairwise (· < ·) → (putsI o l).Pairwise (· < ·)
 | [], _, h => h
 | _ :: t, _, h => putsI_asc (l := t) (insI_asc h)
end Go.Proofs.YtkobmnbjeppnaaaGreat
end
