/-
 Rows of whole numbers; a node's way up: the document's.
 Whole numbers in their order; who is reached: plain.
 Maps of whole numbers, and their keys in order; whole numbers put among others, once.
 Where the way up from a node ends, plain; maps that tell it.
 Maps of nodes and where their ways end.
-/
import Derived.Test.YtkobmnbjeppnaaaGreatTk
import Derived.Shelf.SlIterI.Nil
import Derived.Maps.OwnIn
import Derived.Test.YtkobmnbjeppnaaaGreatPe
section
namespace Go.Proofs.YtkobmnbjeppnaaaGreat
open Go.RowKit Go.IntWalk
set_option maxRecDepth 100000
attribute [local go_sem] Oper.semAt_some
theorem Tryz.info3 : (Tryz.prog.info? 3).map (fun i => (i.zero, i.size, i.bytes)) = some (some (.int .i64 0), 1, 8) := by kernel_rfl
theorem ivs_one (l : List Int) : ∀ u ∈ ivs l, u.oneCell' = true := by
 intro u hu
 simp only [ivs, List.mem_map] at hu
 obtain ⟨x, _, rfl⟩ := hu
 rfl
theorem ivs_app (a b : List Int) : ivs (a ++ b) = ivs a ++ ivs b := by simp [ivs]
theorem ivs_take (l : List Int) (k : Nat) : ivs (l.take k) = (ivs l).take k := by simp [ivs]
theorem ivs_drop (l : List Int) (k : Nat) : ivs (l.drop k) = (ivs l).drop k := by simp [ivs]
theorem own_oneI (w : World) (x : Int) : (w.alloc (.cells #[.int .i64 x] 3)).ownsRow w.heap.size 3 1 (.slice (some ⟨w.heap.size, 0, none⟩) 1 1) 1 (ivs [x]) :=
 ⟨rfl, .inr ⟨w.heap.size, 1, #[.int .i64 x], rfl, Nat.le_refl _, heap_alloc_new w _, Nat.le_refl _, by unfold maxLen; omega, rfl, rfl⟩⟩
theorem at_oneI (w : World) (x : Int) : At (w.alloc (.cells #[.int .i64 x] 3)) (w.heap.size + 1) (some ⟨w.heap.size, 0, none⟩) (ivs [x]) := fun i v hv =>
 ⟨w.heap.size, 0, rfl, Nat.lt_succ_self _, by rw [Nat.zero_add]; exact (is_cell (is_new w 3 (ivs [x])) i).trans hv⟩
theorem made_i (B : Nat) (W : World) (h : B ≤ W.heap.size) : (W.alloc (.cells #[] 3)).ownsRow B 3 1 (.slice (some ⟨W.heap.size, 0, none⟩) 0 0) 0 (ivs []) :=
 World.ownsRow_made (base := B) (e := 3) (size := 1) W #[] 0 h (by unfold maxLen; omega) rfl
/-- append of whole numbers that came in, or of none -/
theorem append_optI (w : World) {ops : Array Oper} {rest : List Oper} {o : Oper} {a : Act} {Q : Exit → Act → World → Prop}
  (hg : o.guard = none) (s x : Operand) (hop : o.op = Op.call { callee := Callee.builtin Builtin.append, args := #[s, x], argTypes := #[36, 36] })
  (base B : Nat) (v : Value) (k : Nat) (us : List Int) (hs : a.eval s = v) (hown : w.ownsRow base 3 1 v k (ivs us)) (A : Option Addr) (c : Nat) (vs : List Int) (n : Nat) (hnv : n = vs.length) (hx : a.eval x = .slice A n c) (hn : A = none → c = 0) (hvl : n ≤ c)
  (hc : At w B A (ivs vs)) (hlen : k + n ≤ 100000) (b3 : base ≤ w.heap.size)
  (hK : ∀ v' w', w'.ownsRow base 3 1 v' (k + n) (ivs (us ++ vs)) → w.grownBy w' v.ownBlock → wpList Tryz.prog ops Q rest (a.put o.dst v') w') :
  wpList Tryz.prog ops Q (o :: rest) a w := by
 subst hnv
 obtain ⟨i0, hi, hz0, hz1, hz2⟩ := info_parts Tryz.info3
 rcases A with _ | ⟨b, off, spot⟩
 ·obtain rfl : c = 0 := hn rfl
  obtain rfl : vs = [] := List.eq_nil_of_length_eq_zero (by omega)
  exact wpList_append_own_none hg s x _ hop base _ i0 1 Tryz.underlying36 hi v k (ivs us) hs hown hx (hK v w (by simpa using hown) (World.grownBy.refl w _))
 ·by_cases hv : vs = []
  ·subst hv
   refine wpList_append_own w hg s x _ hop base _ i0 (.int .i64 0) 1 8 Tryz.underlying36 hi hz0 hz1 hz2 rfl (by decide) v k (ivs us) hs hown ⟨b, off, spot⟩ 0 c [] hx rfl (fun j u hu => by simp at hu) (fun u hu => by simp at hu) (by unfold maxLen; simp at hlen; omega) (by simp at hlen; omega) b3 ?_
   intro v' w' h1 h2 _
   exact hK v' w' (by simpa using h1) h2
  ·obtain ⟨y, ys, rfl⟩ : ∃ y ys, vs = y :: ys := by cases vs with | nil => exact absurd rfl hv | cons y ys => exact ⟨y, ys, rfl⟩
   obtain ⟨b', off', e, _, _⟩ := hc 0 _ rfl
   cases e
   refine wpList_append_own w hg s x _ hop base _ i0 (.int .i64 0) 1 8 Tryz.underlying36 hi hz0 hz1 hz2 rfl (by decide) v k (ivs us) hs hown ⟨b, off, none⟩ (y :: ys).length c (ivs (y :: ys)) hx (by rw [ivs_len, Nat.mul_one]) (at_news hc) (ivs_one _) (by unfold maxLen; omega) (by omega) b3 ?_
   intro v' w' h1 h2 _
   exact hK v' w' (by rw [ivs_app]; exact h1) h2
/-- the way up from the last of p, which ends at c, within n steps -/
def wayG (l : List Rw) : Nat → List Int → Int → Option (List Int)
 | 0, _, _ => none
 | n + 1, p, c => match fnd l c with
  | none => if c = 0 then some p else none
  | some r => if pa r ∈ p then none else wayG l n (p ++ [pa r]) (pa r)
def wayR (l : List Rw) (c : Int) : Option (List Int) := wayG l (l.length + 1) [c] c
def PathEnd (o : Option (List Int)) (w : World) (e : Ending) (w' : World) : Prop :=
 ∃ A cap, e = .returned (.tuple #[.slice A (o.getD []).length cap, .bool o.isSome]) ∧ At w' w'.heap.size A (ivs (o.getD [])) ∧ (A = none → cap = 0) ∧ (o.getD []).length ≤ cap ∧ Below w.heap.size w w'
theorem path_none {w w' : World} (hb : Below w.heap.size w w') : PathEnd none w (.returned (.tuple #[.slice none 0 0, .bool false])) w' := ⟨none, 0, rfl, At.nil _ _ _, fun _ => rfl, Nat.le_refl _, hb⟩
theorem cell_ownI {w : World} {B g n cap j : Nat} {u : Value} {e : TypeId} {xs : List Value} (h : w.ownsRow B e 1 (.slice (some ⟨g, 0, none⟩) n cap) n xs) (hj : xs[j]? = some u) : w.cell? ⟨g, j, none⟩ = some u := by
 have := h.cells (g := g) rfl j u hj
 rw [add_head] at this
 exact this
theorem ownsRow_drewN {w : World} {B n size : Nat} {v : Value} {e : TypeId} {xs : List Value} (h : w.ownsRow B e size v n xs) (q : Nat) : (w.drewN q).ownsRow B e size v n xs := h
theorem below_ownI {w1 w2 : World} {B size n : Nat} {e : TypeId} {v : Value} {xs : List Value} (h : w1.ownsRow B e size v n xs) (hb : Below w1.heap.size w1 w2) : w2.ownsRow B e size v n xs := by
 refine ⟨h.1, ?_⟩
 rcases h.2 with h2 | ⟨g, cap, cur, hv, hg, hh, r⟩
 ·exact .inl h2
 ·exact .inr ⟨g, cap, cur, hv, hg, by rw [hb.block g (Array.getElem?_eq_some_iff.1 hh).1]; exact hh, r⟩
end Go.Proofs.YtkobmnbjeppnaaaGreat
end
section
namespace Go.Proofs.YtkobmnbjeppnaaaGreat
open Go.RowKit Go.IntWalk
set_option maxRecDepth 100000
/-- a number put among others that stand in their order, once -/
def insI : List Int → Int → List Int
 | [], x => [x]
 | y :: t, x => if y < x then y :: insI t x else if y = x then y :: t else x :: y :: t
theorem insI_at {x : Int} : ∀ {o : List Int} {j : Nat}, j ≤ o.length → (∀ y ∈ o.take j, y < x) → (j = o.length ∨ ∃ y, o[j]? = some y ∧ ¬ y < x) →
  insI o x = if o[j]? = some x then o else o.take j ++ x :: o.drop j
 | [], j, hj, _, _ => by
  obtain rfl : j = 0 := by simpa using hj
  simp [insI]
 | y :: t, 0, _, _, hs => by
  rcases hs with hs | ⟨z, hz, hzn⟩
  ·simp at hs
  ·simp at hz
   subst hz
   rw [insI, if_neg hzn]
   by_cases he : y = x
   ·subst he; simp
   ·simp [he]
 | y :: t, j + 1, hj, hlo, hs => by
  have hyx : y < x := hlo y (by simp)
  rw [insI, if_pos hyx, insI_at (o := t) (j := j) (by simpa using hj) (fun z hz => hlo z (by simp [hz])) (by
   rcases hs with hs | ⟨z, hz, hzn⟩
   ·left; simpa using hs
   ·exact .inr ⟨z, by simpa using hz, hzn⟩)]
  simp only [List.getElem?_cons_succ, List.take_succ_cons, List.drop_succ_cons]
  split <;> rfl
def reachG (l : List Rw) (o : List Int) (r : Rw) : List Int := if (wayR l (ch r)).isSome then insI o (ch r) else o
def reachR (l : List Rw) : List Int := l.foldl (reachG l) [0]
theorem insI_len (x : Int) : ∀ o : List Int, (insI o x).length ≤ o.length + 1
 | [] => by simp [insI]
 | y :: t => by
  have := insI_len x t
  unfold insI
  split
  ·simp; omega
  ·split <;> simp
theorem reach_step {l : List Rw} {k : Nat} {r : Rw} (h : l[k]? = some r) : (l.take (k + 1)).foldl (reachG l) [0] = reachG l ((l.take k).foldl (reachG l) [0]) r := by
 rw [List.take_add_one, h, List.foldl_append]; rfl
end Go.Proofs.YtkobmnbjeppnaaaGreat
end
section
namespace Go.Proofs.YtkobmnbjeppnaaaGreat
open Go.RowKit Go.IntWalk Go.Maps
set_option maxRecDepth 100000
def In64 (x : Int) : Prop := -9223372036854775808 ≤ x ∧ x ≤ 9223372036854775807
theorem in64_wf {x : Int} (h : In64 x) : (Lit.int .i64 x).wf = true := by
 obtain ⟨h1, h2⟩ := h
 simp [Lit.wf]
 exact ⟨h1, h2⟩
theorem keyed_int : Keyed Tryz.prog 3 := int_keyed Tryz.underlying3
theorem key_int {x : Int} (h : In64 x) : keyOf Tryz.prog 3 (.int .i64 x) = some (.int .i64 x) := keyOf_int_mk Tryz.underlying3 (in64_wf h)
theorem insI_mem {x z : Int} : ∀ {o : List Int}, z ∈ insI o x ↔ z = x ∨ z ∈ o
 | [] => by simp [insI]
 | y :: t => by
  unfold insI
  split
  ·rw [List.mem_cons, insI_mem (o := t), List.mem_cons]
   constructor
   ·rintro (h | h | h) <;> simp [h]
   ·rintro (h | h | h) <;> simp [h]
  ·split
   ·rename_i h; subst h; simp
   ·simp
theorem insI_asc {x : Int} : ∀ {o : List Int}, o.Pairwise (· < ·) → (insI o x).Pairwise (· < ·)
 | [], _ => by simp [insI]
 | y :: t, h => by
  obtain ⟨h1, h2⟩ := List.pairwise_cons.1 h
  unfold insI
  split
  ·rename_i hy
   refine List.pairwise_cons.2 ⟨fun z hz => ?_, insI_asc h2⟩
   rcases insI_mem.1 hz with rfl | hz
   ·exact hy
   ·exact h1 z hz
  ·split
   ·exact h
   ·rename_i h3 h4
    refine List.pairwise_cons.2 ⟨fun z hz => ?_, h⟩
    rcases List.mem_cons.1 hz with rfl | hz
    ·omega
    ·have := h1 z hz; omega
theorem asc_unique {a b : List Int} (ha : a.Pairwise (· < ·)) (hb : b.Pairwise (· < ·)) (h : ∀ x, x ∈ a ↔ x ∈ b) : a = b := by
 have na : a.Nodup := ha.imp fun h e => by omega
 have nb : b.Nodup := hb.imp fun h e => by omega
 exact List.Perm.eq_of_pairwise (le := (· < ·)) (fun x y _ _ h1 h2 => by omega) ha hb ((List.perm_ext_iff_of_nodup na nb).2 h)
/-- numbers put, one behind the other -/
def putsI (o : List Int) (l : List Int) : List Int := l.foldl insI o
theorem putsI_mem {z : Int} : ∀ {l o : List Int}, z ∈ putsI o l ↔ z ∈ o ∨ z ∈ l
 | [], o => by simp [putsI]
 | x :: t, o => by
  rw [show putsI o (x :: t) = putsI (insI o x) t from rfl, putsI_mem, insI_mem, List.mem_cons]
  constructor
  ·rintro ((h | h) | h) <;> simp [h]
  ·rintro (h | h | h) <;> simp [h]
theorem putsI_asc : ∀ {l o : List Int}, o.Pairwise (· < ·) → (putsI o l).Pairwise (· < ·)
 | [], _, h => h
 | _ :: t, _, h => putsI_asc (l := t) (insI_asc h)
end Go.Proofs.YtkobmnbjeppnaaaGreat
end
section
namespace Go.Proofs.YtkobmnbjeppnaaaGreat
open Go.RowKit Go.IntWalk Go.Maps
open Gr
set_option maxRecDepth 100000
def endN (l : List Rw) : Nat → Int → Int × Bool
 | 0, _ => (0, false)
 | n + 1, c => if parB l c then endN l n (parV l c) else (c, true)
def endE (l : List Rw) (c : Int) : Int × Bool := endN l (l.length + 1) c
theorem upF_par (l : List Rw) (c : Int) : upF l c = if parB l c then some (parV l c) else none := by
 unfold upF parB parV
 cases fnd l c <;> rfl
theorem endN_iff (l : List Rw) (x : Int) : ∀ (n : Nat) (c : Int), endN l n c = (x, true) ↔ ∃ m, m < n ∧ it (upF l) m c = some x ∧ upF l x = none
 | 0, c => by simp [endN]
 | n + 1, c => by
  unfold endN
  by_cases hp : parB l c = true
  ·rw [if_pos hp, endN_iff l x n]
   constructor
   ·rintro ⟨m, hm, h1, h2⟩
    exact ⟨m + 1, by omega, by rw [it, upF_par, if_pos hp]; exact h1, h2⟩
   ·rintro ⟨m, hm, h1, h2⟩
    cases m with
    | zero =>
     simp only [it, Option.some.injEq] at h1
     subst h1
     rw [upF_par, if_pos hp] at h2; cases h2
    | succ m =>
     rw [it, upF_par, if_pos hp] at h1
     exact ⟨m, by omega, h1, h2⟩
  ·rw [if_neg hp]
   constructor
   ·intro h
    injection h with h _
    subst h
    exact ⟨0, by omega, rfl, by rw [upF_par, if_neg hp]⟩
   ·rintro ⟨m, hm, h1, h2⟩
    cases m with
    | zero => simp only [it, Option.some.injEq] at h1; rw [h1]
    | succ m => rw [it, upF_par, if_neg hp] at h1; cases h1
theorem endN_no (l : List Rw) : ∀ (n : Nat) (c : Int), (endN l n c).2 = false → endN l n c = (0, false)
 | 0, _, _ => rfl
 | n + 1, c, h => by
  unfold endN at h ⊢
  by_cases hp : parB l c = true
  ·rw [if_pos hp] at h ⊢; exact endN_no l n _ h
  ·rw [if_neg hp] at h; cases h
theorem endE_iff (l : List Rw) (c x : Int) : endE l c = (x, true) ↔ ∃ m, it (upF l) m c = some x ∧ upF l x = none := by
 unfold endE
 rw [endN_iff]
 constructor
 ·rintro ⟨m, _, h⟩; exact ⟨m, h⟩
 ·rintro ⟨m, h1, h2⟩
  cases m with
  | zero => exact ⟨0, by omega, h1, h2⟩
  | succ m =>
   obtain ⟨k, hk, hk2⟩ := it_short (upF_dom l) h1
   rw [List.length_map] at hk
   exact ⟨k + 1, by omega, hk2, h2⟩
theorem endE_no {l : List Rw} {c : Int} (h : ∀ x, endE l c ≠ (x, true)) : endE l c = (0, false) := by
 refine endN_no l _ c ?_
 cases hb : (endN l (l.length + 1) c).2 with
 | false => rfl
 | true => exact absurd (show endE l c = ((endE l c).1, true) from Prod.ext rfl hb) (h _)
theorem endE_eq {l : List Rw} {c d : Int} (h : ∀ x, endE l c = (x, true) ↔ endE l d = (x, true)) : endE l c = endE l d := by
 by_cases hx : ∃ x, endE l c = (x, true)
 ·obtain ⟨x, hx⟩ := hx
  rw [hx, (h x).1 hx]
 ·rw [endE_no (fun x h' => hx ⟨x, h'⟩), endE_no (fun x h' => hx ⟨x, (h x).2 h'⟩)]
theorem endE_it {l : List Rw} {i : Nat} {c y : Int} (h : it (upF l) i c = some y) : endE l c = endE l y := by
 refine endE_eq fun x => ?_
 rw [endE_iff, endE_iff]
 constructor
 ·rintro ⟨m, h1, h2⟩
  by_cases hm : i ≤ m
  ·obtain ⟨z, h3, h4⟩ := it_less h1 hm
   rw [h] at h3
   cases h3
   exact ⟨_, h4, h2⟩
  ·obtain ⟨z, h3, h4⟩ := it_less h (show m ≤ i by omega)
   rw [h1] at h3
   cases h3
   rw [show i - m = (i - m - 1) + 1 by omega, it, h2] at h4
   cases h4
 ·rintro ⟨m, h1, h2⟩
  exact ⟨_, it_add' h h1, h2⟩
theorem endE_last {l : List Rw} {c : Int} (h : parB l c = false) : endE l c = (c, true) := (endE_iff l c c).2 ⟨0, rfl, by rw [upF_par, h]; rfl⟩
theorem it_loop {f : Int → Option Int} {p : Nat} {c : Int} (h : it f p c = some c) : ∀ k, it f (k * p) c = some c
 | 0 => by rw [Nat.zero_mul]; rfl
 | k + 1 => by rw [Nat.succ_mul]; exact it_add' (it_loop h k) h
theorem endE_cycle {l : List Rw} {c : Int} (h : Ab (upF l) c c) : endE l c = (0, false) := by
 obtain ⟨p, hp⟩ := h
 refine endE_no fun x hx => ?_
 obtain ⟨m, h1, h2⟩ := (endE_iff l c x).1 hx
 have h3 := it_loop hp (m + 1)
 have hle : m + 1 ≤ (m + 1) * (p + 1) := Nat.le_mul_of_pos_right _ (by omega)
 obtain ⟨z, h4, h5⟩ := it_less h3 (show m ≤ (m + 1) * (p + 1) by omega)
 rw [h1] at h4
 cases h4
 rw [show (m + 1) * (p + 1) - m = ((m + 1) * (p + 1) - m - 1) + 1 by omega, it, h2] at h5
 cases h5
theorem chn_at {l : List Rw} : ∀ {n i : Nat} {c y : Int} {b : Bool}, (chn l n c)[i]? = some (y, b) → it (upF l) i c = some y ∧ b = !parB l y
 | 0, i, c, y, b, h => by simp [chn] at h
 | n + 1, 0, c, y, b, h => by
  rw [chn] at h
  rw [List.getElem?_cons_zero] at h
  injection h with h
  injection h with h1 h2
  subst h1
  exact ⟨rfl, h2.symm⟩
 | n + 1, i + 1, c, y, b, h => by
  rw [chn, List.getElem?_cons_succ] at h
  by_cases hp : parB l c = true
  ·rw [if_pos hp] at h
   obtain ⟨h1, h2⟩ := chn_at h
   exact ⟨by rw [it, upF_par, if_pos hp]; exact h1, h2⟩
  ·rw [if_neg hp] at h; simp at h
/-- a way all of whose nodes have rows is as long as may be -/
theorem chn_full {l : List Rw} : ∀ {n : Nat} {c : Int}, (∀ x ∈ chn l n c, x.2 = false) → (chn l n c).length = n
 | 0, _, _ => rfl
 | n + 1, c, h => by
  unfold chn at h ⊢
  have h0 := h _ (List.mem_cons_self ..)
  simp at h0
  rw [if_pos h0] at h ⊢
  rw [List.length_cons, chn_full (n := n) (fun x hx => h x (List.mem_cons_of_mem _ hx))]
/-- where the way ends, as its last node tells -/
def toOf (p : List (Int × Bool)) : Int × Bool := match p.getLast? with
 | some (y, true) => (y, true)
 | _ => (0, false)
theorem toOf_snoc (p : List (Int × Bool)) (y : Int) (b : Bool) : toOf (p ++ [(y, b)]) = if b then (y, true) else (0, false) := by
 unfold toOf
 rw [List.getLast?_append]
 cases b <;> rfl
theorem chn_const {l : List Rw} {n : Nat} {c : Int} {x : Int × Bool} (h : x ∈ chn l n c) : endE l x.1 = endE l c := by
 obtain ⟨i, hi⟩ := List.mem_iff_getElem?.1 h
 exact (endE_it (chn_at (y := x.1) (b := x.2) hi).1).symm
theorem chn_again {l : List Rw} {n : Nat} {c : Int} {pre : List (Int × Bool)} {x : Int × Bool} (h : pre ++ [x] <+: chn l n c) (hx : x.1 ∈ pre.map (·.1)) : endE l x.1 = (0, false) := by
 obtain ⟨y, hy, hyx⟩ := List.mem_map.1 hx
 obtain ⟨i, hi⟩ := List.mem_iff_getElem?.1 hy
 have hil : i < pre.length := (List.getElem?_eq_some_iff.1 hi).1
 obtain ⟨t, ht⟩ := h
 have h1 : (chn l n c)[i]? = some (y.1, y.2) := by rw [← ht, List.append_assoc, List.getElem?_append_left hil]; exact hi
 have h2 : (chn l n c)[pre.length]? = some (x.1, x.2) := by rw [← ht, List.append_assoc, List.getElem?_append_right (Nat.le_refl _), Nat.sub_self]; rfl
 have g1 := (chn_at h1).1
 have g2 := (chn_at h2).1
 rw [hyx] at g1
 obtain ⟨z, h3, h4⟩ := it_less g2 (Nat.le_of_lt hil)
 rw [g1] at h3
 cases h3
 exact endE_cycle ⟨pre.length - i - 1, by rw [show pre.length - i - 1 + 1 = pre.length - i by omega]; exact h4⟩
theorem chn_done {l : List Rw} {c : Int} (hn : ((chn l (l.length + 1) c).map (·.1)).Nodup) : toOf (chn l (l.length + 1) c) = endE l c := by
 obtain ⟨p, y, b, hp⟩ : ∃ p y b, chn l (l.length + 1) c = p ++ [(y, b)] := by
  rcases List.eq_nil_or_concat (chn l (l.length + 1) c) with h | ⟨p, ⟨y, b⟩, h⟩
  ·rw [chn] at h; cases h
  ·exact ⟨p, y, b, by simpa using h⟩
 have hy : (y, b) ∈ chn l (l.length + 1) c := by rw [hp]; simp
 rw [hp, toOf_snoc]
 obtain ⟨i, hi⟩ := List.mem_iff_getElem?.1 hy
 have hb := (chn_at hi).2
 cases b with
 | true =>
  rw [if_pos rfl, ← chn_const hy]
  exact (endE_last (by simpa using hb.symm)).symm
 | false =>
  exfalso
  -- every node has a row: too many of them
  have hall : ∀ x ∈ chn l (l.length + 1) c, x.2 = false := by
   intro x hx
   rw [hp] at hx
   rcases List.mem_append.1 hx with hx | hx
   ·obtain ⟨j, hj⟩ := List.mem_iff_getElem?.1 hx
    have hjl : j < p.length := (List.getElem?_eq_some_iff.1 hj).1
    have h1 : (chn l (l.length + 1) c)[j]? = some (x.1, x.2) := by rw [hp, List.getElem?_append_left hjl]; exact hj
    have h2 : (chn l (l.length + 1) c)[p.length]? = some (y, false) := by rw [hp, List.getElem?_append_right (Nat.le_refl _), Nat.sub_self]; rfl
    obtain ⟨g1, g2⟩ := chn_at h1
    have g3 := (chn_at h2).1
    obtain ⟨z, h3, h4⟩ := it_less g3 (Nat.le_of_lt hjl)
    rw [g1] at h3
    cases h3
    rw [g2]
    cases hq : parB l x.1 with
    | true => rfl
    | false =>
     rw [show p.length - j = (p.length - j - 1) + 1 by omega, it, upF_par, hq] at h4
     cases h4
   ·rw [List.mem_singleton.1 hx]
  have hlen := chn_full hall
  have := nodup_len hn (b := l.map ch) (fun x hx => by
   obtain ⟨z, hz, rfl⟩ := List.mem_map.1 hx
   obtain ⟨j, hj⟩ := List.mem_iff_getElem?.1 hz
   have g := (chn_at (y := z.1) (b := z.2) hj).2
   rw [hall z hz] at g
   have hpz : parB l z.1 = true := by cases h : parB l z.1 with
    | true => rfl
    | false => rw [h] at g; cases g
   unfold parB at hpz
   obtain ⟨r, hr⟩ := Option.isSome_iff_exists.1 hpz
   unfold fnd at hr
   exact List.mem_map.2 ⟨r, List.mem_of_find?_eq_some hr, by have := List.find?_some hr; simpa using this⟩)
  rw [List.length_map, List.length_map, hlen] at this
  omega
end Go.Proofs.YtkobmnbjeppnaaaGreat
end
section
namespace Go.Proofs.YtkobmnbjeppnaaaGreat
open Go.RowKit Go.IntWalk Go.Maps
set_option maxRecDepth 100000
def ev (e : Int × Bool) : Value := .agg #[.int .i64 e.1, .bool e.2]
noncomputable def eD (e : Int × Bool) : DataW Unit := .agg [.lit (.int .i64 e.1), .lit (.bool e.2)]
noncomputable def RE : Value → Option (DataW Unit × List MemPlace) := fun v => match v with
 | .agg ⟨[.int .i64 n, .bool b]⟩ => some (eD (n, b), [])
 | _ => none
theorem re_mk (e : Int × Bool) : RE (ev e) = some (eD e, []) := rfl
theorem re_inv {v : Value} {e : Int × Bool} {ps : List MemPlace} (h : RE v = some (eD e, ps)) : v = ev e := by
 unfold RE at h
 split at h
 ·rename_i n b
  injection h with h
  injection h with h _
  unfold eD at h
  injection h with h
  injection h with h1 h2
  injection h2 with h2 _
  injection h1 with h1
  injection h2 with h2
  injection h1 with _ h1
  injection h2 with h2
  show ev (n, b) = ev e
  rw [show (n, b) = e from Prod.ext h1 h2]
 ·cases h
/-- the map tells what K tells -/
def Eok (D : DataW Unit) (K : Int → Option (Int × Bool)) : Prop := (∀ x, Maps.has D (.int .i64 x) = (K x).isSome) ∧ ∀ x v, K x = some v → D.atKey (.int .i64 x) (eD (0, false)) = eD v
def updK (K : Int → Option (Int × Bool)) (x : Int) (v : Int × Bool) : Int → Option (Int × Bool) := fun y => if y = x then some v else K y
theorem updK_on (K : Int → Option (Int × Bool)) (x : Int) (v : Int × Bool) : updK K x v x = some v := if_pos rfl
theorem updK_off (K : Int → Option (Int × Bool)) {x y : Int} (v : Int × Bool) (h : y ≠ x) : updK K x v y = K y := if_neg h
theorem eok_nil : Eok (.map []) (fun _ => none) := ⟨fun x => by simp [Maps.has], fun x v h => by cases h⟩
theorem eok_put {D : DataW Unit} {K : Int → Option (Int × Bool)} {x : Int} {v : Int × Bool} (hm : IsMap D) (h : Eok D K) : Eok (D.put (.int .i64 x) (eD v)) (updK K x v) := by
 refine ⟨fun y => ?_, fun y u hu => ?_⟩
 ·by_cases e : y = x
  ·subst e; rw [has_put_same hm (show WideAt.IsKeyLit (Lit.int .i64 y) from trivial), updK_on]; rfl
  ·rw [has_put_other (by simpa using e), h.1, updK_off _ _ e]
 ·by_cases e : y = x
  ·subst e
   rw [updK_on] at hu
   cases hu
   exact atKey_put_same hm (show WideAt.IsKeyLit (Lit.int .i64 y) from trivial) _ _
  ·rw [updK_off _ _ e] at hu
   rw [atKey_put_other (by simpa using e)]
   exact h.2 y u hu
theorem zero_end (w : World) : (zeroValue 56).run Tryz.prog w = .ok (ev (0, false)) w := by kernel_rfl
theorem look_e {w : World} {b n : Nat} {D : DataW Unit} {K : Int → Option (Int × Bool)} {x : Int} (hown : w.ownsMap Tryz.prog 3 RE b n D) (hK : Eok D K) (hx : In64 x) :
  (Instr.lookup 52 (.map (some b)) (.int .i64 x) true).run Tryz.prog w = .ok (.tuple #[ev ((K x).getD (0, false)), .bool (K x).isSome]) w := by
 obtain ⟨v, ps, hrun, hv⟩ := hown.look_ok keyed_int Tryz.underlying52 (zero_end w) (re_mk (0, false)) (key_int hx)
 rw [hrun, hK.1 x]
 cases hk : K x with
 | none =>
  have hn : D.atKey (.int .i64 x) (eD (0, false)) = eD (0, false) := by
   have := hK.1 x
   rw [hk] at this
   exact Maps.atKey_of_not_has this _
  rw [hn] at hv
  rw [re_inv hv]; rfl
 | some u =>
  rw [hK.2 x u hk] at hv
  rw [re_inv hv]; rfl
theorem look_e1 {w : World} {b n : Nat} {D : DataW Unit} {K : Int → Option (Int × Bool)} {x : Int} (hown : w.ownsMap Tryz.prog 3 RE b n D) (hK : Eok D K) (hx : In64 x) {v : Int × Bool} (hv : K x = some v) :
  (Instr.lookup 52 (.map (some b)) (.int .i64 x) false).run Tryz.prog w = .ok (ev v) w := by
 obtain ⟨u, ps, hrun, hu⟩ := hown.lookup keyed_int Tryz.underlying52 (zero_end w) (re_mk (0, false)) (key_int hx)
 rw [hK.2 x v hv] at hu
 rw [hrun, re_inv hu]
theorem put_e {w : World} {b n : Nat} {D : DataW Unit} {K : Int → Option (Int × Bool)} {x : Int} {v : Int × Bool} (hown : w.ownsMap Tryz.prog 3 RE b n D) (hK : Eok D K) (hn : n < 100000000) (hx : In64 x) :
  ∃ w' D', (Instr.mapUpdate 52 (.map (some b)) (.int .i64 x) (ev v)).run Tryz.prog w = .ok () w' ∧ w'.ownsMap Tryz.prog 3 RE b (n + 1) D' ∧ Eok D' (updK K x v) ∧ w.grownBy w' (some b) := by
 obtain ⟨w', hrun, hown', hg⟩ := hown.update keyed_int Tryz.underlying52 (by unfold maxLen; omega) (key_int hx) (re_mk v)
 exact ⟨w', _, hrun, hown', eok_put hown.isMap hK, hg⟩
end Go.Proofs.YtkobmnbjeppnaaaGreat
end
