/-
 Moves by their times, plain: inserted, since a time, united; the order does not matter.
 slices.Grow, slices.Concat and append at moves.
 Rows and moves that came in: their cells.
-/
import Derived.Test.YtojhenpaeedimaaUb
import Derived.Test.YtojhenpaeedimaaCue
import Derived.Test.YtojhenpaeedimaaBb
import Derived.ProofKit
import Derived.Lib.SmallJoins
import Derived.Deep.SlicePairs
section
namespace Go.Proofs.Ytojhenpaeedimaa
open Go.RowKit
open Fl
set_option maxRecDepth 100000
def timeEq (a b : Mv) : Bool := decide (mc a = mc b) && decide (mr a = mr b)
def bm (a b : Mv) : Bool := befT (mc a) (mr a) (mc b) (mr b)
def alikeM (a b : Mv) : Bool := timeEq a b && alikeP (mw a) (mw b)
def MLt (a b : Mv) : Prop := mc a < mc b ∨ (mc a = mc b ∧ mr a < mr b)
theorem timeEq_iff {a b : Mv} : timeEq a b = true ↔ mc a = mc b ∧ mr a = mr b := by simp [timeEq]
theorem bm_iff {a b : Mv} : bm a b = true ↔ MLt a b := by simp [bm, befT, MLt]
theorem MLt.trans {a b c : Mv} (h : MLt a b) (h2 : MLt b c) : MLt a c := by unfold MLt at *; omega
theorem alikeP_refl (r : Rw) : alikeP r r = true := by simp [alikeP]
theorem alikeM_refl (m : Mv) : alikeM m m = true := by
 unfold alikeM; rw [alikeP_refl, Bool.and_true, timeEq_iff]; exact ⟨rfl, rfl⟩
/-- moves, one behind the other, of which no two are of one time, by their times -/
abbrev Asc (l : List Mv) : Prop := l.Pairwise MLt
def sameM : List Mv → List Mv → Bool
 | [], [] => true
 | a :: l, b :: m => alikeM a b && sameM l m
 | _, _ => false
theorem sameM_refl : ∀ l : List Mv, sameM l l = true
 | [] => rfl
 | a :: l => by rw [sameM, alikeM_refl, sameM_refl l]; rfl
theorem sameM_len : ∀ {l m : List Mv}, l.length ≠ m.length → sameM l m = false
 | [], [], h => by simp at h
 | [], _ :: _, _ => rfl
 | _ :: _, [], _ => rfl
 | a :: l, b :: m, h => by rw [sameM, sameM_len (l := l) (m := m) (by simpa using h), Bool.and_false]
theorem sameM_step {l m : List Mv} {k : Nat} {a b : Mv} (ha : l[k]? = some a) (hb : m[k]? = some b) : sameM (l.drop k) (m.drop k) = (alikeM a b && sameM (l.drop (k + 1)) (m.drop (k + 1))) := by
 have h1 := (List.getElem?_eq_some_iff.1 ha).1
 have h2 := (List.getElem?_eq_some_iff.1 ha).2
 have h3 := (List.getElem?_eq_some_iff.1 hb).1
 have h4 := (List.getElem?_eq_some_iff.1 hb).2
 rw [List.drop_eq_getElem_cons h1, List.drop_eq_getElem_cons h3, h2, h4, sameM]
def oneM (m : Mv) : Bool := decide (1 ≤ mc m) && (decide (mc m ≤ 4611686018427387903) && (decide (1 ≤ mr m) && (decide (mr m ≤ 255) && oneP (mw m))))
/-- whether all may be, and rise, behind the one ahead of them -/
def resM : Option Mv → List Mv → Bool
 | _, [] => true
 | p, x :: t => oneM x && ((match p with | none => true | some q => bm q x) && resM (some x) t)
def mayL (l : List Mv) : Bool := resM none l
def mayM (l : List Mv) : Bool := decide (l.length ≤ 2000) && mayL l
theorem resM_iff : ∀ {t : List Mv} {q : Mv}, resM (some q) t = true ↔ (∀ m ∈ t, oneM m = true) ∧ Asc (q :: t)
 | [], q => by simp [resM]
 | x :: t, q => by
  have ih := resM_iff (t := t) (q := x)
  unfold resM
  simp only [Bool.and_eq_true]
  rw [ih, bm_iff]
  constructor
  ·rintro ⟨h1, h2, h3, h4⟩
   refine ⟨fun m hm => ?_, List.pairwise_cons.2 ⟨fun y hy => ?_, h4⟩⟩
   ·rcases List.mem_cons.1 hm with rfl | hm
    ·exact h1
    ·exact h3 m hm
   ·rcases List.mem_cons.1 hy with rfl | hy
    ·exact h2
    ·exact h2.trans ((List.pairwise_cons.1 h4).1 y hy)
  ·rintro ⟨h1, h2⟩
   obtain ⟨h3, h4⟩ := List.pairwise_cons.1 h2
   exact ⟨h1 x List.mem_cons_self, h3 x List.mem_cons_self, fun m hm => h1 m (List.mem_cons_of_mem _ hm), h4⟩
/-- the one ahead of a place -/
def prvM (l : List Mv) : Nat → Option Mv
 | 0 => none
 | k + 1 => l[k]?
theorem resM_step {l : List Mv} {k : Nat} {x : Mv} (h : l[k]? = some x) : resM (prvM l k) (l.drop k) = (oneM x && ((match prvM l k with | none => true | some q => bm q x) && resM (prvM l (k + 1)) (l.drop (k + 1)))) := by
 have h1 := (List.getElem?_eq_some_iff.1 h).1
 have h2 := (List.getElem?_eq_some_iff.1 h).2
 show _ = (oneM x && (_ && resM l[k]? (l.drop (k + 1))))
 rw [List.drop_eq_getElem_cons h1, h2, h]
 rfl
theorem mayM_long {l : List Mv} (h : 2000 < l.length) : mayM l = false := by
 unfold mayM; rw [decide_eq_false (by omega), Bool.false_and]
theorem mayM_short {l : List Mv} (h : l.length ≤ 2000) : mayM l = resM (prvM l 0) (l.drop 0) := by
 unfold mayM; rw [decide_eq_true h, Bool.true_and]; rfl
end Go.Proofs.Ytojhenpaeedimaa
end
section
namespace Go.Proofs.Ytojhenpaeedimaa
open Go.RowKit Go.IntWalk
set_option maxRecDepth 100000
attribute [local go_sem] Oper.semAt_some
/-- append of rows that came in, or of none -/
theorem append_optM (w : World) {ops : Array Oper} {rest : List Oper} {o : Oper} {a : Act} {Q : Exit → Act → World → Prop}
  (hg : o.guard = none) (s x : Operand) (hop : o.op = Op.call { callee := Callee.builtin Builtin.append, args := #[s, x], argTypes := #[22, 22] })
  (base : Nat) (v : Value) (k : Nat) (us : List Mv) (hs : a.eval s = v) (hown : w.ownsRow base 30 6 v k (mvs us)) (A : Option Addr) (c : Nat) (vs : List Mv) (hx : a.eval x = .slice A vs.length c) (hn : A = none → c = 0) (hvl : vs.length ≤ c)
  (B : Nat) (hc : At w B A (mvs vs)) (hlen : k + vs.length ≤ 200000) (b3 : base ≤ w.heap.size)
  (hK : ∀ v' w', w'.ownsRow base 30 6 v' (k + vs.length) (mvs (us ++ vs)) → w.grownBy w' v.ownBlock → wpList Try.prog ops Q rest (a.put o.dst v') w') :
  wpList Try.prog ops Q (o :: rest) a w := by
 obtain ⟨i0, hi, hz0, hz1, hz2⟩ := info_parts Try.info30
 rcases A with _ | ⟨b, off, spot⟩
 ·obtain rfl : c = 0 := hn rfl
  obtain rfl : vs = [] := List.eq_nil_of_length_eq_zero (by omega)
  exact wpList_append_own_none hg s x _ hop base _ i0 6 Try.underlying22 hi v k (mvs us) hs hown hx (hK v w (by simpa using hown) (World.grownBy.refl w _))
 ·by_cases hv : vs = []
  ·subst hv
   refine wpList_append_own w hg s x _ hop base _ i0 _ 6 56 Try.underlying22 hi hz0 hz1 hz2 rfl (by decide) v k (mvs us) hs hown ⟨b, off, spot⟩ 0 c [] hx rfl (fun j u hu => by simp at hu) (fun u hu => by simp at hu) (by unfold maxLen; simp at hlen; omega) (by simp at hlen; omega) b3 ?_
   intro v' w' h1 h2 _
   exact hK v' w' (by simpa using h1) h2
  ·obtain ⟨y, ys, rfl⟩ : ∃ y ys, vs = y :: ys := by cases vs with | nil => exact absurd rfl hv | cons y ys => exact ⟨y, ys, rfl⟩
   obtain ⟨b', off', e, _, _⟩ := hc 0 _ rfl
   cases e
   refine wpList_append_own w hg s x _ hop base _ i0 _ 6 56 Try.underlying22 hi hz0 hz1 hz2 rfl (by decide) v k (mvs us) hs hown ⟨b, off, none⟩ (y :: ys).length c (mvs (y :: ys)) hx (mvs_len _) (at_news hc) (mvs_one _) (by unfold maxLen; omega) (by omega) b3 ?_
   intro v' w' h1 h2 _
   exact hK v' w' (by rw [mvs_append]; exact h1) h2
theorem at_takeM {w : World} {B b o : Nat} {l : List Mv} (h : At w B (some ⟨b, o, none⟩) (mvs l)) (j : Nat) : At w B (some ⟨b, o, none⟩) (mvs (l.take j)) := by rw [mvs_take]; exact h.take _
end Go.Proofs.Ytojhenpaeedimaa
end
section
namespace Go.Proofs.Ytojhenpaeedimaa
open Go.ChangeShapes Go.WideShapes Go.RowKit Go.Joins
open Pk
set_option maxRecDepth 100000
theorem cells_i64 : Try.prog.cellsOf 3 = 1 := by kernel_rfl
theorem cells_str : Try.prog.cellsOf 9 = 1 := by kernel_rfl
theorem cells_f64 : Try.prog.cellsOf 28 = 1 := by kernel_rfl
theorem cells_move : Try.prog.cellsOf 30 = 6 := by kernel_rfl
theorem cells_time : Try.prog.cellsOf 27 = 2 := by kernel_rfl
section
variable {H : Type} {enc : TypeId × Value → H} {w : World} {r : Reach} {b0 : Nat} {v : Value} {d : DataW H} {ps : List MemPlace}
theorem trod_flt {P : Program} {base : Nat} {spare : Nat → Bool} {held : Bool} {fuel : Nat} {t : TypeId} {cs : List Value} {x : DataW H × List MemPlace} (ht : P.underlying t = some (.float .f64)) (h : DataW.trod enc P w base spare held fuel t cs = some x) :
  ∃ b, cs = [.float .f64 b] ∧ b < 18446744073709551616 := by
 cases fuel with
 | zero => simp [DataW.trod] at h
 | succ n =>
  unfold DataW.trod at h
  rw [ht] at h
  split at h
  case h_3 k k' b heq =>
   injection heq with heq
   injection heq with heq
   subst heq
   split at h
   ·rename_i hc
    obtain ⟨rfl, hw⟩ := hc
    exact ⟨b, rfl, by simpa [Lit.wf] using hw⟩
   ·cases h
  all_goals simp_all
theorem move_trod {base n : Nat} {spare : Nat → Bool} {held : Bool} {cs : List Value} {x : DataW H × List MemPlace} (h : DataW.trod enc Try.prog w base spare held n 30 cs = some x) :
  ∃ q : Mv, cs = mcs q ∧ rk (mw q) < 18446744073709551616 ∧ (nm (mw q)).length ≤ maxLen := by
 obtain ⟨xs, k, _, _, hlen, hxl, hf⟩ := DataW.trod_struct Try.underlying30 h
 rw [cells_move] at hlen
 match cs, hlen with
 | [v0, v1, v2, v3, v4, v5], _ =>
  match xs, hxl with
  | [y0, y1, y2, y3, y4], _ =>
   have g0 := hf 0 _ rfl
   have g1 := hf 1 _ rfl
   have g2 := hf 2 _ rfl
   have g3 := hf 3 _ rfl
   have g4 := hf 4 _ rfl
   simp [cells_i64, cells_str, cells_f64, cells_time] at g0 g1 g2 g3 g4
   obtain ⟨zs, k', _, _, _, hzl, hg⟩ := DataW.trod_struct Try.underlying27 g0
   match zs, hzl with
   | [z0, z1], _ =>
    have f0 := hg 0 _ rfl
    have f1 := hg 1 _ rfl
    simp [cells_i64] at f0 f1
    obtain ⟨b0, d0, -, -⟩ := DataW.trod_int Try.underlying3 f0
    obtain ⟨b1, d1, -, -⟩ := DataW.trod_int Try.underlying3 f1
    obtain ⟨a0, e0, -, -⟩ := DataW.trod_int Try.underlying3 g1
    obtain ⟨a1, e1, -, -⟩ := DataW.trod_int Try.underlying3 g2
    obtain ⟨a2, e2, -, h2⟩ := DataW.trod_string Try.underlying9 g3
    obtain ⟨a3, e3, h3⟩ := trod_flt Try.underlying28 g4
    cases d0; cases d1; cases e0; cases e1; cases e2; cases e3
    refine ⟨(b0, b1, a1, a0, a2.data.toList, a3), by show _ = [_, _, _, _, Value.string (ba a2.data.toList), _]; rw [ba_of], h3, ?_⟩
    have := ba_size a2.data.toList
    rw [ba_of] at this
    show a2.data.toList.length ≤ _
    omega
theorem at_cells {w : World} {a : Addr} {k i base : Nat} {cs cs0 : List Value} (h : w.cells? base (a.add (i * k)) k = some cs) (h0 : w.cells? base (a.add (0 * k)) k = some cs0) (hk : 0 < k) : ∃ b off, a = ⟨b, off, none⟩ ∧ b < w.heap.size ∧ ∀ j v, cs[j]? = some v → w.cell? ⟨b, off + i * k + j, none⟩ = some v := by
 obtain ⟨_, hlen, hcell⟩ := World.cells?_some h
 obtain ⟨_, hlen0, hcell0⟩ := World.cells?_some h0
 obtain ⟨b, off, spot⟩ := a
 obtain ⟨v0, hv0⟩ : ∃ v, w.cell? (((⟨b, off, spot⟩ : Addr).add (0 * k)).add 0) = some v := by
  rw [hcell0 0 hk]; exact ⟨_, List.getElem?_eq_getElem (by rw [hlen0]; exact hk)⟩
 rw [Nat.zero_mul] at hv0
 have hspot : spot = none := by simpa [Addr.add] using World.cell?_spot hv0
 subst hspot
 rw [Go.WideShapes.add_plain, Go.WideShapes.add_plain] at hv0
 refine ⟨b, off, rfl, World.block_lt_of_cell? _ _ hv0, fun j v hj => ?_⟩
 have hjk : j < k := by rw [← hlen]; exact (List.getElem?_eq_some_iff.1 hj).1
 have := hcell j hjk
 rw [hj, Go.WideShapes.add_plain, Go.WideShapes.add_plain] at this
 exact this
theorem moves_in (hval : Value.okWide Try.prog w r b0 22 v) (hj : DataW.Trod enc Try.prog w 0 (fun _ => true) true 22 v d ps) :
  ∃ (A : Option Addr) (cap : Nat) (l : List Mv), v = .slice A l.length cap ∧ (A = none → cap = 0) ∧ l.length ≤ cap ∧ l.length ≤ maxLen ∧ At w w.heap.size A (mvs l) ∧ Moves_ l := by
 obtain ⟨a0, len, cap, rfl⟩ := okWide_slice Try.underlying22 hval
 obtain ⟨fuel, hf⟩ := hj
 rcases Go.Deep.open_slice Try.underlying22 hf with ⟨hcs, _⟩ | ⟨a, len', cap', m, n, D, Pl, hcs, hb, hl, hm, hmm, _, hx⟩
 ·simp only [Value.cells, List.cons.injEq, and_true] at hcs
  injection hcs with h1 h2 h3
  subst h1 h2 h3
  exact ⟨none, 0, [], rfl, fun _ => rfl, Nat.le_refl _, Nat.zero_le _, At.nil _ _ _, fun x hx => by cases hx⟩
 ·simp only [Value.cells, List.cons.injEq, and_true] at hcs
  injection hcs with h1 h2 h3
  subst h1 h2 h3
  simp only [if_true] at hmm
  subst hmm
  obtain ⟨Q, hQ⟩ := Go.Deep.choose_lt (α := Mv) (p := fun i q => w.cells? 0 (a.add (i * 6)) 6 = some (mcs q) ∧ rk (mw q) < 18446744073709551616 ∧ (nm (mw q)).length ≤ maxLen) (fun i hi => by
   obtain ⟨cs', h1, h2⟩ := hx i hi
   rw [cells_move] at h1
   obtain ⟨q, rfl, h3, h4⟩ := move_trod h2
   exact ⟨q, h1, h3, h4⟩)
  refine ⟨some a, m, (List.range len).map Q, by simp, (fun h => by cases h), by simp; exact hl, by simp; omega, fun i v hv => ?_, fun x hx => ?_⟩
  ·have hlt := (List.getElem?_eq_some_iff.1 hv).1
   rw [mvs_len, List.length_map, List.length_range] at hlt
   obtain ⟨k, hk⟩ : ∃ k, k = i / 6 := ⟨_, rfl⟩
   have hkl : k < len := by omega
   have hq : ((List.range len).map Q)[k]? = some (Q k) := by rw [List.getElem?_map, List.getElem?_range hkl]; rfl
   obtain ⟨b, off, ha, hbl, hc⟩ := at_cells (hQ k (by omega)).1 (hQ 0 (by omega)).1 (by omega)
   refine ⟨b, off, by rw [ha], hbl, ?_⟩
   have hik : i = k * 6 + (i - k * 6) := by omega
   have hd : (mvs ((List.range len).map Q))[i]? = (mcs (Q k))[i - k * 6]? := by
    have hdr : mvs (((List.range len).map Q).drop k) = mcs (Q k) ++ mvs (((List.range len).map Q).drop (k + 1)) := by
     have h1 := (List.getElem?_eq_some_iff.1 hq).1
     have h2 := (List.getElem?_eq_some_iff.1 hq).2
     rw [List.drop_eq_getElem_cons h1, h2]; rfl
    rw [mvs_drop] at hdr
    have : (mvs ((List.range len).map Q))[k * 6 + (i - k * 6)]? = (mcs (Q k) ++ mvs (((List.range len).map Q).drop (k + 1)))[i - k * 6]? := by rw [← hdr, List.getElem?_drop]
    rw [← hik] at this
    rw [this, List.getElem?_append_left (by show i - k * 6 < 6; omega)]
   rw [hd] at hv
   have := hc _ _ hv
   rw [show off + k * 6 + (i - k * 6) = off + i by omega] at this
   exact this
  ·obtain ⟨i, hi, rfl⟩ := List.mem_map.1 hx
   exact (hQ i (by have := List.mem_range.1 hi; omega)).2
end
end Go.Proofs.Ytojhenpaeedimaa
end
