/-
 Rows sorted by their children, those of one child as they were, plain.
 How a function with a range over a function ends.
 Rows in order; Above: the program's.
 Moves as cells; the place of the first move that fits (slices.IndexFunc).
 slices.Grow, slices.Concat and append at moves.
 A move's row, whether it may be, and its place by its time: the program's, and the document's.
 Whether a move is barred, what it does, and what moves do, one behind the other: the program's, and the document's.
-/
import Derived.Test.YtkobmnbjeppnaaaGreatTu
import Derived.Test.YtkobmnbjeppnaaaGreatGb
import Derived.Test.YtkobmnbjeppnaaaGreatPa
import Derived.Test.YtkobmnbjeppnaaaGreatTf
import Derived.Test.YtkobmnbjeppnaaaGreatTh
import Derived.Laws.StructEq
section
namespace Go.Proofs.YtkobmnbjeppnaaaGreat
open Fl
def insS (x : Rw) : List Rw → List Rw
 | [] => [x]
 | y :: t => if ch x ≤ ch y then x :: y :: t else y :: insS x t
/-- the stable order -/
def srt : List Rw → List Rw
 | [] => []
 | x :: t => insS x (srt t)
theorem insS_len (x : Rw) : ∀ l : List Rw, (insS x l).length = l.length + 1
 | [] => rfl
 | y :: t => by
  unfold insS
  split
  ·rfl
  ·simp [insS_len x t]
theorem srt_len : ∀ l : List Rw, (srt l).length = l.length
 | [] => rfl
 | x :: t => by rw [srt, insS_len, srt_len t, List.length_cons]
theorem insS_mem {x z : Rw} : ∀ {l : List Rw}, z ∈ insS x l ↔ z = x ∨ z ∈ l
 | [] => by simp [insS]
 | y :: t => by
  unfold insS
  split
  ·simp
  ·simp only [List.mem_cons, insS_mem (l := t)]
   constructor
   ·rintro (h | h | h) <;> simp [h]
   ·rintro (h | h | h) <;> simp [h]
theorem srt_mem {z : Rw} : ∀ {l : List Rw}, z ∈ srt l ↔ z ∈ l
 | [] => Iff.rfl
 | x :: t => by rw [srt, insS_mem, srt_mem, List.mem_cons]
theorem asc_cons {x y : Rw} {t : List Rw} : ascB (x :: y :: t) = true ↔ ch x ≤ ch y ∧ ascB (y :: t) = true := by
 rw [show ascB (x :: y :: t) = (decide (ch x ≤ ch y) && ascB (y :: t)) from rfl, Bool.and_eq_true, decide_eq_true_iff]
theorem insS_asc (x : Rw) : ∀ {l : List Rw}, ascB l = true → ascB (insS x l) = true
 | [], _ => rfl
 | y :: t, h => by
  unfold insS
  split
  ·rename_i hc
   exact asc_cons.2 ⟨hc, h⟩
  ·rename_i hc
   have ih := insS_asc x (asc_tail h)
   cases t with
   | nil => exact asc_cons.2 ⟨by omega, rfl⟩
   | cons z t =>
    unfold insS at ih ⊢
    have h2 := asc_cons.1 h
    by_cases hz : ch x ≤ ch z
    ·rw [if_pos hz] at ih ⊢
     exact asc_cons.2 ⟨by omega, ih⟩
    ·rw [if_neg hz] at ih ⊢
     exact asc_cons.2 ⟨h2.1, ih⟩
theorem srt_asc : ∀ l : List Rw, ascB (srt l) = true
 | [] => rfl
 | x :: t => insS_asc x (srt_asc t)
theorem insS_fnd (x : Rw) (c : Int) : ∀ l : List Rw, fnd (insS x l) c = if ch x = c then some x else fnd l c
 | [] => by unfold insS; rw [fnd_cons]
 | y :: t => by
  unfold insS
  split
  ·rw [fnd_cons]
  ·rw [fnd_cons, insS_fnd x c t, fnd_cons]
   by_cases h1 : ch y = c
   ·rw [if_pos h1, if_neg (by omega), if_pos h1]
   ·rw [if_neg h1, if_neg h1]
theorem srt_fnd (c : Int) : ∀ l : List Rw, fnd (srt l) c = fnd l c
 | [] => rfl
 | x :: t => by rw [srt, insS_fnd, srt_fnd c t, fnd_cons]
theorem srt_id : ∀ {l : List Rw}, ascB l = true → srt l = l
 | [], _ => rfl
 | x :: t, h => by
  rw [srt, srt_id (asc_tail h)]
  cases t with
  | nil => rfl
  | cons y t => rw [insS, if_pos (asc_cons.1 h).1]
theorem asc_of_AscR : ∀ {l : List Rw}, AscR l → ascB l = true
 | [], _ => rfl
 | [_], _ => rfl
 | x :: y :: t, h => asc_cons.2 ⟨Int.le_of_lt ((List.pairwise_cons.1 h).1 y (by simp)), asc_of_AscR (List.pairwise_cons.1 h).2⟩
end Go.Proofs.YtkobmnbjeppnaaaGreat
end
section
namespace Go.Proofs.YtkobmnbjeppnaaaGreat
open Go.RowKit Go.IntWalk
open Fl
set_option maxRecDepth 100000
theorem postM_ret {F : Fence} {n : Nat} {P : Program} {fn : Func} {R : Ending → World → Prop} {a : Act} {w : World} {v : Value} (hr : (results fn a.tmps).run P w = .ok v w) (hd : a.defers = []) (hR : R (.returned v) w) : bodyPostM F n P fn R .ret a w := by
 show LeavesInM F n P fn a.tmps R a.defers .returning w
 rw [hd]
 exact ⟨v, hr, hR⟩
theorem postM_one {F : Fence} {n : Nat} {P : Program} {fn : Func} {R : Ending → World → Prop} {a : Act} {w : World} {v : Value} {D : Nat} (hK : w.heap[D]? = some (.deferred (some []))) (hd : a.defers = [{ target := .collected D, args := #[] }])
  (hr : ∀ w', w' = w.putObj D (.deferred none) → (results fn a.tmps).run P w' = .ok v w') (hR : ∀ w', w' = w.putObj D (.deferred none) → R (.returned v) w') : bodyPostM F n P fn R .ret a w := by
 show LeavesInM F n P fn a.tmps R a.defers .returning w
 rw [hd]
 refine ⟨by simp, .inl ⟨_, _, rfl, run_takeDeferred hK, ?_⟩⟩
 exact ⟨v, hr _ rfl, hR _ rfl⟩
end Go.Proofs.YtkobmnbjeppnaaaGreat
end
section
namespace Go.Proofs.YtkobmnbjeppnaaaGreat
open Go.RowKit Go.IntWalk
open Fl
set_option maxRecDepth 100000
attribute [local go_sem] Oper.semAt_some
/-- rows are put in order -/
def OrdOk (l : List Rw) : Prop := ∀ (A : Option Addr) (cap : Nat) (w : World), At w w.heap.size A (tvs l) →
 Calls Tryz.prog 48 #[.slice A l.length cap] w fun e w' => ∃ A' cap', e = .returned (.slice A' l.length cap') ∧ At w' w'.heap.size A' (tvs (srt l)) ∧ Below w.heap.size w w'
theorem ordOk_asc {l : List Rw} (hs : ascB l = true) (hl : l.length ≤ maxLen) : OrdOk l := fun A cap w hc => by
 have HC := Lib.hid hc
 have HS := Lib.hid hs
 clear hc hs
 go_enter Tryz.func48, Tryz.ntmps48
 go_wp2_with fail
 refine (sorted_c A cap l hl _ HC.out).mono ?_
 rintro e w1 ⟨rfl, hb1⟩
 rw [HS.out]
 go_wp2_with fail
 go_ret
 exact ⟨_, _, rfl, by rw [srt_id HS.out]; exact HC.out.keep hb1, hb1⟩
theorem ownFrom_box {β : Type} {B Bs : Nat} {t : TypeId} {v : Value} : OwnFrom B (fun (_ : β) W => Boxed W Bs t v) := fun _ X Y row hs hg hr => by
 refine hs.kept hg (fun e => ?_)
 obtain ⟨_, o, ho, hc⟩ := hr Bs e.symm
 rw [show X.heap[Bs]? = _ from hs] at ho
 cases ho
 cases hc
def abvB (l : List Rw) (a b : Int) : Bool := parB l b && (chn l (l.length + 1) (parV l b)).any fun x => x.1 == a
theorem parB_srt (l : List Rw) (c : Int) : parB (srt l) c = parB l c := by unfold parB; rw [srt_fnd]
theorem parV_srt (l : List Rw) (c : Int) : parV (srt l) c = parV l c := by unfold parV; rw [srt_fnd]
theorem chn_srt (l : List Rw) : ∀ (n : Nat) (c : Int), chn (srt l) n c = chn l n c
 | 0, _ => rfl
 | n + 1, c => by rw [chn, chn, parB_srt, parV_srt, chn_srt l n]
set_option maxHeartbeats 4000000 in
theorem above_in (A : Option Addr) (cap : Nat) (l : List Rw) (a b : Int) (hl : l.length ≤ 100000) (ho : OrdOk l) (w : World) (hc : At w w.heap.size A (tvs l)) :
  CallsIn Fence.wide 4 Tryz.prog 27 #[.slice A l.length cap, .int .i64 a, .int .i64 b] w fun e W' => e = .returned (.bool (abvB l a b)) ∧ Below w.heap.size w W' := by
 have HC := Lib.hid hc
 have HO := Lib.hid ho
 clear hc ho
 refine callsIn_of_wp_marks Tryz.func27 rfl trivial ?_ rfl
 simp only [Tryz.ntmps27, List.size_toArray, List.length_cons, List.length_nil, Nat.reduceAdd, Nat.reduceSub, Array.replicate_succ, Array.replicate_zero, List.push_toArray, List.append_toArray, List.nil_append, List.cons_append]
 gi_wp2_with fail
 refine ⟨trivial, (callsIn_wide.2 (find_c A cap l b (by unfold maxLen; omega) _ ((HC.out.keep (.alloc (Below.refl _ _) (Nat.le_refl _) _)).keep (.alloc (Below.refl _ _) (Nat.le_refl _) _)))).mono ?_⟩
 rintro e w1 ⟨rfl, hb1⟩
 obtain ⟨r, hr⟩ : ∃ r, (fnd l b).getD zr = r := ⟨_, rfl⟩
 obtain ⟨q, hq⟩ : ∃ q, (fnd l b).isSome = q := ⟨_, rfl⟩
 rw [hr, hq, show rv r = .agg #[.int .i64 (ch r), .int .i64 (pa r), .string (ba (nm r)), .float .f64 (rk r)] from rfl]
 have hb0 : Below w.heap.size w w1 := ((Below.refl _ w).alloc (Nat.le_refl _) _).alloc (by simp) _ |>.trans (hb1.mono (by simp only [World.size_alloc]; omega))
 have hs1 : w.heap.size + 2 ≤ w1.heap.size := by have := hb1.size; simp at this; omega
 have BA : Boxed w1 w.heap.size 3 (.int .i64 a) := (hb1.block _ (by simp only [World.size_alloc]; omega)).trans ((Below.heap_alloc _ _ _ (by simp)).trans (World.alloc_heap_new w _))
 have BR : Boxed w1 (w.heap.size + 1) 4 (.bool false) := (hb1.block _ (by simp only [World.size_alloc]; omega)).trans (by have := World.alloc_heap_new (w.alloc (.cells #[.int .i64 a] 3)) (.cells #[.bool false] 4); rwa [World.size_alloc] at this)
 have hcw1 := HC.out.keep hb0
 clear hb1
 obtain ⟨w2, hw2⟩ : ∃ w2, w2 = w1.alloc (.cells #[.int .i64 (ch r), .int .i64 (pa r), .string (ba (nm r)), .float .f64 (rk r)] 28) := ⟨_, rfl⟩
 have BA2 : Boxed w2 w.heap.size 3 (.int .i64 a) := by rw [hw2]; exact (Below.heap_alloc _ _ _ (by omega)).trans BA
 have BR2 : Boxed w2 (w.heap.size + 1) 4 (.bool false) := by rw [hw2]; exact (Below.heap_alloc _ _ _ (by omega)).trans BR
 have BW2 : w2.heap[w1.heap.size]? = some (.cells #[.int .i64 (ch r), .int .i64 (pa r), .string (ba (nm r)), .float .f64 (rk r)] 28) := by rw [hw2]; exact World.alloc_heap_new _ _
 have hb2 : Below w.heap.size w w2 := by rw [hw2]; exact hb0.alloc hb0.size _
 have hcw2 := HC.out.keep hb2
 have hs2 : w1.heap.size < w2.heap.size := by rw [hw2]; simp
 have cr := BR2.cell
 have fr := BR2.frozen
 obtain ⟨B, hB⟩ : ∃ B, B = w1.heap.size := ⟨_, rfl⟩
 rw [← hB] at BW2 hs1 hs2
 have HW2 := Lib.hid hw2
 have HB := Lib.hid hB
 have HR := Lib.hid hr
 have HQ := Lib.hid hq
 clear hw2 hr hq BA BR hcw1 hb0 hB
 cases q with
 | false =>
  rw [HW2.out] at cr fr
  gi_wp2_with fail
  rw [← HW2.out]
  have hB2 : Boxed (w2.setCell ⟨w.heap.size + 1, 0, none⟩ (.bool false)) (w.heap.size + 1) 4 (.bool false) := is_set (show Is w2 _ _ [_] from BR2) 0 _
  have hc := hB2.cell
  refine postM_ret (v := .bool false) ?_ rfl ⟨?_, ?_⟩
  ·simp [results, Tryz.f27, go_sem, hc]
  ·unfold abvB parB; rw [HQ.out]; rfl
  ·exact hb2.setCell (by simp) _
 | true =>
  rw [HW2.out] at cr fr
  gi_wp2_with fail
  rw [← HW2.out, ← HB.out]
  have cB1 : w2.cell? ⟨B, 1, none⟩ = some (.int .i64 (pa r)) := by simp [World.cell?, BW2]
  refine wpIn_mono (Q := Exit.then (fun a' W => ∃ (A' : Option Addr) (cap' q : Nat) (W0 : World), q = W0.heap.size ∧ W = (W0.alloc (.cells #[.slice A' l.length cap'] 63)).alloc (.cells #[.int .i64 (pa r)] 3) ∧ Below w2.heap.size w2 W0 ∧ At W0 W0.heap.size A' (tvs (srt l)) ∧
   a' = { tmps := #[.slice A l.length cap, .int .i64 a, .int .i64 b, undef, .pointer (some ⟨w.heap.size, 0, none⟩), undef, .pointer (some ⟨w.heap.size + 1, 0, none⟩), .pointer (some ⟨B, 0, none⟩), .bool true, undef,
    .tuple #[.agg #[.int .i64 (ch r), .int .i64 (pa r), .string (ba (nm r)), .float .f64 (rk r)], .bool true], .slice A l.length cap, .int .i64 b, .tuple #[.agg #[.int .i64 (ch r), .int .i64 (pa r), .string (ba (nm r)), .float .f64 (rk r)], .bool true],
    .agg #[.int .i64 (ch r), .int .i64 (pa r), .string (ba (nm r)), .float .f64 (rk r)], .bool true, .bool true, .bool false, .slice A l.length cap, .slice A' l.length cap', .pointer (some ⟨B, 1, none⟩), .int .i64 (pa r),
    .func (.func 68) #[] #[.pointer (some ⟨q + 1, 0, none⟩), .pointer (some ⟨q, 0, none⟩)], undef, undef, undef, undef, undef], defers := [] }) (fun _ _ _ => False)) ?reg ?rest
  case reg =>
   have h9 := callsIn_wide (n := 3) (P := Tryz.prog).2 (HO.out A cap w2.drew (at_drewE hcw2 ⟨1, rfl⟩))
   have cB0 : w2.drew.cell? ⟨B, 1, none⟩ = some (.int .i64 (pa r)) := cB1
   gi_region_with (first
    | (refine ⟨trivial, h9.mono ?_⟩; rintro e w4 ⟨A4, cap4, rfl, hat4, hb4⟩; have hb4' := (below_drewN (Below.refl w2.heap.size w2) 1).trans hb4; have cB4 := (hb4.cell (p := ⟨B, 1, none⟩) (by show B < _; exact hs2)).trans cB0)
    | (refine ⟨trivial, (up_in Fence.wide 3 trivial rfl _ _ _ _ _).mono ?_⟩; rintro e w5 ⟨rfl, hw5⟩))
   all_goals exact ⟨A4, cap4, w4.heap.size, w4, rfl, rfl, hb4', hat4, rfl⟩
  case rest =>
   intro e a' W hp
   cases e <;> try exact hp.elim
   obtain ⟨A', cap', q, W0, hq, hW, hbW, hat, rfl⟩ := hp
   have BT : Boxed W q 63 (.slice A' l.length cap') := by rw [hW, hq]; exact (Below.heap_alloc _ _ _ (by simp)).trans (World.alloc_heap_new _ _)
   have BC : Boxed W (q + 1) 3 (.int .i64 (pa r)) := by
    have := World.alloc_heap_new (W0.alloc (.cells #[.slice A' l.length cap'] 63)) (.cells #[.int .i64 (pa r)] 3)
    rw [World.size_alloc, ← hq, ← hW] at this
    exact this
   have hb3 : Below w2.heap.size w2 W := by rw [hW]; exact (hbW.alloc hbW.size _).alloc (by have := hbW.size; simp only [World.size_alloc]; omega) _
   have hsW : W.heap.size = q + 2 := by rw [hW, hq]; simp
   have hatW : At W W.heap.size A' (tvs (srt l)) := by rw [hW]; exact (hat.keep (.alloc (Below.refl _ _) (Nat.le_refl _) _)).keep (.alloc (Below.refl _ _) (Nat.le_refl _) _)
   have BA3 : Boxed W w.heap.size 3 (.int .i64 a) := (hb3.block _ (by omega)).trans BA2
   have BR3 : Boxed W (w.heap.size + 1) 4 (.bool false) := (hb3.block _ (by omega)).trans BR2
   have hbw3 : Below w.heap.size w W := hb2.trans (hb3.mono hb2.size)
   have hsz3 := hb3.size
   have hseq : SeqQ Fence.wide 3 Tryz.prog 68 #[.pointer (some ⟨q + 1, 0, none⟩), .pointer (some ⟨q, 0, none⟩)] upArr (Below W.heap.size) (fun A B => Below A.heap.size A B) (fun s => s <+: chn l (l.length + 1) (pa r)) (fun ys _ => ys = chn l (l.length + 1) (pa r)) (fun pre _ => pre <+: chn l (l.length + 1) (pa r)) (l.length + 1) W := by
    have := up_stops 3 (by decide) (q + 1) q W.heap.size A' cap' (srt l) (pa r) (by rw [srt_len]; exact hl) (srt_asc l) W (Nat.le_refl _) (by omega) (by omega) BC.cell (by rw [srt_len]; exact BT.cell) hatW
    rw [srt_len, chn_srt] at this
    exact this
   clear hW hq hat hbW BA2 BR2 BW2 hcw2 hb2 cr fr cB1 hb3 hatW BC BT
   obtain ⟨hab, hQQ⟩ : (abvB l a b = (chn l (l.length + 1) (pa r)).any fun x => x.1 == a) ∧ True := ⟨by
    obtain ⟨s, hs⟩ : ∃ s, fnd l b = some s := by
     cases h : fnd l b with
     | none => have := HQ.out; rw [h] at this; cases this
     | some s => exact ⟨s, rfl⟩
    have hrs := HR.out
    unfold abvB parB parV
    rw [hs] at hrs ⊢
    simp only [Option.getD_some] at hrs
    subst hrs
    rfl, trivial⟩
   have HAB := Lib.hid hab
   clear hab hQQ
   gi_wp2_with fail
   refine rangeQ rfl (by decide) (gf := 68) (lb := #[.pointer (some ⟨q + 1, 0, none⟩), .pointer (some ⟨q, 0, none⟩)]) rfl trivial (enters_of Tryz.func68 (by kernel_rfl) rfl)
    hseq belowK_t (belowK_b (Nat.le_refl _)) (Below.refl _ _) (fun _ => rfl)
    (fun A B hab k o hk hko ho => (hab.block k (Array.getElem?_eq_some_iff.1 hko).1).trans hko)
    (ownFrom_pure _ _) (ownFrom_pure _ _)
    (fun pre W' => ((∀ x ∈ pre, x.1 ≠ a) ∧ Boxed W' w.heap.size 3 (.int .i64 a)) ∧ Boxed W' (w.heap.size + 1) 4 (.bool false) ∧ Below w.heap.size w W')
    (fun c pre W' => ((c = .ret ∧ ∃ x ∈ pre, x.1 = a) ∧ Boxed W' (w.heap.size + 1) 4 (.bool true)) ∧ Below w.heap.size w W')
    (OwnFrom.and (OwnFrom.and (ownFrom_pure _ _) ownFrom_box) (OwnFrom.and ownFrom_box (ownFrom_below (Nat.le_refl _) (by omega))))
    (fun c => OwnFrom.and (OwnFrom.and (ownFrom_pure _ _) ownFrom_box) (ownFrom_below (Nat.le_refl _) (by omega)))
    (fun s A B hs hab => ⟨⟨hs.1.1, (hab.block _ hs.1.2.lt).trans hs.1.2⟩, (hab.block _ hs.2.1.lt).trans hs.2.1, hs.2.2.trans (hab.mono hs.2.2.size)⟩)
    (fun c s A B hs hab => ⟨⟨hs.1.1, (hab.block _ hs.1.2.lt).trans hs.1.2⟩, hs.2.trans (hab.mono hs.2.size)⟩)
    ⟨⟨fun x hx => by simp at hx, BA3⟩, BR3, hbw3⟩
    (fun x => { tmps := #[.slice A l.length cap, .int .i64 a, .int .i64 b, undef, .pointer (some ⟨w.heap.size, 0, none⟩), undef, .pointer (some ⟨w.heap.size + 1, 0, none⟩), .pointer (some ⟨B, 0, none⟩), .bool true, .int .i64 x.1,
    .tuple #[.agg #[.int .i64 (ch r), .int .i64 (pa r), .string (ba (nm r)), .float .f64 (rk r)], .bool true], .slice A l.length cap, .int .i64 b, .tuple #[.agg #[.int .i64 (ch r), .int .i64 (pa r), .string (ba (nm r)), .float .f64 (rk r)], .bool true],
    .agg #[.int .i64 (ch r), .int .i64 (pa r), .string (ba (nm r)), .float .f64 (rk r)], .bool true, .bool true, .bool false, .slice A l.length cap, .slice A' l.length cap', .pointer (some ⟨B, 1, none⟩), .int .i64 (pa r),
    .func (.func 68) #[] #[.pointer (some ⟨q + 1, 0, none⟩), .pointer (some ⟨q, 0, none⟩)], .int .i64 x.1, .bool x.2, undef, undef, undef], defers := [] }) ?assign ?body ?done ?stop
   case assign =>
    intro lp x W K hK
    unfold upArr
    gi_wp2
    exact hK
   case body =>
    rintro lp pre x W' - ⟨⟨hno, hA⟩, hB', hbel⟩ hlt
    have ca := hA.cell
    have cr := hB'.cell
    have fr := hB'.frozen
    by_cases hx : x.1 = a
    ·have hxx : (x.1 == a) = true := by simpa using hx
     gi_wp2_with fail
     exact ⟨(KeepsOthers.setCell _ _ _).from _, ⟨⟨rfl, x, by simp, hx⟩, is_set (show Is W' _ _ [_] from hB') 0 _⟩, hbel.setCell (by simp) _⟩
    ·have hxx : (x.1 == a) = false := by simpa using hx
     gi_wp2_with fail
     exact ⟨KeepsFrom.refl _ _, Below.refl _ _, ⟨fun y hy => by
      rcases List.mem_append.1 hy with h | h
      ·exact hno y h
      ·rw [List.mem_singleton.1 h]; exact hx, hA⟩, hB', hbel⟩
   case done =>
    rintro D ys W' hD hS ⟨⟨hno, hA⟩, hB', hbel⟩ hK
    have cr := hB'.cell
    have fr := hB'.frozen
    gi_wp2_with fail
    have hB2 : Boxed (W'.setCell ⟨w.heap.size + 1, 0, none⟩ (.bool false)) (w.heap.size + 1) 4 (.bool false) := is_set (show Is W' _ _ [_] from hB') 0 _
    have hK2 := (Below.heap_setCell W' ⟨w.heap.size + 1, 0, none⟩ (.bool false) D (by show D ≠ w.heap.size + 1; omega)).trans hK
    have hb2 : Below w.heap.size w (W'.setCell ⟨w.heap.size + 1, 0, none⟩ (.bool false)) := hbel.setCell (by simp) _
    refine postM_one (v := .bool false) hK2 rfl (fun w' hw' => ?_) (fun w' hw' => ⟨?_, ?_⟩)
    ·have hc : w'.cell? ⟨w.heap.size + 1, 0, none⟩ = some (.bool false) := Boxed.cell (by rw [hw']; exact (World.putObj_heap_other (by omega)).trans hB2)
     simp [results, Tryz.f27, go_sem, hc]
    ·rw [HAB.out, ← hS, List.any_eq_false.2 (fun y hy => by simpa using hno y hy)]
    ·rw [hw']; exact hb2.trans (belowK_b (w := w) (Nat.le_refl _) _ D _ _ (by omega) hK2 rfl rfl)
   case stop =>
    rintro D c pre W' hD hS ⟨⟨⟨rfl, x, hx, hxa⟩, hB'⟩, hbel⟩ hK
    gi_wp2_with fail
    refine postM_one (v := .bool true) hK rfl (fun w' hw' => ?_) (fun w' hw' => ⟨?_, ?_⟩)
    ·have hc : w'.cell? ⟨w.heap.size + 1, 0, none⟩ = some (.bool true) := Boxed.cell (by rw [hw']; exact (World.putObj_heap_other (by omega)).trans hB')
     simp [results, Tryz.f27, go_sem, hc]
    ·rw [HAB.out, List.any_eq_true.2 ⟨x, hS.subset hx, by simpa using hxa⟩]
    ·rw [hw']; exact hbel.trans (belowK_b (w := w) (Nat.le_refl _) _ D _ _ (by omega) hK rfl rfl)
theorem above_c (A : Option Addr) (cap : Nat) (l : List Rw) (a b : Int) (hl : l.length ≤ 100000) (ho : OrdOk l) (w : World) (hc : At w w.heap.size A (tvs l)) :
  Calls Tryz.prog 27 #[.slice A l.length cap, .int .i64 a, .int .i64 b] w fun e W' => e = .returned (.bool (abvB l a b)) ∧ Below w.heap.size w W' :=
 (callsIn_wide (n := 4)).1 (above_in A cap l a b hl ho w hc)
end Go.Proofs.YtkobmnbjeppnaaaGreat
end
section
namespace Go.Proofs.YtkobmnbjeppnaaaGreat
open Go.RowKit Go.IntWalk
set_option maxRecDepth 100000
attribute [local go_sem] Oper.semAt_some
end Go.Proofs.YtkobmnbjeppnaaaGreat
end
section
namespace Go.Proofs.YtkobmnbjeppnaaaGreat
open Go.RowKit Go.IntWalk
set_option maxRecDepth 100000
attribute [local go_sem] Oper.semAt_some
end Go.Proofs.YtkobmnbjeppnaaaGreat
end
section
namespace Go.Proofs.YtkobmnbjeppnaaaGreat
open Go.RowKit Go.IntWalk
open Wd Fl
set_option maxRecDepth 100000
attribute [local go_sem] Oper.semAt_some
attribute [-go_sem] run_eql_struct
end Go.Proofs.YtkobmnbjeppnaaaGreat
end
section
namespace Go.Proofs.YtkobmnbjeppnaaaGreat
open Go.RowKit Go.IntWalk
open Gr
set_option maxRecDepth 100000
attribute [local go_sem] Oper.semAt_some
theorem chn_any (l : List Rw) (a : Int) : ∀ (n : Nat) (c : Int), ((chn l n c).any fun x => x.1 == a) = true ↔ ∃ m, m < n ∧ it (upF l) m c = some a
 | 0, c => by simp [chn]
 | n + 1, c => by
  have hu : upF l c = if parB l c then some (parV l c) else none := by
   unfold upF parB parV
   cases fnd l c <;> rfl
  rw [chn, List.any_cons, Bool.or_eq_true]
  constructor
  ·rintro (h | h)
   ·exact ⟨0, by omega, by simp at h; rw [h]; rfl⟩
   ·by_cases hp : parB l c = true
    ·rw [if_pos hp] at h
     obtain ⟨m, hm, he⟩ := (chn_any l a n _).1 h
     exact ⟨m + 1, by omega, by rw [it, hu, if_pos hp]; exact he⟩
    ·rw [if_neg hp] at h; simp at h
  ·rintro ⟨m, hm, he⟩
   cases m with
   | zero => left; simp only [it, Option.some.injEq] at he; simp [he]
   | succ m =>
    right
    rw [it, hu] at he
    by_cases hp : parB l c = true
    ·rw [if_pos hp] at he ⊢
     exact (chn_any l a n _).2 ⟨m, by omega, he⟩
    ·rw [if_neg hp] at he; cases he
theorem abvB_eq (l : List Rw) (a b : Int) : abvB l a b = abv l a l.length b := by
 rw [← abv_more l a b (Nat.le_succ l.length)]
 have hu : upF l b = if parB l b then some (parV l b) else none := by
  unfold upF parB parV
  cases fnd l b <;> rfl
 rw [Bool.eq_iff_iff, abv_iff]
 unfold abvB
 rw [Bool.and_eq_true, chn_any]
 constructor
 ·rintro ⟨hp, m, hm, he⟩
  exact ⟨m, hm, by rw [it, hu, if_pos hp]; exact he⟩
 ·rintro ⟨m, hm, he⟩
  rw [it, hu] at he
  by_cases hp : parB l b = true
  ·rw [if_pos hp] at he
   exact ⟨hp, m, hm, he⟩
  ·rw [if_neg hp] at he; cases he
theorem above_k (A : Option Addr) (cap : Nat) (l : List Rw) (a b : Int) (hl : l.length ≤ 100000) (ho : OrdOk l) (w : World) (hc : At w w.heap.size A (tvs l)) :
  Calls Tryz.prog 27 #[.slice A l.length cap, .int .i64 a, .int .i64 b] w fun e W' => e = .returned (.bool (abv l a l.length b)) ∧ Below w.heap.size w W' := by
 rw [← abvB_eq]; exact above_c A cap l a b hl ho w hc
end Go.Proofs.YtkobmnbjeppnaaaGreat
end
