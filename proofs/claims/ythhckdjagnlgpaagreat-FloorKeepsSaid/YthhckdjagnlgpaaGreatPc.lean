/-
 The way up from a node: the program's rows.up.
 Rows sorted by their children, those of one child as they were, plain.
 How a function with a range over a function ends.
 Rows in order; Above: the program's.
-/
import Derived.Test.YthhckdjagnlgpaaGreatRa
import Derived.Test.YthhckdjagnlgpaaGreatTu
import Derived.Sort.QuietIn
import Derived.Sort.LoopGhostIn
import Derived.Test.YthhckdjagnlgpaaGreatGb
section
namespace Go.Proofs.YthhckdjagnlgpaaGreat
open Go.RowKit Go.IntWalk
open Fl
set_option maxRecDepth 100000
attribute [local go_sem] Oper.semAt_some
/-- the nodes from c up, and of each whether it has no row; at most n -/
def chn (l : List Rw) : Nat → Int → List (Int × Bool)
 | 0, _ => []
 | n + 1, c => (c, !parB l c) :: (if parB l c then chn l n (parV l c) else [])
theorem chn_len (l : List Rw) : ∀ (n : Nat) (c : Int), (chn l n c).length ≤ n
 | 0, _ => Nat.le_refl _
 | n + 1, c => by
  unfold chn
  split
  ·have := chn_len l n (parV l c); simp; omega
  ·simp
def upArr (x : Int × Bool) : Array Value := #[.int .i64 x.1, .bool x.2]
set_option maxHeartbeats 4000000 in
theorem up1_in (m : Nat) (hm : 1 ≤ m) (lp Bc Bt : Nat) (A : Option Addr) (cap : Nat) (l : List Rw) (c : Int) (hl : l.length ≤ 100000) (hs : ascB l = true) (J Jx : List (Int × Bool) → World → Prop) (Kp : World → World → Prop)
  (hJ : ∀ s A B, J s A → Below A.heap.size A B → J s B)
  (hY : ∀ pre x W, pre ++ [x] <+: chn l (l.length + 1) c → J pre W → pre.length < l.length + 1 → YieldAt Fence.wide (m - 1) Tryz.prog lp (upArr x) W fun e W' =>
   (e = .returned (.bool true) ∧ J (pre ++ [x]) W' ∧ Kp W W') ∨ (e = .returned (.bool false) ∧ Jx (pre ++ [x]) W'))
  (W : World) (hK1 : ∀ X Y Z : World, Kp X Y → Kp Y Z → Kp X Z) (hK2 : ∀ X Y, Kp W X → Below X.heap.size X Y → Kp X Y) (hK0 : Kp W W) (hK3 : ∀ X, Kp W X → X.cell? ⟨Bt, 0, none⟩ = some (.slice A l.length cap) ∧ At X X.heap.size A (tvs l)) (hcc : W.cell? ⟨Bc, 0, none⟩ = some (.int .i64 c)) (h0 : J [] W) :
  CallsIn Fence.wide m Tryz.prog 135 #[.func (.yield lp) #[] #[], .pointer (some ⟨Bc, 0, none⟩), .pointer (some ⟨Bt, 0, none⟩)] W fun e W' => (∃ v, e = .returned v) ∧
   ((∃ ys, ys = chn l (l.length + 1) c ∧ J ys W') ∨ ∃ pre, pre <+: chn l (l.length + 1) c ∧ Jx pre W') := by
 have hY' := fun pre (v : Int) (b : Bool) => hY pre (v, b)
 unfold upArr at hY'
 dsimp only at hY'
 have HY' := Lib.hid hY'
 have HK2 := Lib.hid hK2
 have HK3 := Lib.hid hK3
 have HK0 := Lib.hid hK0
 have HK1 := Lib.hid hK1
 have HS := Lib.hid hs
 have HJ := Lib.hid hJ
 clear hY hY' hs hJ hK1 hK2 hK3 hK0
 have hw0 : IntKind.i64.wrap ((l.length : Int) + 1) = (l.length : Int) + 1 := IntWalk.i64_in _ (by omega)
 refine callsIn_of_wp Tryz.func135 rfl trivial ?_ rfl
 simp only [Tryz.ntmps135, List.size_toArray, List.length_cons, List.length_nil, Nat.reduceAdd, Nat.reduceSub, Array.replicate_succ, Array.replicate_zero, List.push_toArray, List.append_toArray, List.nil_append, List.cons_append]
 have hct := (HK3.out _ HK0.out).1
 gi_wp2
 clear hct
 gi_loopw [4, 11] (fun nd i wr => ∃ (k : Nat) (cur : Int) (pre : List (Int × Bool)), i = .int .i64 (k : Int) ∧ nd = .int .i64 cur ∧ pre.length = k ∧ k ≤ l.length + 1 ∧ pre ++ chn l (l.length + 1 - k) cur = chn l (l.length + 1) c ∧ J pre wr ∧ Kp W wr)
  (fun _ i _ => l.length + 1 - (intOf i).toNat)
 case atStart => exact ⟨0, c, [], rfl, rfl, rfl, by omega, rfl, h0, HK0.out⟩
 case round =>
  clear hcc h0
  obtain ⟨k, cur, pre, rfl, rfl, hpl, hkl, heq, hJs, hbw⟩ := hrel
  have HE := Lib.hid heq
  have HPL := Lib.hid hpl
  have HBW := Lib.hid hbw
  have HJS := Lib.hid hJs
  clear heq hpl hbw hJs
  by_cases hlt : k < l.length + 1
  ·obtain ⟨j, hj⟩ : ∃ j, l.length + 1 - k = j + 1 := ⟨l.length - k, by omega⟩
   have HJ2 := Lib.hid hj
   have hct := (HK3.out _ HBW.out).1
   have hlt2 : ((k : Nat) : Int) < (l.length : Int) + 1 := by omega
   clear hj
   gi_wp2_with fail
   refine ⟨trivial, (callsIn_wide.2 (parent_c A cap l cur hl HS.out _ (HK3.out _ HBW.out).2)).mono ?_⟩
   rintro e w1 ⟨rfl, hb1⟩
   have hJ1 := HJ.out _ _ _ HJS.out hb1
   have hbw1 := HK1.out _ _ _ HBW.out (HK2.out _ _ HBW.out hb1)
   have HBW1 := Lib.hid hbw1
   have HB1 := Lib.hid hb1
   have HJ1 := Lib.hid hJ1
   clear hb1 hJ1 hbw1
   obtain ⟨p, hp⟩ : ∃ p, p = parV l cur := ⟨_, rfl⟩
   have HP := Lib.hid hp
   rw [← hp]
   clear hp
   have hch : chn l (l.length + 1 - k) cur = (cur, !parB l cur) :: (if parB l cur then chn l (l.length + 1 - (k + 1)) p else []) := by
    rw [HJ2.out, chn, HP.out, show l.length + 1 - (k + 1) = j by have := HJ2.out; omega]
   cases hbq : parB l cur with
   | true =>
    rw [hbq] at hch
    have HC := Lib.hid hch
    have HBQ := Lib.hid hbq
    clear hch hbq
    obtain ⟨fn, tmps, assign, body, hy, hR⟩ := HY'.out pre cur false w1 ⟨chn l (l.length + 1 - (k + 1)) p, by rw [List.append_assoc, ← HE.out, HC.out]; rfl⟩ HJ1.out (by rw [HPL.out]; exact hlt)
    gi_wp2_with fail
    refine hR.mono ?_
    rintro e w3 (⟨rfl, hJ3, hk3⟩ | ⟨rfl, hJx3⟩)
    ·have HKk := Lib.hid hk3
     clear hk3 hy hR
     gi_wp2_with fail
     go_roundw
     case rel => exact ⟨k + 1, p, pre ++ [(cur, false)], by simp, rfl, by simp [HPL.out], by omega, by rw [List.append_assoc, ← HE.out, HC.out]; rfl, hJ3, HK1.out _ _ _ HBW1.out HKk.out⟩
     case measure => simp [intOf]; omega
    ·gi_wp2_with fail
     refine bodyPost_ret (results_none rfl _ _ _) rfl ?_
     exact ⟨⟨_, rfl⟩, .inr ⟨_, ⟨chn l (l.length + 1 - (k + 1)) p, by rw [List.append_assoc, ← HE.out, HC.out]; rfl⟩, hJx3⟩⟩
   | false =>
    rw [hbq] at hch
    have HC := Lib.hid hch
    have HBQ := Lib.hid hbq
    clear hch hbq
    obtain ⟨fn, tmps, assign, body, hy, hR⟩ := HY'.out pre cur true w1 ⟨[], by rw [List.append_nil, ← HE.out, HC.out]; rfl⟩ HJ1.out (by rw [HPL.out]; exact hlt)
    gi_wp2_with fail
    refine hR.mono ?_
    rintro e w3 (⟨rfl, hJ3, hk3⟩ | ⟨rfl, hJx3⟩)
    ·clear hy hR
     gi_wp2_with fail
     refine bodyPost_ret (results_none rfl _ _ _) rfl ?_
     exact ⟨⟨_, rfl⟩, .inl ⟨_, by rw [← HE.out, HC.out]; rfl, hJ3⟩⟩
    ·gi_wp2_with fail
     refine bodyPost_ret (results_none rfl _ _ _) rfl ?_
     exact ⟨⟨_, rfl⟩, .inr ⟨_, ⟨[], by rw [List.append_nil, ← HE.out, HC.out]; rfl⟩, hJx3⟩⟩
  ·obtain rfl : k = l.length + 1 := by omega
   gi_wp2_with fail
   go_end0
   exact ⟨⟨_, rfl⟩, .inl ⟨pre, by rw [← HE.out]; simp [chn], HJS.out⟩⟩
/-- the iterator's contract, at what the caller keeps -/
theorem up_stopsK (m : Nat) (hm : 1 ≤ m) (Bc Bt : Nat) (A : Option Addr) (cap : Nat) (l : List Rw) (c : Int) (hl : l.length ≤ 100000) (hs : ascB l = true) (w : World) (hBc : Bc < w.heap.size) (Kp : World → World → Prop)
  (hK1 : ∀ X Y Z : World, Kp X Y → Kp Y Z → Kp X Z) (hKw : ∀ W, Below w.heap.size w W → Kp w W) (hK2 : ∀ X Y, Kp w X → Below X.heap.size X Y → Kp X Y)
  (hK3 : ∀ X, Kp w X → X.cell? ⟨Bt, 0, none⟩ = some (.slice A l.length cap) ∧ At X X.heap.size A (tvs l)) (hcc : w.cell? ⟨Bc, 0, none⟩ = some (.int .i64 c)) :
  SeqQ Fence.wide m Tryz.prog 135 #[.pointer (some ⟨Bc, 0, none⟩), .pointer (some ⟨Bt, 0, none⟩)] upArr Kp (fun A B => Below A.heap.size A B) (fun s => s <+: chn l (l.length + 1) c) (fun ys _ => ys = chn l (l.length + 1) c) (fun pre _ => pre <+: chn l (l.length + 1) c) (l.length + 1) w :=
 fun lp J Jx W hW hJ _ hY h0 => up1_in m hm lp Bc Bt A cap l c hl hs J Jx Kp hJ hY W hK1 (fun X Y hx => hK2 X Y (hK1 _ _ _ (hKw W hW) hx)) (hK2 W W (hKw W hW) (Below.refl _ _)) (fun X hx => hK3 X (hK1 _ _ _ (hKw W hW) hx))
  ((hW.cell (p := ⟨Bc, 0, none⟩) hBc).trans hcc) h0
theorem up_stops (m : Nat) (hm : 1 ≤ m) (Bc Bt n₀ : Nat) (A : Option Addr) (cap : Nat) (l : List Rw) (c : Int) (hl : l.length ≤ 100000) (hs : ascB l = true) (w : World) (hn₀ : n₀ ≤ w.heap.size) (hBt : Bt < n₀) (hBc : Bc < n₀)
  (hcc : w.cell? ⟨Bc, 0, none⟩ = some (.int .i64 c)) (hct : w.cell? ⟨Bt, 0, none⟩ = some (.slice A l.length cap)) (hat : At w n₀ A (tvs l)) :
  SeqQ Fence.wide m Tryz.prog 135 #[.pointer (some ⟨Bc, 0, none⟩), .pointer (some ⟨Bt, 0, none⟩)] upArr (Below n₀) (fun A B => Below A.heap.size A B) (fun s => s <+: chn l (l.length + 1) c) (fun ys _ => ys = chn l (l.length + 1) c) (fun pre _ => pre <+: chn l (l.length + 1) c) (l.length + 1) w :=
 up_stopsK m hm Bc Bt A cap l c hl hs w (by omega) (Below n₀) (fun _ _ _ h k => h.trans k) (fun W h => h.mono hn₀) (fun X Y hx hy => hy.mono (Nat.le_trans hn₀ hx.size))
  (fun X hx => ⟨(hx.cell (p := ⟨Bt, 0, none⟩) hBt).trans hct, (hat.below hx).mono (Nat.le_trans hn₀ hx.size)⟩) hcc
set_option maxHeartbeats 1000000 in
theorem up_in (F : Fence) (n : Nat) (h : F.fn 79) (hro : F.round = none) (A : Option Addr) (len cap : Nat) (k : Int) (w : World) :
  CallsIn F n Tryz.prog 79 #[.slice A len cap, .int .i64 k] w fun e w' => e = .returned (.func (.func 135) #[] #[.pointer (some ⟨w.heap.size + 1, 0, none⟩), .pointer (some ⟨w.heap.size, 0, none⟩)]) ∧
   w' = (w.alloc (.cells #[.slice A len cap] 94)).alloc (.cells #[.int .i64 k] 3) := by
 refine callsIn_of_wp Tryz.func79 rfl h ?_ hro
 simp only [Tryz.ntmps79, List.size_toArray, List.length_cons, List.length_nil, Nat.reduceAdd, Nat.reduceSub, Array.replicate_succ, Array.replicate_zero, List.push_toArray, List.append_toArray, List.nil_append, List.cons_append]
 gi_wp2
 go_ret
 exact ⟨rfl, rfl⟩
end Go.Proofs.YthhckdjagnlgpaaGreat
end
section
namespace Go.Proofs.YthhckdjagnlgpaaGreat
open Fl
def insS (x : Rw) : List Rw → List Rw
 | [] => [x]
 | y :: t => if ch x ≤ ch y then x :: y :: t else y :: insS x t
/-- the stable order -/
def srt : List Rw → List Rw
 | [] => []
 | x :: t => insS x (srt t)
theorem insS_len (x : Rw) : ∀ l : List Rw, (insS x l).length = l.length + 1
 | [] => rfl
 | y :: t => by
  unfold insS
  split
  ·rfl
  ·simp [insS_len x t]
theorem srt_len : ∀ l : List Rw, (srt l).length = l.length
 | [] => rfl
 | x :: t => by rw [srt, insS_len, srt_len t, List.length_cons]
theorem insS_mem {x z : Rw} : ∀ {l : List Rw}, z ∈ insS x l ↔ z = x ∨ z ∈ l
 | [] => by simp [insS]
 | y :: t => by
  unfold insS
  split
  ·simp
  ·simp only [List.mem_cons, insS_mem (l := t)]
   constructor
   ·rintro (h | h | h) <;> simp [h]
   ·rintro (h | h | h) <;> simp [h]
theorem srt_mem {z : Rw} : ∀ {l : List Rw}, z ∈ srt l ↔ z ∈ l
 | [] => Iff.rfl
 | x :: t => by rw [srt, insS_mem, srt_mem, List.mem_cons]
theorem asc_cons {x y : Rw} {t : List Rw} : ascB (x :: y :: t) = true ↔ ch x ≤ ch y ∧ ascB (y :: t) = true := by
 rw [show ascB (x :: y :: t) = (decide (ch x ≤ ch y) && ascB (y :: t)) from rfl, Bool.and_eq_true, decide_eq_true_iff]
theorem insS_asc (x : Rw) : ∀ {l : List Rw}, ascB l = true → ascB (insS x l) = true
 | [], _ => rfl
 | y :: t, h => by
  unfold insS
  split
  ·rename_i hc
   exact asc_cons.2 ⟨hc, h⟩
  ·rename_i hc
   have ih := insS_asc x (asc_tail h)
   cases t with
   | nil => exact asc_cons.2 ⟨by omega, rfl⟩
   | cons z t =>
    unfold insS at ih ⊢
    have h2 := asc_cons.1 h
    by_cases hz : ch x ≤ ch z
    ·rw [if_pos hz] at ih ⊢
     exact asc_cons.2 ⟨by omega, ih⟩
    ·rw [if_neg hz] at ih ⊢
     exact asc_cons.2 ⟨h2.1, ih⟩
theorem srt_asc : ∀ l : List Rw, ascB (srt l) = true
 | [] => rfl
 | x :: t => insS_asc x (srt_asc t)
theorem insS_fnd (x : Rw) (c : Int) : ∀ l : List Rw, fnd (insS x l) c = if ch x = c then some x else fnd l c
 | [] => by unfold insS; rw [fnd_cons]
 | y :: t => by
  unfold insS
  split
  ·rw [fnd_cons]
  ·rw [fnd_cons, insS_fnd x c t, fnd_cons]
   by_cases h1 : ch y = c
   ·rw [if_pos h1, if_neg (by omega), if_pos h1]
   ·rw [if_neg h1, if_neg h1]
theorem srt_fnd (c : Int) : ∀ l : List Rw, fnd (srt l) c = fnd l c
 | [] => rfl
 | x :: t => by rw [srt, insS_fnd, srt_fnd c t, fnd_cons]
theorem srt_id : ∀ {l : List Rw}, ascB l = true → srt l = l
 | [], _ => rfl
 | x :: t, h => by
  rw [srt, srt_id (asc_tail h)]
  cases t with
  | nil => rfl
  | cons y t => rw [insS, if_pos (asc_cons.1 h).1]
theorem asc_of_AscR : ∀ {l : List Rw}, AscR l → ascB l = true
 | [], _ => rfl
 | [_], _ => rfl
 | x :: y :: t, h => asc_cons.2 ⟨Int.le_of_lt ((List.pairwise_cons.1 h).1 y (by simp)), asc_of_AscR (List.pairwise_cons.1 h).2⟩
end Go.Proofs.YthhckdjagnlgpaaGreat
end
section
namespace Go.Proofs.YthhckdjagnlgpaaGreat
open Go.RowKit Go.IntWalk
open Fl
set_option maxRecDepth 100000
theorem postM_ret {F : Fence} {n : Nat} {P : Program} {fn : Func} {R : Ending → World → Prop} {a : Act} {w : World} {v : Value} (hr : (results fn a.tmps).run P w = .ok v w) (hd : a.defers = []) (hR : R (.returned v) w) : bodyPostM F n P fn R .ret a w := by
 show LeavesInM F n P fn a.tmps R a.defers .returning w
 rw [hd]
 exact ⟨v, hr, hR⟩
theorem postM_one {F : Fence} {n : Nat} {P : Program} {fn : Func} {R : Ending → World → Prop} {a : Act} {w : World} {v : Value} {D : Nat} (hK : w.heap[D]? = some (.deferred (some []))) (hd : a.defers = [{ target := .collected D, args := #[] }])
  (hr : ∀ w', w' = w.putObj D (.deferred none) → (results fn a.tmps).run P w' = .ok v w') (hR : ∀ w', w' = w.putObj D (.deferred none) → R (.returned v) w') : bodyPostM F n P fn R .ret a w := by
 show LeavesInM F n P fn a.tmps R a.defers .returning w
 rw [hd]
 refine ⟨by simp, .inl ⟨_, _, rfl, run_takeDeferred hK, ?_⟩⟩
 exact ⟨v, hr _ rfl, hR _ rfl⟩
end Go.Proofs.YthhckdjagnlgpaaGreat
end
section
namespace Go.Proofs.YthhckdjagnlgpaaGreat
open Go.RowKit Go.IntWalk
open Fl
set_option maxRecDepth 100000
attribute [local go_sem] Oper.semAt_some
/-- rows are put in order -/
def OrdOk (l : List Rw) : Prop := ∀ (A : Option Addr) (cap : Nat) (w : World), At w w.heap.size A (tvs l) →
 Calls Tryz.prog 78 #[.slice A l.length cap] w fun e w' => ∃ A' cap', e = .returned (.slice A' l.length cap') ∧ At w' w'.heap.size A' (tvs (srt l)) ∧ Below w.heap.size w w'
theorem ordOk_asc {l : List Rw} (hs : ascB l = true) (hl : l.length ≤ maxLen) : OrdOk l := fun A cap w hc => by
 have HC := Lib.hid hc
 have HS := Lib.hid hs
 clear hc hs
 go_enter Tryz.func78, Tryz.ntmps78
 go_wp2_with fail
 refine (sorted_c A cap l hl _ HC.out).mono ?_
 rintro e w1 ⟨rfl, hb1⟩
 rw [HS.out]
 go_wp2_with fail
 go_ret
 exact ⟨_, _, rfl, by rw [srt_id HS.out]; exact HC.out.keep hb1, hb1⟩
theorem ownFrom_box {β : Type} {B Bs : Nat} {t : TypeId} {v : Value} : OwnFrom B (fun (_ : β) W => Boxed W Bs t v) := fun _ X Y row hs hg hr => by
 refine hs.kept hg (fun e => ?_)
 obtain ⟨_, o, ho, hc⟩ := hr Bs e.symm
 rw [show X.heap[Bs]? = _ from hs] at ho
 cases ho
 cases hc
def abvB (l : List Rw) (a b : Int) : Bool := parB l b && (chn l (l.length + 1) (parV l b)).any fun x => x.1 == a
theorem parB_srt (l : List Rw) (c : Int) : parB (srt l) c = parB l c := by unfold parB; rw [srt_fnd]
theorem parV_srt (l : List Rw) (c : Int) : parV (srt l) c = parV l c := by unfold parV; rw [srt_fnd]
theorem chn_srt (l : List Rw) : ∀ (n : Nat) (c : Int), chn (srt l) n c = chn l n c
 | 0, _ => rfl
 | n + 1, c => by rw [chn, chn, parB_srt, parV_srt, chn_srt l n]
set_option maxHeartbeats 4000000 in
theorem above_in (A : Option Addr) (cap : Nat) (l : List Rw) (a b : Int) (hl : l.length ≤ 100000) (ho : OrdOk l) (w : World) (hc : At w w.heap.size A (tvs l)) :
  CallsIn Fence.wide 4 Tryz.prog 34 #[.slice A l.length cap, .int .i64 a, .int .i64 b] w fun e W' => e = .returned (.bool (abvB l a b)) ∧ Below w.heap.size w W' := by
 have HC := Lib.hid hc
 have HO := Lib.hid ho
 clear hc ho
 refine callsIn_of_wp_marks Tryz.func34 rfl trivial ?_ rfl
 simp only [Tryz.ntmps34, List.size_toArray, List.length_cons, List.length_nil, Nat.reduceAdd, Nat.reduceSub, Array.replicate_succ, Array.replicate_zero, List.push_toArray, List.append_toArray, List.nil_append, List.cons_append]
 gi_wp2_with fail
 refine ⟨trivial, (callsIn_wide.2 (find_c A cap l b (by unfold maxLen; omega) _ ((HC.out.keep (.alloc (Below.refl _ _) (Nat.le_refl _) _)).keep (.alloc (Below.refl _ _) (Nat.le_refl _) _)))).mono ?_⟩
 rintro e w1 ⟨rfl, hb1⟩
 obtain ⟨r, hr⟩ : ∃ r, (fnd l b).getD zr = r := ⟨_, rfl⟩
 obtain ⟨q, hq⟩ : ∃ q, (fnd l b).isSome = q := ⟨_, rfl⟩
 rw [hr, hq, show rv r = .agg #[.int .i64 (ch r), .int .i64 (pa r), .string (ba (nm r)), .float .f64 (rk r)] from rfl]
 have hb0 : Below w.heap.size w w1 := ((Below.refl _ w).alloc (Nat.le_refl _) _).alloc (by simp) _ |>.trans (hb1.mono (by simp only [World.size_alloc]; omega))
 have hs1 : w.heap.size + 2 ≤ w1.heap.size := by have := hb1.size; simp at this; omega
 have BA : Boxed w1 w.heap.size 3 (.int .i64 a) := (hb1.block _ (by simp only [World.size_alloc]; omega)).trans ((Below.heap_alloc _ _ _ (by simp)).trans (World.alloc_heap_new w _))
 have BR : Boxed w1 (w.heap.size + 1) 4 (.bool false) := (hb1.block _ (by simp only [World.size_alloc]; omega)).trans (by have := World.alloc_heap_new (w.alloc (.cells #[.int .i64 a] 3)) (.cells #[.bool false] 4); rwa [World.size_alloc] at this)
 have hcw1 := HC.out.keep hb0
 clear hb1
 obtain ⟨w2, hw2⟩ : ∃ w2, w2 = w1.alloc (.cells #[.int .i64 (ch r), .int .i64 (pa r), .string (ba (nm r)), .float .f64 (rk r)] 28) := ⟨_, rfl⟩
 have BA2 : Boxed w2 w.heap.size 3 (.int .i64 a) := by rw [hw2]; exact (Below.heap_alloc _ _ _ (by omega)).trans BA
 have BR2 : Boxed w2 (w.heap.size + 1) 4 (.bool false) := by rw [hw2]; exact (Below.heap_alloc _ _ _ (by omega)).trans BR
 have BW2 : w2.heap[w1.heap.size]? = some (.cells #[.int .i64 (ch r), .int .i64 (pa r), .string (ba (nm r)), .float .f64 (rk r)] 28) := by rw [hw2]; exact World.alloc_heap_new _ _
 have hb2 : Below w.heap.size w w2 := by rw [hw2]; exact hb0.alloc hb0.size _
 have hcw2 := HC.out.keep hb2
 have hs2 : w1.heap.size < w2.heap.size := by rw [hw2]; simp
 have cr := BR2.cell
 have fr := BR2.frozen
 obtain ⟨B, hB⟩ : ∃ B, B = w1.heap.size := ⟨_, rfl⟩
 rw [← hB] at BW2 hs1 hs2
 have HW2 := Lib.hid hw2
 have HB := Lib.hid hB
 have HR := Lib.hid hr
 have HQ := Lib.hid hq
 clear hw2 hr hq BA BR hcw1 hb0 hB
 cases q with
 | false =>
  rw [HW2.out] at cr fr
  gi_wp2_with fail
  rw [← HW2.out]
  have hB2 : Boxed (w2.setCell ⟨w.heap.size + 1, 0, none⟩ (.bool false)) (w.heap.size + 1) 4 (.bool false) := is_set (show Is w2 _ _ [_] from BR2) 0 _
  have hc := hB2.cell
  refine postM_ret (v := .bool false) ?_ rfl ⟨?_, ?_⟩
  ·simp [results, Tryz.f34, go_sem, hc]
  ·unfold abvB parB; rw [HQ.out]; rfl
  ·exact hb2.setCell (by simp) _
 | true =>
  rw [HW2.out] at cr fr
  gi_wp2_with fail
  rw [← HW2.out, ← HB.out]
  have cB1 : w2.cell? ⟨B, 1, none⟩ = some (.int .i64 (pa r)) := by simp [World.cell?, BW2]
  refine wpIn_mono (Q := Exit.then (fun a' W => ∃ (A' : Option Addr) (cap' q : Nat) (W0 : World), q = W0.heap.size ∧ W = (W0.alloc (.cells #[.slice A' l.length cap'] 94)).alloc (.cells #[.int .i64 (pa r)] 3) ∧ Below w2.heap.size w2 W0 ∧ At W0 W0.heap.size A' (tvs (srt l)) ∧
   a' = { tmps := #[.slice A l.length cap, .int .i64 a, .int .i64 b, undef, .pointer (some ⟨w.heap.size, 0, none⟩), undef, .pointer (some ⟨w.heap.size + 1, 0, none⟩), .pointer (some ⟨B, 0, none⟩), .bool true, undef,
    .tuple #[.agg #[.int .i64 (ch r), .int .i64 (pa r), .string (ba (nm r)), .float .f64 (rk r)], .bool true], .slice A l.length cap, .int .i64 b, .tuple #[.agg #[.int .i64 (ch r), .int .i64 (pa r), .string (ba (nm r)), .float .f64 (rk r)], .bool true],
    .agg #[.int .i64 (ch r), .int .i64 (pa r), .string (ba (nm r)), .float .f64 (rk r)], .bool true, .bool true, .bool false, .slice A l.length cap, .slice A' l.length cap', .pointer (some ⟨B, 1, none⟩), .int .i64 (pa r),
    .func (.func 135) #[] #[.pointer (some ⟨q + 1, 0, none⟩), .pointer (some ⟨q, 0, none⟩)], undef, undef, undef, undef, undef], defers := [] }) (fun _ _ _ => False)) ?reg ?rest
  case reg =>
   have h9 := callsIn_wide (n := 3) (P := Tryz.prog).2 (HO.out A cap w2.drew (at_drewE hcw2 ⟨1, rfl⟩))
   have cB0 : w2.drew.cell? ⟨B, 1, none⟩ = some (.int .i64 (pa r)) := cB1
   gi_region_with (first
    | (refine ⟨trivial, h9.mono ?_⟩; rintro e w4 ⟨A4, cap4, rfl, hat4, hb4⟩; have hb4' := (below_drewN (Below.refl w2.heap.size w2) 1).trans hb4; have cB4 := (hb4.cell (p := ⟨B, 1, none⟩) (by show B < _; exact hs2)).trans cB0)
    | (refine ⟨trivial, (up_in Fence.wide 3 trivial rfl _ _ _ _ _).mono ?_⟩; rintro e w5 ⟨rfl, hw5⟩))
   all_goals exact ⟨A4, cap4, w4.heap.size, w4, rfl, rfl, hb4', hat4, rfl⟩
  case rest =>
   intro e a' W hp
   cases e <;> try exact hp.elim
   obtain ⟨A', cap', q, W0, hq, hW, hbW, hat, rfl⟩ := hp
   have BT : Boxed W q 94 (.slice A' l.length cap') := by rw [hW, hq]; exact (Below.heap_alloc _ _ _ (by simp)).trans (World.alloc_heap_new _ _)
   have BC : Boxed W (q + 1) 3 (.int .i64 (pa r)) := by
    have := World.alloc_heap_new (W0.alloc (.cells #[.slice A' l.length cap'] 94)) (.cells #[.int .i64 (pa r)] 3)
    rw [World.size_alloc, ← hq, ← hW] at this
    exact this
   have hb3 : Below w2.heap.size w2 W := by rw [hW]; exact (hbW.alloc hbW.size _).alloc (by have := hbW.size; simp only [World.size_alloc]; omega) _
   have hsW : W.heap.size = q + 2 := by rw [hW, hq]; simp
   have hatW : At W W.heap.size A' (tvs (srt l)) := by rw [hW]; exact (hat.keep (.alloc (Below.refl _ _) (Nat.le_refl _) _)).keep (.alloc (Below.refl _ _) (Nat.le_refl _) _)
   have BA3 : Boxed W w.heap.size 3 (.int .i64 a) := (hb3.block _ (by omega)).trans BA2
   have BR3 : Boxed W (w.heap.size + 1) 4 (.bool false) := (hb3.block _ (by omega)).trans BR2
   have hbw3 : Below w.heap.size w W := hb2.trans (hb3.mono hb2.size)
   have hsz3 := hb3.size
   have hseq : SeqQ Fence.wide 3 Tryz.prog 135 #[.pointer (some ⟨q + 1, 0, none⟩), .pointer (some ⟨q, 0, none⟩)] upArr (Below W.heap.size) (fun A B => Below A.heap.size A B) (fun s => s <+: chn l (l.length + 1) (pa r)) (fun ys _ => ys = chn l (l.length + 1) (pa r)) (fun pre _ => pre <+: chn l (l.length + 1) (pa r)) (l.length + 1) W := by
    have := up_stops 3 (by decide) (q + 1) q W.heap.size A' cap' (srt l) (pa r) (by rw [srt_len]; exact hl) (srt_asc l) W (Nat.le_refl _) (by omega) (by omega) BC.cell (by rw [srt_len]; exact BT.cell) hatW
    rw [srt_len, chn_srt] at this
    exact this
   clear hW hq hat hbW BA2 BR2 BW2 hcw2 hb2 cr fr cB1 hb3 hatW BC BT
   obtain ⟨hab, hQQ⟩ : (abvB l a b = (chn l (l.length + 1) (pa r)).any fun x => x.1 == a) ∧ True := ⟨by
    obtain ⟨s, hs⟩ : ∃ s, fnd l b = some s := by
     cases h : fnd l b with
     | none => have := HQ.out; rw [h] at this; cases this
     | some s => exact ⟨s, rfl⟩
    have hrs := HR.out
    unfold abvB parB parV
    rw [hs] at hrs ⊢
    simp only [Option.getD_some] at hrs
    subst hrs
    rfl, trivial⟩
   have HAB := Lib.hid hab
   clear hab hQQ
   gi_wp2_with fail
   refine rangeQ rfl (by decide) (gf := 135) (lb := #[.pointer (some ⟨q + 1, 0, none⟩), .pointer (some ⟨q, 0, none⟩)]) rfl trivial (enters_of Tryz.func135 (by kernel_rfl) rfl)
    hseq belowK_t (belowK_b (Nat.le_refl _)) (Below.refl _ _) (fun _ => rfl)
    (fun A B hab k o hk hko ho => (hab.block k (Array.getElem?_eq_some_iff.1 hko).1).trans hko)
    (ownFrom_pure _ _) (ownFrom_pure _ _)
    (fun pre W' => ((∀ x ∈ pre, x.1 ≠ a) ∧ Boxed W' w.heap.size 3 (.int .i64 a)) ∧ Boxed W' (w.heap.size + 1) 4 (.bool false) ∧ Below w.heap.size w W')
    (fun c pre W' => ((c = .ret ∧ ∃ x ∈ pre, x.1 = a) ∧ Boxed W' (w.heap.size + 1) 4 (.bool true)) ∧ Below w.heap.size w W')
    (OwnFrom.and (OwnFrom.and (ownFrom_pure _ _) ownFrom_box) (OwnFrom.and ownFrom_box (ownFrom_below (Nat.le_refl _) (by omega))))
    (fun c => OwnFrom.and (OwnFrom.and (ownFrom_pure _ _) ownFrom_box) (ownFrom_below (Nat.le_refl _) (by omega)))
    (fun s A B hs hab => ⟨⟨hs.1.1, (hab.block _ hs.1.2.lt).trans hs.1.2⟩, (hab.block _ hs.2.1.lt).trans hs.2.1, hs.2.2.trans (hab.mono hs.2.2.size)⟩)
    (fun c s A B hs hab => ⟨⟨hs.1.1, (hab.block _ hs.1.2.lt).trans hs.1.2⟩, hs.2.trans (hab.mono hs.2.size)⟩)
    ⟨⟨fun x hx => by simp at hx, BA3⟩, BR3, hbw3⟩
    (fun x => { tmps := #[.slice A l.length cap, .int .i64 a, .int .i64 b, undef, .pointer (some ⟨w.heap.size, 0, none⟩), undef, .pointer (some ⟨w.heap.size + 1, 0, none⟩), .pointer (some ⟨B, 0, none⟩), .bool true, .int .i64 x.1,
    .tuple #[.agg #[.int .i64 (ch r), .int .i64 (pa r), .string (ba (nm r)), .float .f64 (rk r)], .bool true], .slice A l.length cap, .int .i64 b, .tuple #[.agg #[.int .i64 (ch r), .int .i64 (pa r), .string (ba (nm r)), .float .f64 (rk r)], .bool true],
    .agg #[.int .i64 (ch r), .int .i64 (pa r), .string (ba (nm r)), .float .f64 (rk r)], .bool true, .bool true, .bool false, .slice A l.length cap, .slice A' l.length cap', .pointer (some ⟨B, 1, none⟩), .int .i64 (pa r),
    .func (.func 135) #[] #[.pointer (some ⟨q + 1, 0, none⟩), .pointer (some ⟨q, 0, none⟩)], .int .i64 x.1, .bool x.2, undef, undef, undef], defers := [] }) ?assign ?body ?done ?stop
   case assign =>
    intro lp x W K hK
    unfold upArr
    gi_wp2
    exact hK
   case body =>
    rintro lp pre x W' - ⟨⟨hno, hA⟩, hB', hbel⟩ hlt
    have ca := hA.cell
    have cr := hB'.cell
    have fr := hB'.frozen
    by_cases hx : x.1 = a
    ·have hxx : (x.1 == a) = true := by simpa using hx
     gi_wp2_with fail
     exact ⟨(KeepsOthers.setCell _ _ _).from _, ⟨⟨rfl, x, by simp, hx⟩, is_set (show Is W' _ _ [_] from hB') 0 _⟩, hbel.setCell (by simp) _⟩
    ·have hxx : (x.1 == a) = false := by simpa using hx
     gi_wp2_with fail
     exact ⟨KeepsFrom.refl _ _, Below.refl _ _, ⟨fun y hy => by
      rcases List.mem_append.1 hy with h | h
      ·exact hno y h
      ·rw [List.mem_singleton.1 h]; exact hx, hA⟩, hB', hbel⟩
   case done =>
    rintro D ys W' hD hS ⟨⟨hno, hA⟩, hB', hbel⟩ hK
    have cr := hB'.cell
    have fr := hB'.frozen
    gi_wp2_with fail
    have hB2 : Boxed (W'.setCell ⟨w.heap.size + 1, 0, none⟩ (.bool false)) (w.heap.size + 1) 4 (.bool false) := is_set (show Is W' _ _ [_] from hB') 0 _
    have hK2 := (Below.heap_setCell W' ⟨w.heap.size + 1, 0, none⟩ (.bool false) D (by show D ≠ w.heap.size + 1; omega)).trans hK
    have hb2 : Below w.heap.size w (W'.setCell ⟨w.heap.size + 1, 0, none⟩ (.bool false)) := hbel.setCell (by simp) _
    refine postM_one (v := .bool false) hK2 rfl (fun w' hw' => ?_) (fun w' hw' => ⟨?_, ?_⟩)
    ·have hc : w'.cell? ⟨w.heap.size + 1, 0, none⟩ = some (.bool false) := Boxed.cell (by rw [hw']; exact (World.putObj_heap_other (by omega)).trans hB2)
     simp [results, Tryz.f34, go_sem, hc]
    ·rw [HAB.out, ← hS, List.any_eq_false.2 (fun y hy => by simpa using hno y hy)]
    ·rw [hw']; exact hb2.trans (belowK_b (w := w) (Nat.le_refl _) _ D _ _ (by omega) hK2 rfl rfl)
   case stop =>
    rintro D c pre W' hD hS ⟨⟨⟨rfl, x, hx, hxa⟩, hB'⟩, hbel⟩ hK
    gi_wp2_with fail
    refine postM_one (v := .bool true) hK rfl (fun w' hw' => ?_) (fun w' hw' => ⟨?_, ?_⟩)
    ·have hc : w'.cell? ⟨w.heap.size + 1, 0, none⟩ = some (.bool true) := Boxed.cell (by rw [hw']; exact (World.putObj_heap_other (by omega)).trans hB')
     simp [results, Tryz.f34, go_sem, hc]
    ·rw [HAB.out, List.any_eq_true.2 ⟨x, hS.subset hx, by simpa using hxa⟩]
    ·rw [hw']; exact hbel.trans (belowK_b (w := w) (Nat.le_refl _) _ D _ _ (by omega) hK rfl rfl)
theorem above_c (A : Option Addr) (cap : Nat) (l : List Rw) (a b : Int) (hl : l.length ≤ 100000) (ho : OrdOk l) (w : World) (hc : At w w.heap.size A (tvs l)) :
  Calls Tryz.prog 34 #[.slice A l.length cap, .int .i64 a, .int .i64 b] w fun e W' => e = .returned (.bool (abvB l a b)) ∧ Below w.heap.size w W' :=
 (callsIn_wide (n := 4)).1 (above_in A cap l a b hl ho w hc)
end Go.Proofs.YthhckdjagnlgpaaGreat
end
