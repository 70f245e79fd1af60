/-
 The way up from a node: the program's rows.up.
-/
import Derived.Test.YtkobmnbjeppnaaaGreatRa
import Derived.Test.YtkobmnbjeppnaaaGreatTu
import Derived.Sort.QuietIn
import Derived.Sort.LoopGhostIn
namespace Go.Proofs.YtkobmnbjeppnaaaGreat
open Go.RowKit Go.IntWalk
open Fl
set_option maxRecDepth 100000
attribute [local go_sem] Oper.semAt_some
/-- the nodes from c up, and of each whether it has no row; at most n -/
def chn (l : List Rw) : Nat → Int → List (Int × Bool)
 | 0, _ => []
 | n + 1, c => (c, !parB l c) :: (if parB l c then chn l n (parV l c) else [])
theorem chn_len (l : List Rw) : ∀ (n : Nat) (c : Int), (chn l n c).length ≤ n
 | 0, _ => Nat.le_refl _
 | n + 1, c => by
  unfold chn
  split
  ·have := chn_len l n (parV l c); simp; omega
  ·simp
def upArr (x : Int × Bool) : Array Value := #[.int .i64 x.1, .bool x.2]
set_option maxHeartbeats 4000000 in
theorem up1_in (m : Nat) (hm : 1 ≤ m) (lp Bc Bt : Nat) (A : Option Addr) (cap : Nat) (l : List Rw) (c : Int) (hl : l.length ≤ 100000) (hs : ascB l = true) (J Jx : List (Int × Bool) → World → Prop) (Kp : World → World → Prop)
  (hJ : ∀ s A B, J s A → Below A.heap.size A B → J s B)
  (hY : ∀ pre x W, pre ++ [x] <+: chn l (l.length + 1) c → J pre W → pre.length < l.length + 1 → YieldAt Fence.wide (m - 1) Tryz.prog lp (upArr x) W fun e W' =>
   (e = .returned (.bool true) ∧ J (pre ++ [x]) W' ∧ Kp W W') ∨ (e = .returned (.bool false) ∧ Jx (pre ++ [x]) W'))
  (W : World) (hK1 : ∀ X Y Z : World, Kp X Y → Kp Y Z → Kp X Z) (hK2 : ∀ X Y, Kp W X → Below X.heap.size X Y → Kp X Y) (hK0 : Kp W W) (hK3 : ∀ X, Kp W X → X.cell? ⟨Bt, 0, none⟩ = some (.slice A l.length cap) ∧ At X X.heap.size A (tvs l)) (hcc : W.cell? ⟨Bc, 0, none⟩ = some (.int .i64 c)) (h0 : J [] W) :
  CallsIn Fence.wide m Tryz.prog 68 #[.func (.yield lp) #[] #[], .pointer (some ⟨Bc, 0, none⟩), .pointer (some ⟨Bt, 0, none⟩)] W fun e W' => (∃ v, e = .returned v) ∧
   ((∃ ys, ys = chn l (l.length + 1) c ∧ J ys W') ∨ ∃ pre, pre <+: chn l (l.length + 1) c ∧ Jx pre W') := by
 have hY' := fun pre (v : Int) (b : Bool) => hY pre (v, b)
 unfold upArr at hY'
 dsimp only at hY'
 have HY' := Lib.hid hY'
 have HK2 := Lib.hid hK2
 have HK3 := Lib.hid hK3
 have HK0 := Lib.hid hK0
 have HK1 := Lib.hid hK1
 have HS := Lib.hid hs
 have HJ := Lib.hid hJ
 clear hY hY' hs hJ hK1 hK2 hK3 hK0
 have hw0 : IntKind.i64.wrap ((l.length : Int) + 1) = (l.length : Int) + 1 := IntWalk.i64_in _ (by omega)
 refine callsIn_of_wp Tryz.func68 rfl trivial ?_ rfl
 simp only [Tryz.ntmps68, List.size_toArray, List.length_cons, List.length_nil, Nat.reduceAdd, Nat.reduceSub, Array.replicate_succ, Array.replicate_zero, List.push_toArray, List.append_toArray, List.nil_append, List.cons_append]
 have hct := (HK3.out _ HK0.out).1
 gi_wp2
 clear hct
 gi_loopw [4, 11] (fun nd i wr => ∃ (k : Nat) (cur : Int) (pre : List (Int × Bool)), i = .int .i64 (k : Int) ∧ nd = .int .i64 cur ∧ pre.length = k ∧ k ≤ l.length + 1 ∧ pre ++ chn l (l.length + 1 - k) cur = chn l (l.length + 1) c ∧ J pre wr ∧ Kp W wr)
  (fun _ i _ => l.length + 1 - (intOf i).toNat)
 case atStart => exact ⟨0, c, [], rfl, rfl, rfl, by omega, rfl, h0, HK0.out⟩
 case round =>
  clear hcc h0
  obtain ⟨k, cur, pre, rfl, rfl, hpl, hkl, heq, hJs, hbw⟩ := hrel
  have HE := Lib.hid heq
  have HPL := Lib.hid hpl
  have HBW := Lib.hid hbw
  have HJS := Lib.hid hJs
  clear heq hpl hbw hJs
  by_cases hlt : k < l.length + 1
  ·obtain ⟨j, hj⟩ : ∃ j, l.length + 1 - k = j + 1 := ⟨l.length - k, by omega⟩
   have HJ2 := Lib.hid hj
   have hct := (HK3.out _ HBW.out).1
   have hlt2 : ((k : Nat) : Int) < (l.length : Int) + 1 := by omega
   clear hj
   gi_wp2_with fail
   refine ⟨trivial, (callsIn_wide.2 (parent_c A cap l cur hl HS.out _ (HK3.out _ HBW.out).2)).mono ?_⟩
   rintro e w1 ⟨rfl, hb1⟩
   have hJ1 := HJ.out _ _ _ HJS.out hb1
   have hbw1 := HK1.out _ _ _ HBW.out (HK2.out _ _ HBW.out hb1)
   have HBW1 := Lib.hid hbw1
   have HB1 := Lib.hid hb1
   have HJ1 := Lib.hid hJ1
   clear hb1 hJ1 hbw1
   obtain ⟨p, hp⟩ : ∃ p, p = parV l cur := ⟨_, rfl⟩
   have HP := Lib.hid hp
   rw [← hp]
   clear hp
   have hch : chn l (l.length + 1 - k) cur = (cur, !parB l cur) :: (if parB l cur then chn l (l.length + 1 - (k + 1)) p else []) := by
    rw [HJ2.out, chn, HP.out, show l.length + 1 - (k + 1) = j by have := HJ2.out; omega]
   cases hbq : parB l cur with
   | true =>
    rw [hbq] at hch
    have HC := Lib.hid hch
    have HBQ := Lib.hid hbq
    clear hch hbq
    obtain ⟨fn, tmps, assign, body, hy, hR⟩ := HY'.out pre cur false w1 ⟨chn l (l.length + 1 - (k + 1)) p, by rw [List.append_assoc, ← HE.out, HC.out]; rfl⟩ HJ1.out (by rw [HPL.out]; exact hlt)
    gi_wp2_with fail
    refine hR.mono ?_
    rintro e w3 (⟨rfl, hJ3, hk3⟩ | ⟨rfl, hJx3⟩)
    ·have HKk := Lib.hid hk3
     clear hk3 hy hR
     gi_wp2_with fail
     go_roundw
     case rel => exact ⟨k + 1, p, pre ++ [(cur, false)], by simp, rfl, by simp [HPL.out], by omega, by rw [List.append_assoc, ← HE.out, HC.out]; rfl, hJ3, HK1.out _ _ _ HBW1.out HKk.out⟩
     case measure => simp [intOf]; omega
    ·gi_wp2_with fail
     refine bodyPost_ret (results_none rfl _ _ _) rfl ?_
     exact ⟨⟨_, rfl⟩, .inr ⟨_, ⟨chn l (l.length + 1 - (k + 1)) p, by rw [List.append_assoc, ← HE.out, HC.out]; rfl⟩, hJx3⟩⟩
   | false =>
    rw [hbq] at hch
    have HC := Lib.hid hch
    have HBQ := Lib.hid hbq
    clear hch hbq
    obtain ⟨fn, tmps, assign, body, hy, hR⟩ := HY'.out pre cur true w1 ⟨[], by rw [List.append_nil, ← HE.out, HC.out]; rfl⟩ HJ1.out (by rw [HPL.out]; exact hlt)
    gi_wp2_with fail
    refine hR.mono ?_
    rintro e w3 (⟨rfl, hJ3, hk3⟩ | ⟨rfl, hJx3⟩)
    ·clear hy hR
     gi_wp2_with fail
     refine bodyPost_ret (results_none rfl _ _ _) rfl ?_
     exact ⟨⟨_, rfl⟩, .inl ⟨_, by rw [← HE.out, HC.out]; rfl, hJ3⟩⟩
    ·gi_wp2_with fail
     refine bodyPost_ret (results_none rfl _ _ _) rfl ?_
     exact ⟨⟨_, rfl⟩, .inr ⟨_, ⟨[], by rw [List.append_nil, ← HE.out, HC.out]; rfl⟩, hJx3⟩⟩
  ·obtain rfl : k = l.length + 1 := by omega
   gi_wp2_with fail
   go_end0
   exact ⟨⟨_, rfl⟩, .inl ⟨pre, by rw [← HE.out]; simp [chn], HJS.out⟩⟩
/-- the iterator's contract, at what the caller keeps -/
theorem up_stopsK (m : Nat) (hm : 1 ≤ m) (Bc Bt : Nat) (A : Option Addr) (cap : Nat) (l : List Rw) (c : Int) (hl : l.length ≤ 100000) (hs : ascB l = true) (w : World) (hBc : Bc < w.heap.size) (Kp : World → World → Prop)
  (hK1 : ∀ X Y Z : World, Kp X Y → Kp Y Z → Kp X Z) (hKw : ∀ W, Below w.heap.size w W → Kp w W) (hK2 : ∀ X Y, Kp w X → Below X.heap.size X Y → Kp X Y)
  (hK3 : ∀ X, Kp w X → X.cell? ⟨Bt, 0, none⟩ = some (.slice A l.length cap) ∧ At X X.heap.size A (tvs l)) (hcc : w.cell? ⟨Bc, 0, none⟩ = some (.int .i64 c)) :
  SeqQ Fence.wide m Tryz.prog 68 #[.pointer (some ⟨Bc, 0, none⟩), .pointer (some ⟨Bt, 0, none⟩)] upArr Kp (fun A B => Below A.heap.size A B) (fun s => s <+: chn l (l.length + 1) c) (fun ys _ => ys = chn l (l.length + 1) c) (fun pre _ => pre <+: chn l (l.length + 1) c) (l.length + 1) w :=
 fun lp J Jx W hW hJ _ hY h0 => up1_in m hm lp Bc Bt A cap l c hl hs J Jx Kp hJ hY W hK1 (fun X Y hx => hK2 X Y (hK1 _ _ _ (hKw W hW) hx)) (hK2 W W (hKw W hW) (Below.refl _ _)) (fun X hx => hK3 X (hK1 _ _ _ (hKw W hW) hx))
  ((hW.cell (p := ⟨Bc, 0, none⟩) hBc).trans hcc) h0
theorem up_stops (m : Nat) (hm : 1 ≤ m) (Bc Bt n₀ : Nat) (A : Option Addr) (cap : Nat) (l : List Rw) (c : Int) (hl : l.length ≤ 100000) (hs : ascB l = true) (w : World) (hn₀ : n₀ ≤ w.heap.size) (hBt : Bt < n₀) (hBc : Bc < n₀)
  (hcc : w.cell? ⟨Bc, 0, none⟩ = some (.int .i64 c)) (hct : w.cell? ⟨Bt, 0, none⟩ = some (.slice A l.length cap)) (hat : At w n₀ A (tvs l)) :
  SeqQ Fence.wide m Tryz.prog 68 #[.pointer (some ⟨Bc, 0, none⟩), .pointer (some ⟨Bt, 0, none⟩)] upArr (Below n₀) (fun A B => Below A.heap.size A B) (fun s => s <+: chn l (l.length + 1) c) (fun ys _ => ys = chn l (l.length + 1) c) (fun pre _ => pre <+: chn l (l.length + 1) c) (l.length + 1) w :=
 up_stopsK m hm Bc Bt A cap l c hl hs w (by omega) (Below n₀) (fun _ _ _ h k => h.trans k) (fun W h => h.mono hn₀) (fun X Y hx hy => hy.mono (Nat.le_trans hn₀ hx.size))
  (fun X hx => ⟨(hx.cell (p := ⟨Bt, 0, none⟩) hBt).trans hct, (hat.below hx).mono (Nat.le_trans hn₀ hx.size)⟩) hcc
set_option maxHeartbeats 1000000 in
theorem up_in (F : Fence) (n : Nat) (h : F.fn 49) (hro : F.round = none) (A : Option Addr) (len cap : Nat) (k : Int) (w : World) :
  CallsIn F n Tryz.prog 49 #[.slice A len cap, .int .i64 k] w fun e w' => e = .returned (.func (.func 68) #[] #[.pointer (some ⟨w.heap.size + 1, 0, none⟩), .pointer (some ⟨w.heap.size, 0, none⟩)]) ∧
   w' = (w.alloc (.cells #[.slice A len cap] 63)).alloc (.cells #[.int .i64 k] 3) := by
 refine callsIn_of_wp Tryz.func49 rfl h ?_ hro
 simp only [Tryz.ntmps49, List.size_toArray, List.length_cons, List.length_nil, Nat.reduceAdd, Nat.reduceSub, Array.replicate_succ, Array.replicate_zero, List.push_toArray, List.append_toArray, List.nil_append, List.cons_append]
 gi_wp2
 go_ret
 exact ⟨rfl, rfl⟩
end Go.Proofs.YtkobmnbjeppnaaaGreat
