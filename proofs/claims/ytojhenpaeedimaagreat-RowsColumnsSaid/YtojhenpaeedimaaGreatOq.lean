/-
 caught: what is left by a panic is told as an error; TakeRanks.
 The kinds of chunks as a list; slices.Equal; takeCount.
 slices.Equal at whole numbers.
 Plain mathematics of layer 19: moves put together of columns, with ranks as they were read. No Go.
 The readers of columns, at what they tell; plain facts of how takeMoves ends.
-/
import Derived.Test.YtojhenpaeedimaaGreatOl
import Derived.Test.YtojhenpaeedimaaGreatBl
import Derived.Defers
import Derived.Shelf.Abstract
import Derived.Test.YtojhenpaeedimaaGreatMg
import Derived.Test.YtojhenpaeedimaaGreatOe
import Derived.Test.YtojhenpaeedimaaGreatUg
import Derived.Test.YtojhenpaeedimaaGreatZe
import Derived.Test.YtojhenpaeedimaaGreatZs
import Derived.Test.YtojhenpaeedimaaGreatJk
section
namespace Go.Proofs.YtojhenpaeedimaaGreat
open Go.RowKit Go.IntWalk
open Pk Rf Fl Wd Ol Dl Ru Fg Dt Rl
set_option maxRecDepth 100000
theorem catchF_panic (p : Addr) (x e0 : Int) (older : List PanicEntry) (w : World) (hp : w.cell? p = some (.int .i64 e0)) (hf : w.frozen? p = false) :
  CallsD Tryz.prog 139 #[.pointer (some p)] (.panicking ({ v := .iface 27 (.int .i64 x), recovered := false } :: older)) w fun e u' w' =>
   e = .returned (.tuple #[]) ∧ u' = .panicking ({ v := .iface 27 (.int .i64 x), recovered := true } :: older) ∧ w' = w.setCell p (.int .i64 x) := by
 have hta := assert_errno x
 refine callsD_of_wpS Tryz.func139 rfl fun c₀ cs hu => ?_
 rw [show (#[Value.pointer (some p)] ++ Array.replicate (Tryz.f139.ntmps - #[Value.pointer (some p)].size) undef) = #[Value.pointer (some p), undef, undef, undef, undef, undef, undef, undef, undef, undef] from rfl]
 apply wpS_seq
 apply wpS_region
 simp [wpOpsS, go_sem, recoverD, hu, hta, Exit.thenS]
 apply wpS_seq
 apply wpS_region
 simp [wpOpsS, go_sem, Exit.thenS]
 refine wpS_cond (t := true) rfl ?_
 simp only [if_true]
 apply wpS_region
 simp [wpOpsS, go_sem, hp, hf, bodyPostS, results, Tryz.results139]
theorem catchF_idle (p : Addr) (w : World) :
  CallsD Tryz.prog 139 #[.pointer (some p)] .returning w fun e u' w' => e = .returned (.tuple #[]) ∧ u' = .returning ∧ w' = w := by
 have hta := assert_nil
 refine callsD_of_wpS Tryz.func139 rfl fun c₀ cs hu => ?_
 rw [show (#[Value.pointer (some p)] ++ Array.replicate (Tryz.f139.ntmps - #[Value.pointer (some p)].size) undef) = #[Value.pointer (some p), undef, undef, undef, undef, undef, undef, undef, undef, undef] from rfl]
 apply wpS_seq
 apply wpS_region
 simp [wpOpsS, go_sem, recoverD, hu, hta, Exit.thenS]
 apply wpS_seq
 apply wpS_region
 simp [wpOpsS, go_sem, Exit.thenS]
 refine wpS_cond (t := false) rfl ?_
 simp only [Bool.false_eq_true, if_false]
 refine wpS_of_wp (wp_skip ?_)
 cases c₀
 simp_all [bodyPostS, results, Tryz.results139]
/-- how a list of ranks is told, with an error -/
def RkEnd (r : List Nat × Int) (w : World) (e : Ending) (w' : World) : Prop :=
 Below w.heap.size w w' ∧ ∃ (A : Option Addr) (cap : Nat) (ys : List Nat), e = .returned (.tuple #[.slice A ys.length cap, .int .i64 r.2]) ∧ cbs ys = r.1 ∧ Re.Words ys ∧ At w' w'.heap.size A (fvs ys) ∧ (A = none → cap = 0)
theorem at_far {w : World} {g : Nat} {A : Option Addr} {ys : List Nat} {e0 x : Int} {t : TypeId} (hi : Is w g t [.int .i64 e0]) (h : At w w.heap.size A (fvs ys)) : At (w.setCell ⟨g, 0, none⟩ (.int .i64 x)) (w.setCell ⟨g, 0, none⟩ (.int .i64 x)).heap.size A (fvs ys) := fun i v hv => by
 obtain ⟨b, o, e, hlt, hcell⟩ := h i v hv
 have hne : b ≠ g := by
  intro hb
  subst hb
  rw [is_cell hi] at hcell
  unfold fvs at hv
  rw [List.getElem?_map] at hv
  cases hy : ys[i]? with
  | none => rw [hy] at hv; cases hv
  | some y =>
   rw [hy] at hv
   injection hv with hv
   subst hv
   cases hq : o + i with
   | zero => rw [hq] at hcell; simp at hcell
   | succ n => rw [hq] at hcell; simp at hcell
 have hc := (World.cell?_setCell_other (w := w) ⟨g, 0, none⟩ ⟨b, o + i, none⟩ (.int .i64 x) (by intro e2; injection e2 with e2 _ _; exact hne e2.symm)).trans hcell
 exact ⟨b, o, e, World.block_lt_of_cell? _ _ hc, hc⟩
theorem caughtF_y (g : Nat) (lb : Array Value) (us : List Nat) (eg : ∀ args w, (callFunc g args).run Tryz.prog w = .ok (.enter g args) w) (w : World) (hc : ∀ W, Below w.heap.size w W → Calls Tryz.prog g lb W (TkEnd (us, 0) W)) :
  Calls Tryz.prog 76 #[.func (.func g) #[] lb] w (RkEnd (us, 0) w) := by
 have hmf := make_func
 obtain ⟨W1, hW1⟩ : ∃ W1, W1 = w.alloc (.cells #[.int .i64 0] 27) := ⟨_, rfl⟩
 have b1 : Below w.heap.size w W1 := by rw [hW1]; exact (Below.refl _ _).alloc (Nat.le_refl _) _
 have hcall := hc W1 b1
 have hi : Is W1 w.heap.size 27 [.int .i64 0] := by rw [hW1]; exact is_new w 27 [.int .i64 0]
 rw [hW1] at hcall
 clear hc
 go_enter_defers Tryz.func76, Tryz.ntmps76
 go_wp2_with (go_at_fn g; refine hcall.mono ?_; rintro e w2 ⟨hb2, he⟩; simp only [ne_eq, not_true_eq_false, if_false] at he; obtain ⟨A, cap, ys, rfl, h1, h2, h3, h4, h5⟩ := he; rw [← hW1] at hb2; have hi2 := is_below hi hb2 (is_lt hi); have c0 := is_cell hi2 0; have c1 := is_free hi2 0)
 refine leaves_cons (f := 139) (args := #[.pointer (some ⟨w.heap.size, 0, none⟩)]) (by simp) (by simp [go_sem]) ?_
 refine (catchF_idle _ _).mono ?_
 rintro e u' w'' ⟨rfl, rfl, rfl⟩
 have hi3 := is_set hi2 0 (.int .i64 0)
 have hres : (w2.setCell ⟨w.heap.size, 0, none⟩ (.int .i64 0)).cell? ⟨w.heap.size, 0, none⟩ = some (.int .i64 0) := is_cell hi3 0
 refine ⟨.tuple #[.slice A ys.length cap, .int .i64 0], by simp [results, Tryz.results76, go_sem, hres], ?_⟩
 refine ⟨(b1.trans (hb2.mono b1.size)).setCell (p := ⟨w.heap.size, 0, none⟩) (Nat.le_refl _) _, A, cap, ys, rfl, h1, h2, at_far hi2 h3, h5⟩
theorem caughtF_n (g : Nat) (lb : Array Value) (r : List Nat × Int) (hr : r.2 ≠ 0) (hr1 : r.1 = []) (eg : ∀ args w, (callFunc g args).run Tryz.prog w = .ok (.enter g args) w) (w : World) (hc : ∀ W, Below w.heap.size w W → Calls Tryz.prog g lb W (TkEnd r W)) :
  Calls Tryz.prog 76 #[.func (.func g) #[] lb] w (RkEnd r w) := by
 have hmf := make_func
 obtain ⟨x, hx⟩ : ∃ x, r.2 = x := ⟨_, rfl⟩
 obtain ⟨W1, hW1⟩ : ∃ W1, W1 = w.alloc (.cells #[.int .i64 0] 27) := ⟨_, rfl⟩
 have b1 : Below w.heap.size w W1 := by rw [hW1]; exact (Below.refl _ _).alloc (Nat.le_refl _) _
 have hcall := (hc W1 b1).mono (R' := fun e w' => e = Pn x ∧ Below W1.heap.size W1 w') (fun e w' h => by
  obtain ⟨h1, h2⟩ := h
  rw [if_pos hr, hx] at h2
  exact ⟨h2, h1⟩)
 have hi : Is W1 w.heap.size 27 [.int .i64 0] := by rw [hW1]; exact is_new w 27 [.int .i64 0]
 rw [hW1] at hcall
 clear hc
 go_enter_defers Tryz.func76, Tryz.ntmps76
 go_wp2_with (go_at_fn g; refine hcall.mono ?_; rintro e w2 ⟨rfl, hb2⟩; rw [← hW1] at hb2; have hi2 := is_below hi hb2 (is_lt hi); have c0 := is_cell hi2 0; have c1 := is_free hi2 0)
 refine leaves_cons (f := 139) (args := #[.pointer (some ⟨w.heap.size, 0, none⟩)]) (by simp) (by simp [go_sem]) ?_
 refine (catchF_panic _ x 0 [] _ c0 c1).mono ?_
 rintro e u' w'' ⟨rfl, rfl, rfl⟩
 have hi3 := is_set hi2 0 (.int .i64 x)
 have hres : (w2.setCell ⟨w.heap.size, 0, none⟩ (.int .i64 x)).cell? ⟨w.heap.size, 0, none⟩ = some (.int .i64 x) := is_cell hi3 0
 refine ⟨.tuple #[.slice none 0 0, .int .i64 x], by simp [results, Tryz.results76, go_sem, hres], ?_⟩
 refine ⟨(b1.trans (hb2.mono b1.size)).setCell (p := ⟨w.heap.size, 0, none⟩) (Nat.le_refl _) _, none, 0, [], by rw [hx]; rfl, by rw [hr1]; rfl, fun u hu => by simp at hu, At.nil _ _ _, fun _ => rfl⟩
set_option maxHeartbeats 4000000 in
theorem takeRanks_c (s : List UInt8) (n : Int) (hs : s.length ≤ 90000) (hn1 : -9223372036854775808 ≤ n) (hn2 : n ≤ 9223372036854775807) (w : World) :
  Calls Tryz.prog 23 #[.string (ba s), .int .i64 n] w (RkEnd (takeU s n) w) := by
 obtain ⟨W1, hW1⟩ : ∃ W1, W1 = (w.alloc (.cells #[.string (ba s)] 9)).alloc (.cells #[.int .i64 n] 3) := ⟨_, rfl⟩
 have b1 : Below w.heap.size w W1 := by rw [hW1]; exact ((Below.refl _ _).alloc (Nat.le_refl _) _).alloc (by rw [size_alloc]; omega) _
 have i0 : Is W1 w.heap.size 9 [.string (ba s)] := by rw [hW1]; exact is_alloc (is_new w 9 [.string (ba s)]) _
 have i1 : Is W1 (w.heap.size + 1) 3 [.int .i64 n] := by
  rw [hW1]
  have := is_new (w.alloc (.cells #[.string (ba s)] 9)) 3 [.int .i64 n]
  rw [size_alloc] at this
  exact this
 have hclo : ∀ W, Below W1.heap.size W1 W → Calls Tryz.prog 77 #[.pointer (some ⟨w.heap.size, 0, none⟩), .pointer (some ⟨w.heap.size + 1, 0, none⟩)] W (TkEnd (takeU s n) W) := by
  intro W hb
  have c0 : W.cell? ⟨w.heap.size, 0, none⟩ = some (.string (ba s)) := is_cell (is_below i0 hb (is_lt i0)) 0
  have c1 : W.cell? ⟨w.heap.size + 1, 0, none⟩ = some (.int .i64 n) := is_cell (is_below i1 hb (is_lt i1)) 0
  have HT := Lib.hid (tranks_c s n hs hn1 hn2 W)
  by_cases hx : (takeU s n).2 = 0
  ·have HT2 := Lib.hid (HT.out.mono (R' := fun e w' => Below W.heap.size W w' ∧ ∃ (A : Option Addr) (cap : Nat) (ys : List Nat), e = .returned (.slice A ys.length cap) ∧ cbs ys = (takeU s n).1 ∧ Re.Words ys ∧ At w' w'.heap.size A (fvs ys) ∧ ys.length ≤ cap ∧ (A = none → cap = 0)) (fun e w' h => by
    obtain ⟨h1, h2⟩ := h
    rw [if_neg (by simpa using hx)] at h2
    exact ⟨h1, h2⟩))
   go_enter Tryz.func77, Tryz.ntmps77
   go_wp2_with fail
   refine HT2.out.mono ?_
   rintro e w2 ⟨hb2, A, cap, ys, rfl, h1, h2, h3, h4⟩
   go_wp2_with fail
   go_ret
   refine ⟨hb2, ?_⟩
   rw [if_neg (by simpa using hx)]
   exact ⟨A, cap, ys, rfl, h1, h2, h3, h4⟩
  ·have HT2 := Lib.hid (HT.out.mono (R' := fun e w' => e = Pn (takeU s n).2 ∧ Below W.heap.size W w') (fun e w' h => by
    obtain ⟨h1, h2⟩ := h
    rw [if_pos hx] at h2
    exact ⟨h2, h1⟩))
   go_enter Tryz.func77, Tryz.ntmps77
   go_wp2_with fail
   refine HT2.out.mono ?_
   rintro e w2 ⟨rfl, hb2⟩
   go_wp2_with fail
   exact ⟨rfl, tkEnd_no rfl hx hb2⟩
 have eg : ∀ args w, (callFunc 77 args).run Tryz.prog w = .ok (.enter 77 args) w := fun _ _ => rfl
 have hca : Calls Tryz.prog 76 #[.func (.func 77) #[] #[.pointer (some ⟨w.heap.size, 0, none⟩), .pointer (some ⟨w.heap.size + 1, 0, none⟩)]] W1 (RkEnd (takeU s n) W1) := by
  by_cases hx : (takeU s n).2 = 0
  ·obtain ⟨us, hu⟩ : ∃ us, takeU s n = (us, 0) := ⟨(takeU s n).1, Prod.ext rfl hx⟩
   rw [hu] at hclo ⊢
   exact caughtF_y _ _ us eg W1 hclo
  ·exact caughtF_n _ _ _ hx (takeU_none hx) eg W1 hclo
 have HCA := Lib.hid hca
 have HB1 := Lib.hid b1
 have HW := Lib.hid hW1
 have hmf := make_func
 clear hclo hca b1 i0 i1 hW1
 go_enter Tryz.func23, Tryz.ntmps23
 go_wp2_with fail
 rw [← HW.out]
 refine HCA.out.mono ?_
 rintro e w2 ⟨hb2, A, cap, ys, rfl, h1, h2, h3⟩
 go_wp2_with fail
 go_ret2
 exact ⟨HB1.out.trans (hb2.mono HB1.out.size), A, cap, ys, rfl, h1, h2, h3⟩
end Go.Proofs.YtojhenpaeedimaaGreat
end
section
namespace Go.Proofs.YtojhenpaeedimaaGreat
open Go.RowKit Go.IntWalk
open Pk Rf Fl Wd Ol Dl Ru Fg Dt Rl
set_option maxRecDepth 100000
attribute [local go_sem] Oper.semAt_some
theorem cells_K {l : List Ck.Chk} {k : Nat} {m : Ck.Chk} (h : l[k]? = some m) : ivs ((l.take (k + 1)).map fun m => m.1) = ivs ((l.take k).map fun m => m.1) ++ [.int .i64 (m.1)] := by
 rw [List.take_add_one, h]; simp [ivs]
set_option maxHeartbeats 4000000 in
theorem colK_c (A : Option Addr) (cap : Nat) (l : List Ck.Chk) (g : Nat) (hl : l.length ≤ 100000) (eg : ∀ args w, (callFunc g args).run Tryz.prog w = .ok (.enter g args) w) (w : World)
  (hc : At w w.heap.size A (Ck.cvs l)) (hp : ∀ W m, Below w.heap.size w W → m ∈ l → Calls Tryz.prog g #[.agg #[.int .i64 m.1, .string (ba m.2)]] W fun e w' => e = .returned (.int .i64 (m.1)) ∧ Below W.heap.size W w') :
  Calls Tryz.prog 120 #[.slice A l.length cap, .func (.func g) #[] #[]] w fun e w' => ∃ A' cap', e = .returned (.slice A' l.length cap') ∧ (A' = none → cap' = 0) ∧ l.length ≤ cap' ∧ Fresh w.heap.size A' ∧ At w' w'.heap.size A' (ivs (l.map fun m => m.1)) ∧ Below w.heap.size w w' := by
 obtain ⟨i0, hi, hz0, hz1, hz2⟩ := info_parts Tryz.info3
 have HC := Lib.hid hc
 have HP := Lib.hid hp
 have hbx : i0.bytes * l.length ≤ 281474976710656 := by rw [hz2]; omega
 have hmx : l.length ≤ maxLen := by unfold maxLen; omega
 clear hc hp
 go_enter Tryz.func120, Tryz.ntmps120
 go_wp2_with (at_make; refine wpList_make_own _ rfl _ _ 57 rfl w.heap.size 3 i0 (.int .i64 0) 1 Tryz.underlying57 hi hz0 hz1 .i64 .i64 _ l.length rfl rfl rfl hbx hmx (Nat.le_refl _) ?_; intro w1 hown1 hgrow1)
 have hb1 : Below w.heap.size w w1 := (Below.refl _ w).grown hgrow1 (Nat.le_refl _) (fun k e => by cases e)
 clear hbx hmx hgrow1
 go_loopw [5, 13] (fun v i wr => ∃ k : Nat, i = .int .i64 (k : Int) ∧ k ≤ l.length ∧ wr.ownsRow w.heap.size 3 1 v k (ivs ((l.take k).map fun m => m.1)) ∧ Below w.heap.size w wr) (fun _ i _ => l.length - (Go.RowKit.intOf i).toNat)
 case atStart => exact ⟨0, rfl, Nat.zero_le _, hown1, hb1⟩
 case round =>
  clear hown1 hb1
  obtain ⟨k, rfl, hk, hown, hb⟩ := hrel
  obtain ⟨Av, cv, rfl, -, -, -⟩ := own_at hown
  have HO := Lib.hid hown
  have HB := Lib.hid hb
  clear hown hb
  by_cases hlt : k < l.length
  ·obtain ⟨m, hm⟩ := some_at hlt
   have hki : (0 : Int) ≤ (k : Int) := by omega
   have hkl : (k : Int) < (l.length : Int) := by omega
   obtain ⟨b0, o0, rfl, hb0, c0, c1⟩ := Ck.chunk_cells (HC.out.below HB.out) hm
   have HM := Lib.hid hm
   obtain ⟨W2, hW2⟩ : ∃ W2, W2 = wr.alloc (.cells #[.int .i64 m.1, .string (ba m.2)] 53) := ⟨_, rfl⟩
   have b2 : Below wr.heap.size wr W2 := by rw [hW2]; exact (Below.refl _ _).alloc (Nat.le_refl _) _
   have hcall := HP.out W2 m (HB.out.trans (b2.mono HB.out.size)) (mem_at hm)
   have ho2 : W2.ownsRow w.heap.size 3 1 (.slice Av k cv) k (ivs ((l.take k).map fun m => m.1)) := by rw [hW2]; exact HO.out.alloc _
   have HO2 := Lib.hid ho2
   have HB2 := Lib.hid (HB.out.trans (b2.mono HB.out.size))
   rw [hW2] at hcall
   have HCA := Lib.hid hcall
   have HW := Lib.hid hW2
   clear hm b2 hcall ho2 hW2
   go_wp2_with (first
    | (go_at_fn g; refine HCA.out.mono ?_; rintro e w3 ⟨rfl, hb3⟩; rw [← HW.out] at hb3; have ho3 := below_ownI HO2.out hb3; have hb4 := HB2.out.trans (hb3.mono HB2.out.size))
    | (at_builtin; refine wpList_append_own _ rfl _ _ 57 rfl w.heap.size 3 i0 (.int .i64 0) 1 8 Tryz.underlying57 hi hz0 hz1 hz2 rfl (by decide) _ _ _ rfl (ho3.alloc _) ⟨w3.heap.size, 0, none⟩ 1 1 [.int .i64 (m.1)] rfl rfl (cell_one_new _ _ _) (by simp [Value.oneCell']) (by unfold maxLen; omega) (by omega) (by have := hb4.size; simp; omega) ?_; intro v' w5 hown' hgrow _))
   have hb5 : Below w.heap.size w w5 := below_own (hb4.alloc hb4.size _) (by have := hb4.size; simp; omega) (ho3.alloc _) hgrow
   rw [← cells_K HM.out] at hown'
   have HO5 := Lib.hid hown'
   have HB5 := Lib.hid hb5
   clear hown' hgrow hb5 hb4 ho3 hb3
   go_wp2_with fail
   go_roundw
   case rel => exact ⟨k + 1, by go_num, by omega, HO5.out, HB5.out⟩
   case measure => simp only [Go.RowKit.intOf]; omega
  ·obtain rfl : k = l.length := by omega
   have hown := HO.out
   rw [List.take_length] at hown
   obtain ⟨A', cap', e9, ha, hfr, hcp⟩ := own_at hown
   have hno := own_none hown
   injection e9 with e1 e2 e3
   subst e1 e3
   have HA := Lib.hid ha
   have HFR := Lib.hid hfr
   clear hown ha hfr
   go_wp2_with fail
   go_ret
   exact ⟨_, _, rfl, hno, hcp, HFR.out, HA.out, HB.out⟩
theorem kind_w (m : Ck.Chk) (w : World) : Calls Tryz.prog 121 #[.agg #[.int .i64 m.1, .string (ba m.2)]] w fun e w' => e = .returned (.int .i64 m.1) ∧ Below w.heap.size w w' := by
 go_enter Tryz.func121, Tryz.ntmps121
 go_wp2_with fail
 go_ret
 exact ⟨rfl, (Below.refl _ _).alloc (Nat.le_refl _) _⟩
theorem egK : ∀ args w, (callFunc 121 args).run Tryz.prog w = .ok (.enter 121 args) w := fun _ _ => rfl
def CntEnd (d : Int) (n : Nat) (w : World) (e : Ending) (w' : World) : Prop :=
 Below w.heap.size w w' ∧ (if d ≠ 0 then e = Pn d else if 2000 < n then e = Pn 10 else e = .returned (.int .i64 (n : Int)))
set_option maxHeartbeats 4000000 in
theorem tcount_c (s : List UInt8) (_hs : s.length ≤ 1000000) (w : World) :
  Calls Tryz.prog 123 #[.string (ba s)] w (CntEnd (doneV (numS ⟨s, 0⟩)) (numV ⟨s, 0⟩) w) := by
 obtain ⟨s1, hs1⟩ : ∃ s1, numS ⟨s, 0⟩ = s1 := ⟨_, rfl⟩
 obtain ⟨n, hn⟩ : ∃ n, numV ⟨s, 0⟩ = n := ⟨_, rfl⟩
 obtain ⟨d, hd⟩ : ∃ d, doneV s1 = d := ⟨_, rfl⟩
 rw [hs1, hn, hd]
 have HD := Lib.hid hd
 clear hd
 have H1 := Lib.hid hs1
 have HN := Lib.hid hn
 clear hs1 hn
 go_enter Tryz.func123, Tryz.ntmps123
 go_wp2_with fail
 refine (new_c s _).mono ?_
 rintro e w1 ⟨rfl, hr1, hw⟩
 obtain ⟨g, hg⟩ : ∃ g, w.heap.size = g := ⟨_, rfl⟩
 rw [hg] at hr1
 rw [hg]
 have hb1 : Below w.heap.size w w1 := by rw [hw]; exact (Below.refl _ _).alloc (Nat.le_refl _) _
 have HB1 := Lib.hid hb1
 have HG := Lib.hid hg
 clear hw hg hb1
 go_wp2_with fail
 refine (num_m g ⟨s, 0⟩ _ hr1).mono ?_
 rintro e w2 ⟨rfl, hr2, hk2⟩
 rw [H1.out] at hr2
 rw [HN.out]
 have HB2 := Lib.hid (below_only HB1.out hk2 HB1.out.size (Nat.le_of_eq HG.out))
 clear hk2 hr1
 go_wp2_with fail
 refine (done_c g s1 _ hr2).mono ?_
 rintro e w3 ⟨rfl, hw3⟩
 subst hw3
 rw [HD.out]
 by_cases hd0 : d = 0
 ·subst hd0
  go_wp2_with fail
  refine (mustN_y _ _).mono ?_
  rintro e w4 ⟨rfl, hw4⟩
  subst hw4
  by_cases hb : 2000 < n
  ·have hbi : (2000 : Int) < (n : Int) := by omega
   go_wp2_with fail
   refine ⟨rfl, HB2.out, ?_⟩
   rw [if_neg (show ¬ ((0 : Int) ≠ 0) by simp), if_pos hb]
  ·have hbi : ¬ (2000 : Int) < (n : Int) := by omega
   have hwn : IntKind.i64.wrap (n : Int) = (n : Int) := IntWalk.i64_in _ (by omega)
   go_wp2_with fail
   go_ret
   refine ⟨HB2.out, ?_⟩
   rw [if_neg (show ¬ ((0 : Int) ≠ 0) by simp), if_neg hb]; rfl
 ·go_wp2_with fail
  refine (mustN_n _ hd0 _).mono ?_
  rintro e w4 ⟨rfl, hw4⟩
  subst hw4
  go_wp2_with fail
  refine ⟨rfl, HB2.out, ?_⟩
  rw [if_pos hd0]
end Go.Proofs.YtojhenpaeedimaaGreat
end
section
namespace Go.Proofs.YtojhenpaeedimaaGreat
open Go.RowKit Go.IntWalk
open Pk Rf Fl Wd Ol Dl Ru Fg Dt Rl
set_option maxRecDepth 100000
attribute [local go_sem] Oper.semAt_some
set_option maxHeartbeats 4000000 in
theorem eqI_c (A1 A2 : Option Addr) (c1 c2 : Nat) (xs ys : List Int) (hx : xs.length ≤ maxLen) (hy : ys.length ≤ maxLen) (w : World) (h1 : At w w.heap.size A1 (ivs xs)) (h2 : At w w.heap.size A2 (ivs ys)) :
  Calls Tryz.prog 122 #[.slice A1 xs.length c1, .slice A2 ys.length c2] w fun e w' => e = .returned (.bool (decide (xs = ys))) ∧ ∃ q, w' = w.drewN q := by
 unfold maxLen at hx hy
 have H1 := Lib.hid h1
 have H2 := Lib.hid h2
 clear h1 h2
 by_cases hl : xs.length = ys.length
 ·obtain ⟨n, hn⟩ : ∃ n, n = ys.length := ⟨_, rfl⟩
  have hn1 : xs.length = n := by omega
  rw [← hn, hn1]
  rw [hn1] at hx hl
  rw [← hn] at hy hl
  have HN := Lib.hid hn
  have HN1 := Lib.hid hn1
  clear hn hn1
  go_enter Tryz.func122, Tryz.ntmps122
  go_wp2_with fail
  go_loopw [13] (fun i wr => ∃ k : Nat, i = .int .i64 (k : Int) ∧ k ≤ n ∧ xs.take k = ys.take k ∧ ∃ q, wr = w.drewN q) (fun i _ => n - (Go.RowKit.intOf i).toNat)
  case atStart => exact ⟨0, rfl, Nat.zero_le _, rfl, 0, rfl⟩
  case round =>
   obtain ⟨k, rfl, hk, heq, hq⟩ := hrel
   have HQ := Lib.hid hq
   clear hq
   have HEQ := Lib.hid heq
   clear heq
   by_cases hlt : k < n
   ·obtain ⟨x, hxk⟩ := some_at (show k < xs.length by rw [HN1.out]; exact hlt)
    obtain ⟨y, hyk⟩ := some_at (show k < ys.length by rw [← HN.out]; exact hlt)
    obtain ⟨b1, o1, rfl, _, hc1⟩ := (at_drewE H1.out HQ.out) k _ (ivs_at hxk)
    obtain ⟨b2, o2, rfl, _, hc2⟩ := (at_drewE H2.out HQ.out) k _ (ivs_at hyk)
    have HE := Lib.hid (ext_take HEQ.out hxk hyk)
    have HX := Lib.hid hxk
    have HY := Lib.hid hyk
    clear hxk hyk
    by_cases hxy : x = y
    ·have ht : (x != y) = false := by simp [hxy]
     have HT := Lib.hid hxy
     clear hxy
     go_wp2_with fail
     go_quiet (fail)
     go_wp2
     go_roundw
     case rel => exact ⟨k + 1, by go_num, by omega, HE.out.2 HT.out, drewE HQ.out _⟩
     case measure => simp only [Go.RowKit.intOf]; omega
    ·have ht : (x != y) = true := by simpa using hxy
     have HT := Lib.hid hxy
     clear hxy
     go_wp2_with fail
     go_quiet (fail)
     go_wp2
     go_ret
     refine ⟨ret_bool ?_, drewE HQ.out _⟩
     have : ¬ xs = ys := fun e => HT.out (HE.out.1 (by rw [e]))
     simp [this]
   ·obtain rfl : k = n := by omega
    go_wp2_with fail
    go_ret
    refine ⟨ret_bool ?_, HQ.out⟩
    have h := HEQ.out
    rw [List.take_of_length_le (by rw [HN1.out]; exact Nat.le_refl _), List.take_of_length_le (by rw [← HN.out]; exact Nat.le_refl _)] at h
    simp [h]
 ·have HL := Lib.hid hl
  have ht : ((xs.length : Int) != (ys.length : Int)) = true := by simp only [bne_iff_ne, ne_eq]; omega
  clear hl
  go_enter Tryz.func122, Tryz.ntmps122
  go_wp2_with fail
  go_ret
  refine ⟨ret_bool ?_, 0, rfl⟩
  have : ¬ xs = ys := fun e => HL.out (by rw [e])
  simp [this]
end Go.Proofs.YtojhenpaeedimaaGreat
end
section
namespace Go.Proofs.YtojhenpaeedimaaGreat.Ol
open Pk Wd Fl Rf Ck Rl
set_option maxRecDepth 100000
/-- moves of columns, their ranks as they stand -/
def zipY : List Int → List Nat → List Int → List Int → List (List UInt8) → List Nat → List Mv
 | c :: cs, r :: rs, p :: ps, k :: ks, n :: ns, y :: ys => (c, i64 r, k, p, n, y) :: zipY cs rs ps ks ns ys
 | _, _, _, _, _, _ => []
theorem zipY_len : ∀ (n : Nat) {cs : List Int} {rs : List Nat} {ps ks : List Int} {ns : List (List UInt8)} {ys : List Nat}, cs.length = n → rs.length = n → ps.length = n → ks.length = n → ns.length = n → ys.length = n → (zipY cs rs ps ks ns ys).length = n
 | 0, cs, rs, ps, ks, ns, ys, h1, _, _, _, _, _ => by
  have a1 := List.eq_nil_of_length_eq_zero h1
  subst a1
  rfl
 | n + 1, c :: cs, r :: rs, p :: ps, k :: ks, x :: ns, y :: ys, h1, h2, h3, h4, h5, h6 => by
  have ih := zipY_len n (cs := cs) (rs := rs) (ps := ps) (ks := ks) (ns := ns) (ys := ys) (by simpa using h1) (by simpa using h2) (by simpa using h3) (by simpa using h4) (by simpa using h5) (by simpa using h6)
  unfold zipY
  rw [List.length_cons, ih]
 | n + 1, [], _, _, _, _, _, h, _, _, _, _, _ => by simp at h
 | n + 1, _ :: _, [], _, _, _, _, _, h, _, _, _, _ => by simp at h
 | n + 1, _ :: _, _ :: _, [], _, _, _, _, _, h, _, _, _ => by simp at h
 | n + 1, _ :: _, _ :: _, _ :: _, [], _, _, _, _, _, h, _, _ => by simp at h
 | n + 1, _ :: _, _ :: _, _ :: _, _ :: _, [], _, _, _, _, _, h, _ => by simp at h
 | n + 1, _ :: _, _ :: _, _ :: _, _ :: _, _ :: _, [], _, _, _, _, _, h => by simp at h
theorem zipY_at : ∀ {cs : List Int} {rs : List Nat} {ps ks : List Int} {ns : List (List UInt8)} {ys : List Nat} {i : Nat} {c : Int} {r : Nat} {p k : Int} {x : List UInt8} {y : Nat},
  cs[i]? = some c → rs[i]? = some r → ps[i]? = some p → ks[i]? = some k → ns[i]? = some x → ys[i]? = some y → (zipY cs rs ps ks ns ys)[i]? = some (c, i64 r, k, p, x, y)
 | c :: cs, r :: rs, p :: ps, k :: ks, x :: ns, y :: ys, 0, _, _, _, _, _, _, h1, h2, h3, h4, h5, h6 => by
  simp at h1 h2 h3 h4 h5 h6
  subst h1 h2 h3 h4 h5 h6
  rfl
 | c :: cs, r :: rs, p :: ps, k :: ks, x :: ns, y :: ys, i + 1, _, _, _, _, _, _, h1, h2, h3, h4, h5, h6 => by
  simp only [List.getElem?_cons_succ] at h1 h2 h3 h4 h5 h6
  unfold zipY
  rw [List.getElem?_cons_succ]
  exact zipY_at h1 h2 h3 h4 h5 h6
 | [], _, _, _, _, _, _, _, _, _, _, _, _, h, _, _, _, _, _ => by simp at h
 | _ :: _, [], _, _, _, _, _, _, _, _, _, _, _, _, h, _, _, _, _ => by simp at h
 | _ :: _, _ :: _, [], _, _, _, _, _, _, _, _, _, _, _, _, h, _, _, _ => by simp at h
 | _ :: _, _ :: _, _ :: _, [], _, _, _, _, _, _, _, _, _, _, _, _, h, _, _ => by simp at h
 | _ :: _, _ :: _, _ :: _, _ :: _, [], _, _, _, _, _, _, _, _, _, _, _, _, h, _ => by simp at h
 | _ :: _, _ :: _, _ :: _, _ :: _, _ :: _, [], _, _, _, _, _, _, _, _, _, _, _, _, h => by simp at h
theorem zipY_sim : ∀ (cs : List Int) (rs : List Nat) (ps ks : List Int) (ns : List (List UInt8)) (ys : List Nat), (∀ y ∈ ys, y < 18446744073709551616) → SimL (zipY cs rs ps ks ns ys) (zipO cs rs ps ks ns (cbs ys))
 | c :: cs, r :: rs, p :: ps, k :: ks, x :: ns, y :: ys, h => by
  have ih := zipY_sim cs rs ps ks ns ys fun u hu => h u (List.mem_cons_of_mem _ hu)
  have hy := h y (List.mem_cons_self ..)
  unfold zipY
  show SimL _ (zipO (c :: cs) (r :: rs) (p :: ps) (k :: ks) (x :: ns) (cb y :: cbs ys))
  unfold zipO
  refine ⟨⟨rfl, rfl, rfl, rfl, rfl, hy, ?_⟩, ih⟩
  show cb y = cb (fl (cb y))
  rw [cb_fl_cn (cb_lt y hy) (cn_cb hy)]
 | [], _, _, _, _, _, _ => by unfold zipY zipO; trivial
 | _ :: _, [], _, _, _, _, _ => by unfold zipY zipO; trivial
 | _ :: _, _ :: _, [], _, _, _, _ => by unfold zipY zipO; trivial
 | _ :: _, _ :: _, _ :: _, [], _, _, _ => by unfold zipY zipO; trivial
 | _ :: _, _ :: _, _ :: _, _ :: _, [], _, _ => by unfold zipY zipO; trivial
 | _ :: _, _ :: _, _ :: _, _ :: _, _ :: _, [], _ => by
  show SimL (zipY _ _ _ _ _ []) (zipO _ _ _ _ _ [])
  unfold zipY zipO; trivial
theorem sim_oneM {a b : Mv} (h : SimM a b) : oneM a = oneM b := by
 obtain ⟨h1, h2, h3, h4, h5, -, -⟩ := h
 unfold oneM oneP
 rw [h1, h2, h3, h4, h5]
theorem sim_all : ∀ {l m : List Mv}, SimL l m → l.all oneM = m.all oneM
 | [], [], _ => rfl
 | a :: l, b :: m, h => by
  rw [List.all_cons, List.all_cons, sim_oneM h.1, sim_all h.2]
 | [], _ :: _, h => by cases h
 | _ :: _, [], h => by cases h
theorem sim_res : ∀ {l m : List Mv} (p q : Option Mv), (∀ a, p = some a → ∃ b, q = some b ∧ mc a = mc b ∧ mr a = mr b) → (p = none → q = none) → SimL l m → resM p l = resM q m
 | [], [], _, _, _, _, _ => by simp [resM]
 | a :: l, b :: m, p, q, hs, hn, h => by
  have ih := sim_res (l := l) (m := m) (some a) (some b) (fun x hx => by injection hx with hx; subst hx; exact ⟨b, rfl, h.1.1, h.1.2.1⟩) (fun e => by cases e) h.2
  unfold resM
  rw [ih, sim_oneM h.1]
  congr 2
  cases p with
  | none => rw [hn rfl]
  | some x =>
   obtain ⟨y, hy, h1, h2⟩ := hs x rfl
   subst hy
   simp only
   have e : bm x a = bm y b := by
    have k : ∀ {u v : Bool}, (u = true ↔ v = true) → u = v := fun {u v} h => by cases u <;> cases v <;> simp_all
    refine k ?_
    rw [bm_iff, bm_iff]
    unfold MLt
    rw [h1, h2, h.1.1, h.1.2.1]
   rw [e]
 | [], _ :: _, _, _, _, _, h => by cases h
 | _ :: _, [], _, _, _, _, h => by cases h
theorem sim_may {l m : List Mv} (h : SimL l m) : mayM l = mayM m := by
 unfold mayM mayL
 rw [sim_res none none (fun a ha => by cases ha) (fun _ => rfl) h, SimL.len h]
theorem zipY_nm : ∀ (cs : List Int) (rs : List Nat) (ps ks : List Int) (ns : List (List UInt8)) (ys : List Nat), (∀ x ∈ ns, x.length ≤ 64) → ∀ m ∈ zipY cs rs ps ks ns ys, (nm (mw m)).length ≤ 64
 | c :: cs, r :: rs, p :: ps, k :: ks, x :: ns, y :: ys, h, m, hm => by
  unfold zipY at hm
  rcases List.mem_cons.1 hm with rfl | hm
  ·exact h x (List.mem_cons_self ..)
  ·exact zipY_nm cs rs ps ks ns ys (fun u hu => h u (List.mem_cons_of_mem _ hu)) m hm
 | [], _, _, _, _, _, _, m, hm => by simp [zipY] at hm
 | _ :: _, [], _, _, _, _, _, m, hm => by simp [zipY] at hm
 | _ :: _, _ :: _, [], _, _, _, _, m, hm => by simp [zipY] at hm
 | _ :: _, _ :: _, _ :: _, [], _, _, _, m, hm => by simp [zipY] at hm
 | _ :: _, _ :: _, _ :: _, _ :: _, [], _, _, m, hm => by simp [zipY] at hm
 | _ :: _, _ :: _, _ :: _, _ :: _, _ :: _, [], _, m, hm => by simp [zipY] at hm
theorem kinds_five : ∀ {l : List Chk}, (l.map fun m => m.1) = [4, 5, 6, 7, 8] → ∃ b0 b1 b2 b3 b4, l = [(4, b0), (5, b1), (6, b2), (7, b3), (8, b4)]
 | [(k0, b0), (k1, b1), (k2, b2), (k3, b3), (k4, b4)], h => by
  simp only [List.map_cons, List.map_nil, List.cons.injEq, and_true] at h
  obtain ⟨h0, h1, h2, h3, h4⟩ := h
  subst h0 h1 h2 h3 h4
  exact ⟨b0, b1, b2, b3, b4, rfl⟩
 | [], h => by simp at h
 | [_], h => by simp at h
 | [_, _], h => by simp at h
 | [_, _, _], h => by simp at h
 | [_, _, _, _], h => by simp at h
 | _ :: _ :: _ :: _ :: _ :: _ :: _, h => by simp at h
theorem decO_kinds {l : List Chk} (h : ¬ (l.map fun m => m.1) = [4, 5, 6, 7, 8]) : decO l = ([], 5) := by
 unfold decO
 split
 ·rename_i k0 b0 k1 b1 k2 b2 k3 b3 k4 b4
  rw [if_neg]
  rintro ⟨h0, h1, h2, h3, h4⟩
  subst h0 h1 h2 h3 h4
  exact h rfl
 ·rfl
end Go.Proofs.YtojhenpaeedimaaGreat.Ol
end
section
namespace Go.Proofs.YtojhenpaeedimaaGreat
open Go.RowKit Go.IntWalk
open Pk Rf Fl Wd Ol Dl Ru Fg Dt Rl
set_option maxRecDepth 100000
theorem vdec_k {l : List UInt8} {n : Int} {ys : List Int} {x : Int} {k : Nat} (h : decV l n = (ys, x)) (hk : ys.length = k) (hn1 : -9223372036854775808 ≤ n) (hn2 : n ≤ 9223372036854775807) (hl : l.length ≤ 100000) (w : World) :
  Calls Tryz.prog 126 #[.string (ba l), .int .i64 n] w fun e w' => ∃ A cap, e = .returned (.tuple #[.slice A k cap, .int .i64 x]) ∧ At w' w'.heap.size A (ivs ys) ∧ Below w.heap.size w w' := by
 subst hk
 refine (Dl.decode_c l n hn1 hn2 hl w).mono ?_
 rintro e w' ⟨A, cap, rfl, -, -, ha, hb⟩
 rw [h] at ha ⊢
 exact ⟨A, cap, rfl, ha, hb⟩
theorem udec_k {l : List UInt8} {n : Int} {ys : List Nat} {x : Int} {k : Nat} (h : decU l n = (ys, x)) (hk : ys.length = k) (hn1 : -9223372036854775808 ≤ n) (hn2 : n ≤ 9223372036854775807) (hl : l.length ≤ 100000) (w : World) :
  Calls Tryz.prog 128 #[.string (ba l), .int .i64 n] w fun e w' => ∃ A cap, e = .returned (.tuple #[.slice A k cap, .int .i64 x]) ∧ At w' w'.heap.size A (uvs ys) ∧ Below w.heap.size w w' := by
 subst hk
 refine (Ru.udecode_c l n hn1 hn2 hl w).mono ?_
 rintro e w' ⟨A, cap, rfl, -, -, ha, hb⟩
 rw [h] at ha ⊢
 exact ⟨A, cap, rfl, ha, hb⟩
theorem sdec_k {l : List UInt8} {n most : Int} {ys : List Dc.Tx} {x : Int} {k : Nat} (h : Dt.decD l n most = (ys, x)) (hk : ys.length = k) (hn1 : -9223372036854775808 ≤ n) (hn2 : n ≤ 9223372036854775807) (hm : most ≤ 9223372036854775807) (hl : l.length ≤ 100000) (w : World) :
  Calls Tryz.prog 130 #[.string (ba l), .int .i64 n, .int .i64 most] w fun e w' => ∃ A cap, e = .returned (.tuple #[.slice A k cap, .int .i64 x]) ∧ At w' w'.heap.size A (svs ys) ∧ Below w.heap.size w w' := by
 subst hk
 refine (ddecode_c l n most hn1 hn2 hm hl w).mono ?_
 rintro e w' ⟨A, cap, rfl, -, -, ha, hb⟩
 rw [h] at ha ⊢
 exact ⟨A, cap, rfl, ha, hb⟩
/-- takeRanks, that is left by no panic -/
theorem tranks_y {s : List UInt8} {n : Int} {us : List Nat} (h : takeU s n = (us, 0)) (hs : s.length ≤ 90000) (hn1 : -9223372036854775808 ≤ n) (hn2 : n ≤ 9223372036854775807) (w : World) :
  Calls Tryz.prog 78 #[.string (ba s), .int .i64 n] w fun e w' => ∃ A cap ys, e = .returned (.slice A us.length cap) ∧ cbs ys = us ∧ Re.Words ys ∧ At w' w'.heap.size A (fvs ys) ∧ Below w.heap.size w w' := by
 refine (tranks_c s n hs hn1 hn2 w).mono ?_
 rintro e w' ⟨hb, he⟩
 rw [h] at he
 rw [if_neg (by simp)] at he
 obtain ⟨A, cap, ys, rfl, h1, h2, h3, -⟩ := he
 have hl : us.length = ys.length := by rw [show us = cbs ys from h1.symm, cbs_len]
 rw [hl]
 exact ⟨A, cap, ys, rfl, h1, h2, h3, hb⟩
theorem tranks_n {s : List UInt8} {n : Int} {us : List Nat} {x : Int} (h : takeU s n = (us, x)) (hx : x ≠ 0) (hs : s.length ≤ 90000) (hn1 : -9223372036854775808 ≤ n) (hn2 : n ≤ 9223372036854775807) (w : World) :
  Calls Tryz.prog 78 #[.string (ba s), .int .i64 n] w fun e w' => e = Pn x ∧ Below w.heap.size w w' := by
 refine (tranks_c s n hs hn1 hn2 w).mono ?_
 rintro e w' ⟨hb, he⟩
 rw [h] at he
 rw [if_pos (show (us, x).2 ≠ 0 from hx)] at he
 exact ⟨he, hb⟩
/-- how takeMoves ends -/
def TmEnd (r : List Mv × Int) (w : World) (e : Ending) (w' : World) : Prop :=
 Below w.heap.size w w' ∧ (if r.2 ≠ 0 then e = Pn r.2 else ∃ (A : Option Addr) (cap : Nat) (l : List Mv), e = .returned (.slice A l.length cap) ∧ SimL l r.1 ∧ At w' w'.heap.size A (mvs l) ∧ l.length ≤ cap)
theorem tmEnd_no {r : List Mv × Int} {w w' : World} {x : Int} (h : r.2 = x) (hx : x ≠ 0) (hb : Below w.heap.size w w') : TmEnd r w (Pn x) w' := by
 unfold TmEnd; rw [h, if_pos hx]; exact ⟨hb, rfl⟩
theorem tmEnd_yes {r : List Mv × Int} {w w' : World} {l m : List Mv} {A : Option Addr} {cap : Nat} (h : r = (m, 0)) (hs : SimL l m) (hb : Below w.heap.size w w') (ha : At w' w'.heap.size A (mvs l)) (hc : l.length ≤ cap) : TmEnd r w (.returned (.slice A l.length cap)) w' := by
 subst h
 refine ⟨hb, ?_⟩
 rw [if_neg (show ¬ ((0 : Int) ≠ 0) by simp)]
 exact ⟨A, cap, l, rfl, hs, ha, hc⟩
theorem decN_at {n : Nat} {b1 b2 b3 b4 a1 a2 a3 a4 : List UInt8} {x1 x2 x3 x4 x5 x6 x7 x8 : Int} {cs ps ks : List Int} {rs us : List Nat} {ns : List (List UInt8)} (h1 : cutP b1 = (a1, a2, x1)) (h2 : decV a1 n = (cs, x2)) (h3 : decU a2 n = (rs, x3))
  (h4 : cutP b2 = (a3, a4, x4)) (h5 : decV a3 n = (ps, x5)) (h6 : decV a4 n = (ks, x6)) (h7 : Dt.decD b3 n 64 = (ns, x7)) (h8 : takeU b4 n = (us, x8)) :
  decN n b1 b2 b3 b4 = if x1 ≠ 0 then ([], x1) else if x2 ≠ 0 then ([], x2) else if x3 ≠ 0 then ([], x3) else if x4 ≠ 0 then ([], x4) else if x5 ≠ 0 then ([], x5) else if x6 ≠ 0 then ([], x6) else if x7 ≠ 0 then ([], x7) else if x8 ≠ 0 then ([], x8)
   else endO (zipO cs rs ps ks ns us) := by
 unfold decN
 simp only [h1, h2, h3, h4, h5, h6, h7, h8]
theorem five_cells {w : World} {B : Nat} {A : Option Addr} {b0 b1 b2 b3 b4 : List UInt8} {k0 k1 k2 k3 k4 : Int} (h : At w B A (Ck.cvs [(k0, b0), (k1, b1), (k2, b2), (k3, b3), (k4, b4)])) :
  ∃ b o, A = some ⟨b, o, none⟩ ∧ b < B ∧ w.cell? ⟨b, o + 1, none⟩ = some (.string (ba b0)) ∧ w.cell? ⟨b, o + 3, none⟩ = some (.string (ba b1)) ∧ w.cell? ⟨b, o + 5, none⟩ = some (.string (ba b2)) ∧ w.cell? ⟨b, o + 7, none⟩ = some (.string (ba b3)) ∧ w.cell? ⟨b, o + 9, none⟩ = some (.string (ba b4)) := by
 obtain ⟨b, o, rfl, hb, -, h0⟩ := Ck.chunk_cells (k := 0) h rfl
 obtain ⟨_, _, e, _, -, h1⟩ := Ck.chunk_cells (k := 1) h rfl
 cases e
 obtain ⟨_, _, e, _, -, h2⟩ := Ck.chunk_cells (k := 2) h rfl
 cases e
 obtain ⟨_, _, e, _, -, h3⟩ := Ck.chunk_cells (k := 3) h rfl
 cases e
 obtain ⟨_, _, e, _, -, h4⟩ := Ck.chunk_cells (k := 4) h rfl
 cases e
 exact ⟨b, o, rfl, hb, h0, h1, h2, h3, h4⟩
theorem make_movesI (n : Nat) (hn : n ≤ 2000) (W : World) :
  (Instr.makeSlice 22 (.int .i64 (n : Int)) (.int .i64 (n : Int))).run Tryz.prog W = .ok (.slice (some ⟨W.heap.size, 0, none⟩) n n) (W.alloc (.cells (mvs (List.replicate n zM)).toArray 51)) := by
 obtain ⟨i, hi, hzz⟩ : ∃ i, Tryz.prog.info? 51 = some i ∧ (i.zero, i.size, i.bytes) = (some (Value.agg zeros6.toArray), 6, 56) := by
  have hinfo : (Tryz.prog.info? 51).map (fun i => (i.zero, i.size, i.bytes)) = some (some (Value.agg zeros6.toArray), 6, 56) := by kernel_rfl
  exact Option.map_eq_some_iff.1 hinfo
 simp only [Prod.mk.injEq] at hzz
 obtain ⟨hz, hs, hb⟩ := hzz
 have hr := run_make (P := Tryz.prog) W 22 51 i _ Tryz.underlying22 hi hz .i64 .i64 n n (by omega) (Int.le_refl _) (by rw [hb]; omega) (by omega)
 simp only [Int.toNat_natCast, hs] at hr
 rw [hr, show (Value.agg zeros6.toArray).cells = zeros6.toArray from rfl, made_zeros]
theorem set6_belowG {w w1 : World} {G j : Nat} {a b c d e f : Value} (hb : Below w.heap.size w w1) (hG : w.heap.size ≤ G) :
  Below w.heap.size w ((((((w1.setCell ⟨G, j, none⟩ a).setCell ⟨G, j + 1, none⟩ b).setCell ⟨G, j + 2, none⟩ c).setCell ⟨G, j + 3, none⟩ d).setCell ⟨G, j + 4, none⟩ e).setCell ⟨G, j + 5, none⟩ f) :=
 (((((hb.setCell (p := ⟨G, j, none⟩) hG a).setCell (p := ⟨G, j + 1, none⟩) hG b).setCell (p := ⟨G, j + 2, none⟩) hG c).setCell (p := ⟨G, j + 3, none⟩) hG d).setCell (p := ⟨G, j + 4, none⟩) hG e).setCell (p := ⟨G, j + 5, none⟩) hG f
theorem decO_at {b0 b1 b2 b3 b4 : List UInt8} {d : Int} {n : Nat} (hd : doneV (numS ⟨b0, 0⟩) = d) (hn : numV ⟨b0, 0⟩ = n) :
  decO [(4, b0), (5, b1), (6, b2), (7, b3), (8, b4)] = if d ≠ 0 then ([], d) else if 2000 < n then ([], 10) else decN n b1 b2 b3 b4 := by
 subst hd hn
 rfl
/-- columns that are read are of one length -/
theorem dec_lens {n : Nat} {b3 b4 a1 a2 a3 a4 : List UInt8} {cs ps ks : List Int} {rs us : List Nat} {ns : List (List UInt8)} (h2 : decV a1 n = (cs, 0)) (h3 : decU a2 n = (rs, 0))
  (h5 : decV a3 n = (ps, 0)) (h6 : decV a4 n = (ks, 0)) (h7 : Dt.decD b3 n 64 = (ns, 0)) (h8 : takeU b4 n = (us, 0)) :
  cs.length = n ∧ rs.length = n ∧ ps.length = n ∧ ks.length = n ∧ ns.length = n ∧ us.length = n ∧ (∀ r ∈ rs, r < 18446744073709551616) := by
 have d2 := (enc_dec (s := a1) (n := n) (by rw [h2])).2
 have d3 := (decU_dec (s := a2) (n := n) (by rw [h3])).2
 have d5 := (enc_dec (s := a3) (n := n) (by rw [h5])).2
 have d6 := (enc_dec (s := a4) (n := n) (by rw [h6])).2
 have d7 := (Dt.decD_dec (l := b3) (n := n) (most := 64) (by rw [h7])).2.1
 have d8 := (takeU_back h8).2.1
 have d9 := decU_lt (s := a2) (n := n) (by rw [h3])
 rw [h2] at d2; rw [h3] at d3 d9; rw [h5] at d5; rw [h6] at d6; rw [h7] at d7
 change (cs.length : Int) = n at d2
 change (rs.length : Int) = n at d3
 change (ps.length : Int) = n at d5
 change (ks.length : Int) = n at d6
 change (ns.length : Int) = n at d7
 exact ⟨by omega, by omega, by omega, by omega, by omega, by omega, d9⟩
theorem decD_names {b3 : List UInt8} {n : Nat} {ns : List (List UInt8)} (h7 : Dt.decD b3 n 64 = (ns, 0)) : ∀ x ∈ ns, x.length ≤ 64 := by
 have d7 := Dt.decD_dec (l := b3) (n := n) (most := 64) (by rw [h7])
 rw [h7] at d7
 exact fun x hx => by have := (d7.2.2.2 x hx).2; omega
end Go.Proofs.YtojhenpaeedimaaGreat
end
