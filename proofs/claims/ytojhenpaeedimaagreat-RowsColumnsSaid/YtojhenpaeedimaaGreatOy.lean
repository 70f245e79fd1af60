/-
 caught, of moves; Decode of columns: the program's.
 Cut, the document's.
 PutRanks, the document's: two rows beside one another.
 TakeRanks, the document's.
 Encode as columns: the document's.
 Decode of columns: the document's.
 Contracts of layer 19 at letters; lists alike but for what no number is.
-/
import Derived.Test.YtojhenpaeedimaaGreatOr
import Derived.Test.YtojhenpaeedimaaGreatOq
import Derived.Test.YtojhenpaeedimaaGreatBl
import Derived.Deep.QuietTactic
import Derived.BigQuiet
import Derived.Test.YtojhenpaeedimaaGreatZs
import Derived.Test.YtojhenpaeedimaaGreatPi
import Derived.Test.YtojhenpaeedimaaGreatHh
import Derived.Test.YtojhenpaeedimaaGreatOj
import Derived.Test.YtojhenpaeedimaaGreatJf
import Derived.Test.YtojhenpaeedimaaGreatQi
import Derived.Maps.AppendAt
import Derived.Test.YtojhenpaeedimaaGreatZe
import Derived.Test.YtojhenpaeedimaaGreatDg
import Derived.Test.YtojhenpaeedimaaGreatJk
import Derived.Test.YtojhenpaeedimaaGreatOb
import Derived.Test.YtojhenpaeedimaaGreatMg
section
namespace Go.Proofs.YtojhenpaeedimaaGreat
open Go.RowKit Go.IntWalk
open Pk Rf Fl Wd Ol Dl Ru Fg Dt Rl
set_option maxRecDepth 100000
theorem catchM_panic (p : Addr) (x e0 : Int) (older : List PanicEntry) (w : World) (hp : w.cell? p = some (.int .i64 e0)) (hf : w.frozen? p = false) :
  CallsD Tryz.prog 119 #[.pointer (some p)] (.panicking ({ v := .iface 27 (.int .i64 x), recovered := false } :: older)) w fun e u' w' =>
   e = .returned (.tuple #[]) ∧ u' = .panicking ({ v := .iface 27 (.int .i64 x), recovered := true } :: older) ∧ w' = w.setCell p (.int .i64 x) := by
 have hta := assert_errno x
 refine callsD_of_wpS Tryz.func119 rfl fun c₀ cs hu => ?_
 rw [show (#[Value.pointer (some p)] ++ Array.replicate (Tryz.f119.ntmps - #[Value.pointer (some p)].size) undef) = #[Value.pointer (some p), undef, undef, undef, undef, undef, undef, undef, undef, undef] from rfl]
 apply wpS_seq
 apply wpS_region
 simp [wpOpsS, go_sem, recoverD, hu, hta, Exit.thenS]
 apply wpS_seq
 apply wpS_region
 simp [wpOpsS, go_sem, Exit.thenS]
 refine wpS_cond (t := true) rfl ?_
 simp only [if_true]
 apply wpS_region
 simp [wpOpsS, go_sem, hp, hf, bodyPostS, results, Tryz.results119]
theorem catchM_idle (p : Addr) (w : World) :
  CallsD Tryz.prog 119 #[.pointer (some p)] .returning w fun e u' w' => e = .returned (.tuple #[]) ∧ u' = .returning ∧ w' = w := by
 have hta := assert_nil
 refine callsD_of_wpS Tryz.func119 rfl fun c₀ cs hu => ?_
 rw [show (#[Value.pointer (some p)] ++ Array.replicate (Tryz.f119.ntmps - #[Value.pointer (some p)].size) undef) = #[Value.pointer (some p), undef, undef, undef, undef, undef, undef, undef, undef, undef] from rfl]
 apply wpS_seq
 apply wpS_region
 simp [wpOpsS, go_sem, recoverD, hu, hta, Exit.thenS]
 apply wpS_seq
 apply wpS_region
 simp [wpOpsS, go_sem, Exit.thenS]
 refine wpS_cond (t := false) rfl ?_
 simp only [Bool.false_eq_true, if_false]
 refine wpS_of_wp (wp_skip ?_)
 cases c₀
 simp_all [bodyPostS, results, Tryz.results119]
/-- how moves are told, with an error -/
def DmEnd (r : List Mv × Int) (w : World) (e : Ending) (w' : World) : Prop :=
 Below w.heap.size w w' ∧ ∃ (A : Option Addr) (cap : Nat) (l : List Mv), e = .returned (.tuple #[.slice A l.length cap, .int .i64 r.2]) ∧ SimL l r.1 ∧ At w' w'.heap.size A (mvs l)
theorem at_other {w : World} {g : Nat} {A : Option Addr} {xs : List Value} {v : Value} (hA : ∀ a, A = some a → a.block ≠ g) (h : At w w.heap.size A xs) : At (w.setCell ⟨g, 0, none⟩ v) (w.setCell ⟨g, 0, none⟩ v).heap.size A xs := fun i u hu => by
 obtain ⟨b, o, e, hlt, hcell⟩ := h i u hu
 have hne : b ≠ g := hA ⟨b, o, none⟩ e
 have hc := (World.cell?_setCell_other (w := w) ⟨g, 0, none⟩ ⟨b, o + i, none⟩ v (by intro e2; injection e2 with e2 _ _; exact hne e2.symm)).trans hcell
 exact ⟨b, o, e, World.block_lt_of_cell? _ _ hc, hc⟩
theorem at_farM {w : World} {g : Nat} {A : Option Addr} {l : List Mv} {u v : Value} {t : TypeId} (hi : Is w g t [u]) (h : At w w.heap.size A (mvs l)) : At (w.setCell ⟨g, 0, none⟩ v) (w.setCell ⟨g, 0, none⟩ v).heap.size A (mvs l) := by
 cases l with
 | nil => exact fun i x hx => (by simp [mvs] at hx)
 | cons m l =>
  refine at_other (fun a ha hb => ?_) h
  obtain ⟨b, o, e, -, hcell⟩ := h 1 (.int .i64 (mr m)) rfl
  rw [e] at ha
  injection ha with ha
  subst ha
  simp only at hb
  subst hb
  rw [is_cell hi] at hcell
  simp at hcell
theorem caughtM_y (g : Nat) (lb : Array Value) (us : List Mv) (eg : ∀ args w, (callFunc g args).run Tryz.prog w = .ok (.enter g args) w) (w : World) (hc : ∀ W, Below w.heap.size w W → Calls Tryz.prog g lb W (TmEnd (us, 0) W)) :
  Calls Tryz.prog 68 #[.func (.func g) #[] lb] w (DmEnd (us, 0) w) := by
 have hmf := make_func
 obtain ⟨W1, hW1⟩ : ∃ W1, W1 = w.alloc (.cells #[.int .i64 0] 27) := ⟨_, rfl⟩
 have b1 : Below w.heap.size w W1 := by rw [hW1]; exact (Below.refl _ _).alloc (Nat.le_refl _) _
 have hcall := hc W1 b1
 have hi : Is W1 w.heap.size 27 [.int .i64 0] := by rw [hW1]; exact is_new w 27 [.int .i64 0]
 rw [hW1] at hcall
 clear hc
 go_enter_defers Tryz.func68, Tryz.ntmps68
 go_wp2_with (go_at_fn g; refine hcall.mono ?_; rintro e w2 ⟨hb2, he⟩; simp only [ne_eq, not_true_eq_false, if_false] at he; obtain ⟨A, cap, ys, rfl, h1, h2, h3⟩ := he; rw [← hW1] at hb2; have hi2 := is_below hi hb2 (is_lt hi); have c0 := is_cell hi2 0; have c1 := is_free hi2 0)
 refine leaves_cons (f := 119) (args := #[.pointer (some ⟨w.heap.size, 0, none⟩)]) (by simp) (by simp [go_sem]) ?_
 refine (catchM_idle _ _).mono ?_
 rintro e u' w'' ⟨rfl, rfl, rfl⟩
 have hi3 := is_set hi2 0 (.int .i64 0)
 have hres : (w2.setCell ⟨w.heap.size, 0, none⟩ (.int .i64 0)).cell? ⟨w.heap.size, 0, none⟩ = some (.int .i64 0) := is_cell hi3 0
 refine ⟨.tuple #[.slice A ys.length cap, .int .i64 0], by simp [results, Tryz.results68, go_sem, hres], ?_⟩
 refine ⟨(b1.trans (hb2.mono b1.size)).setCell (p := ⟨w.heap.size, 0, none⟩) (Nat.le_refl _) _, A, cap, ys, rfl, h1, at_farM hi2 h2⟩
theorem caughtM_n (g : Nat) (lb : Array Value) (r : List Mv × Int) (hr : r.2 ≠ 0) (hr1 : r.1 = []) (eg : ∀ args w, (callFunc g args).run Tryz.prog w = .ok (.enter g args) w) (w : World) (hc : ∀ W, Below w.heap.size w W → Calls Tryz.prog g lb W (TmEnd r W)) :
  Calls Tryz.prog 68 #[.func (.func g) #[] lb] w (DmEnd r w) := by
 have hmf := make_func
 obtain ⟨x, hx⟩ : ∃ x, r.2 = x := ⟨_, rfl⟩
 obtain ⟨W1, hW1⟩ : ∃ W1, W1 = w.alloc (.cells #[.int .i64 0] 27) := ⟨_, rfl⟩
 have b1 : Below w.heap.size w W1 := by rw [hW1]; exact (Below.refl _ _).alloc (Nat.le_refl _) _
 have hcall := (hc W1 b1).mono (R' := fun e w' => e = Pn x ∧ Below W1.heap.size W1 w') (fun e w' h => by
  obtain ⟨h1, h2⟩ := h
  rw [if_pos hr, hx] at h2
  exact ⟨h2, h1⟩)
 have hi : Is W1 w.heap.size 27 [.int .i64 0] := by rw [hW1]; exact is_new w 27 [.int .i64 0]
 rw [hW1] at hcall
 clear hc
 go_enter_defers Tryz.func68, Tryz.ntmps68
 go_wp2_with (go_at_fn g; refine hcall.mono ?_; rintro e w2 ⟨rfl, hb2⟩; rw [← hW1] at hb2; have hi2 := is_below hi hb2 (is_lt hi); have c0 := is_cell hi2 0; have c1 := is_free hi2 0)
 refine leaves_cons (f := 119) (args := #[.pointer (some ⟨w.heap.size, 0, none⟩)]) (by simp) (by simp [go_sem]) ?_
 refine (catchM_panic _ x 0 [] _ c0 c1).mono ?_
 rintro e u' w'' ⟨rfl, rfl, rfl⟩
 have hi3 := is_set hi2 0 (.int .i64 x)
 have hres : (w2.setCell ⟨w.heap.size, 0, none⟩ (.int .i64 x)).cell? ⟨w.heap.size, 0, none⟩ = some (.int .i64 x) := is_cell hi3 0
 refine ⟨.tuple #[.slice none 0 0, .int .i64 x], by simp [results, Tryz.results68, go_sem, hres], ?_⟩
 refine ⟨(b1.trans (hb2.mono b1.size)).setCell (p := ⟨w.heap.size, 0, none⟩) (Nat.le_refl _) _, none, 0, [], by rw [hx]; rfl, by rw [hr1]; trivial, At.nil _ _ _⟩
set_option maxHeartbeats 4000000 in
theorem pdecO_c (A0 : Option Addr) (cap0 : Nat) (l : List Ck.Chk) (hl : l.length ≤ 100000) (hs : ∀ c ∈ l, c.2.length ≤ 90000) (w : World) (hc0 : At w w.heap.size A0 (Ck.cvs l)) :
  Calls Tryz.prog 21 #[.slice A0 l.length cap0] w (DmEnd (decO l) w) := by
 obtain ⟨N, hN⟩ : ∃ N, l.length = N := ⟨_, rfl⟩
 obtain ⟨W1, hW1⟩ : ∃ W1, W1 = w.alloc (.cells #[.slice A0 N cap0] 26) := ⟨_, rfl⟩
 have b1 : Below w.heap.size w W1 := by rw [hW1]; exact (Below.refl _ _).alloc (Nat.le_refl _) _
 have i0 : Is W1 w.heap.size 26 [.slice A0 N cap0] := by rw [hW1]; exact is_new w 26 [.slice A0 N cap0]
 have hclo : ∀ W, Below W1.heap.size W1 W → Calls Tryz.prog 69 #[.pointer (some ⟨w.heap.size, 0, none⟩)] W (TmEnd (decO l) W) := by
  intro W hb
  have c0 : W.cell? ⟨w.heap.size, 0, none⟩ = some (.slice A0 N cap0) := is_cell (is_below i0 hb (is_lt i0)) 0
  have ht := takeMoves_c A0 cap0 l hl hs W ((hc0.keep b1).keep hb)
  rw [hN] at ht
  have HT := Lib.hid ht
  clear ht
  by_cases hx : (decO l).2 = 0
  ·have HT2 := Lib.hid (HT.out.mono (R' := fun e w' => Below W.heap.size W w' ∧ ∃ (A : Option Addr) (cap : Nat) (l' : List Mv), e = .returned (.slice A l'.length cap) ∧ SimL l' (decO l).1 ∧ At w' w'.heap.size A (mvs l') ∧ l'.length ≤ cap) (fun e w' h => by
    obtain ⟨h1, h2⟩ := h
    rw [if_neg (by simpa using hx)] at h2
    exact ⟨h1, h2⟩))
   clear HT
   go_enter Tryz.func69, Tryz.ntmps69
   go_wp2_with fail
   refine HT2.out.mono ?_
   rintro e w2 ⟨hb2, A, cap, ys, rfl, h1, h2, h3⟩
   go_wp2_with fail
   go_ret
   refine ⟨hb2, ?_⟩
   rw [if_neg (by simpa using hx)]
   exact ⟨A, cap, ys, rfl, h1, h2, h3⟩
  ·have HT2 := Lib.hid (HT.out.mono (R' := fun e w' => e = Pn (decO l).2 ∧ Below W.heap.size W w') (fun e w' h => by
    obtain ⟨h1, h2⟩ := h
    rw [if_pos hx] at h2
    exact ⟨h2, h1⟩))
   clear HT
   go_enter Tryz.func69, Tryz.ntmps69
   go_wp2_with fail
   refine HT2.out.mono ?_
   rintro e w2 ⟨rfl, hb2⟩
   go_wp2_with fail
   exact ⟨rfl, tmEnd_no rfl hx hb2⟩
 have eg : ∀ args w, (callFunc 69 args).run Tryz.prog w = .ok (.enter 69 args) w := fun _ _ => rfl
 have hca : Calls Tryz.prog 68 #[.func (.func 69) #[] #[.pointer (some ⟨w.heap.size, 0, none⟩)]] W1 (DmEnd (decO l) W1) := by
  by_cases hx : (decO l).2 = 0
  ·obtain ⟨us, hu⟩ : ∃ us, decO l = (us, 0) := ⟨(decO l).1, Prod.ext rfl hx⟩
   rw [hu] at hclo ⊢
   exact caughtM_y _ _ us eg W1 hclo
  ·exact caughtM_n _ _ _ hx (decO_none hx) eg W1 hclo
 have HCA := Lib.hid hca
 have HB1 := Lib.hid b1
 have HW := Lib.hid hW1
 have hmf := make_func
 rw [hN]
 clear hclo hca b1 i0 hW1 hN
 go_enter Tryz.func21, Tryz.ntmps21
 go_wp2_with fail
 rw [← HW.out]
 refine HCA.out.mono ?_
 rintro e w2 ⟨hb2, A, cap, ys, rfl, h1, h2⟩
 go_wp2_with fail
 go_ret2
 exact ⟨HB1.out.trans (hb2.mono HB1.out.size), A, cap, ys, rfl, h1, h2⟩
end Go.Proofs.YtojhenpaeedimaaGreat
end
section
namespace Go.Proofs.YtojhenpaeedimaaGreat
open Go.RowKit Go.IntWalk
open Pk Rf Fl Wd Ol Dl Ru
set_option maxRecDepth 100000
attribute [local go_sem] Oper.semAt_some
end Go.Proofs.YtojhenpaeedimaaGreat
end
section
namespace Go.Proofs.YtojhenpaeedimaaGreat
open Go.RowKit Go.IntWalk
open Pk Rf Fl Wd Ol Dl Ru Fg Dt Rl
set_option maxRecDepth 100000
attribute [local go_sem] Oper.semAt_some
theorem own_shape {w : World} {B : Nat} {e : TypeId} {s n : Nat} {v : Value} {xs : List Value} (h : w.ownsRow B e s v n xs) : ∃ A c, v = .slice A n c ∧ (A = none → c = 0) := by
 rcases h.2 with ⟨rfl, h2⟩ | ⟨g, cap, cur, rfl, _, hh, _⟩
 ·exact ⟨none, 0, by rw [h2], fun _ => rfl⟩
 ·exact ⟨_, _, rfl, fun e => by cases e⟩
end Go.Proofs.YtojhenpaeedimaaGreat
end
section
namespace Go.Proofs.YtojhenpaeedimaaGreat
open Go.RowKit Go.IntWalk
open Pk Rf Fl Wd Ol Dl Ru Fg Dt Rl
set_option maxRecDepth 100000
attribute [local go_sem] Oper.semAt_some
end Go.Proofs.YtojhenpaeedimaaGreat
end
section
namespace Go.Proofs.YtojhenpaeedimaaGreat
open Go.RowKit Go.IntWalk
open Pk Rf Fl Wd Ol Dl Ru Fg Dt Rl
set_option maxRecDepth 100000
attribute [local go_sem] Oper.semAt_some
end Go.Proofs.YtojhenpaeedimaaGreat
end
section
namespace Go.Proofs.YtojhenpaeedimaaGreat
open Go.RowKit Go.IntWalk
open Pk Rf Fl Wd Ol Dl Ru Fg Dt Rl
set_option maxRecDepth 100000
attribute [local go_sem] Oper.semAt_some
end Go.Proofs.YtojhenpaeedimaaGreat
end
section
namespace Go.Proofs.YtojhenpaeedimaaGreat
open Go.RowKit Go.IntWalk
open Pk Rf Fl Wd Ol Dl Ru Fg Dt Rl
set_option maxRecDepth 100000
theorem sim_cols : ∀ {l m : List Mv}, SimL l m → mcL l = mcL m ∧ mrL l = mrL m ∧ paL l = paL m ∧ chL l = chL m ∧ nmL l = nmL m ∧ rkL l = rkL m
 | [], [], _ => ⟨rfl, rfl, rfl, rfl, rfl, rfl⟩
 | a :: l, b :: m, h => by
  obtain ⟨i1, i2, i3, i4, i5, i6⟩ := sim_cols (l := l) (m := m) h.2
  obtain ⟨h1, h2, h3, h4, h5, -, h7⟩ := h.1
  simp only [mcL, mrL, paL, chL, nmL, rkL] at i1 i2 i3 i4 i5 i6 ⊢
  simp only [List.map_cons]
  exact ⟨by rw [i1, h1], by rw [i2, h2], by rw [i3, h4], by rw [i4, h3], by rw [i5, h5], by rw [i6, h7]⟩
 | [], _ :: _, h => by cases h
 | _ :: _, [], h => by cases h
theorem sim_encO {l m : List Mv} (h : SimL l m) : encO l = encO m := by
 obtain ⟨i1, i2, i3, i4, i5, i6⟩ := sim_cols h
 unfold encO bdT bdE
 rw [i1, i2, i3, i4, i5, i6, SimL.len h]
theorem sim_encC {l m : List Mv} (h : SimL l m) : encC l = encC m := by unfold encC; rw [sim_may h, sim_encO h]
theorem sim_encE {l m : List Mv} (h : SimL l m) : encE l = encE m := by unfold encE; rw [sim_may h]
theorem sim_movesO {c : List Ck.Chk} {l l' : List Mv} {x : Int} (h : decO c = (l, x)) (hs : SimL l' l) : Moves_ l' := fun m hm => by
 obtain ⟨b, hb, hb2⟩ := hs.mem hm
 have := (decO_names h).1 b hb
 exact ⟨hb2.2.2.2.2.2.1, by rw [hb2.2.2.2.2.1]; unfold maxLen; omega⟩
theorem oenc_v {l : List Mv} {c : List Ck.Chk} {x : Int} {A : Option Addr} {n cap : Nat} {w : World} (hn : l.length = n) (h1 : encC l = c) (h2 : encE l = x) (hl : l.length ≤ 4000) (ho : Mok4 l) (hc : At w w.heap.size A (mvs l)) :
  Calls Tryz.prog 11 #[.slice A n cap] w fun e w' => ∃ A' cap', e = .returned (.tuple #[.slice A' c.length cap', .int .i64 x]) ∧ At w' w'.heap.size A' (Ck.cvs c) ∧ c.length ≤ cap' ∧ Below w.heap.size w w' := by
 subst h1 h2 hn; exact pencO_c A cap l hl ho w hc
theorem odec_v {c : List Ck.Chk} {l : List Mv} {x : Int} {A : Option Addr} {n N cap : Nat} {w : World} (hn : c.length = n) (h : decO c = (l, x)) (hN : l.length = N) (hl : c.length ≤ 100000) (hs : ∀ q ∈ c, q.2.length ≤ 90000) (hc : At w w.heap.size A (Ck.cvs c)) :
  Calls Tryz.prog 21 #[.slice A n cap] w fun e w' => ∃ (A' : Option Addr) (cap' : Nat) (l' : List Mv), e = .returned (.tuple #[.slice A' N cap', .int .i64 x]) ∧ l'.length = N ∧ SimL l' l ∧ At w' w'.heap.size A' (mvs l') ∧ Below w.heap.size w w' := by
 subst hn
 refine (pdecO_c A cap c hl hs w hc).mono ?_
 rintro e w' ⟨hb, A', cap', l', he, h1, h2⟩
 rw [h] at h1 he
 have hl' : l'.length = N := by rw [← hN]; exact SimL.len h1
 exact ⟨A', cap', l', by rw [← hl']; exact he, hl', h1, h2, hb⟩
theorem otake_v {s : List UInt8} {S : ByteArray} {n : Int} {us : List Nat} {x : Int} {N : Nat} (hS : ba s = S) (h : takeU s n = (us, x)) (hN : us.length = N) (hs : s.length ≤ 90000) (hn1 : -9223372036854775808 ≤ n) (hn2 : n ≤ 9223372036854775807) (w : World) :
  Calls Tryz.prog 23 #[.string S, .int .i64 n] w fun e w' => ∃ (A : Option Addr) (cap : Nat) (ys : List Nat), e = .returned (.tuple #[.slice A N cap, .int .i64 x]) ∧ ys.length = N ∧ cbs ys = us ∧ Re.Words ys ∧ At w' w'.heap.size A (fvs ys) ∧ Below w.heap.size w w' := by
 subst hS
 refine (takeRanks_c s n hs hn1 hn2 w).mono ?_
 rintro e w' ⟨hb, A, cap, ys, he, h1, h2, h3, -⟩
 rw [h] at h1 he
 have hl : ys.length = N := by rw [← hN, show us = cbs ys from h1.symm, cbs_len]
 exact ⟨A, cap, ys, by rw [← hl]; exact he, hl, h1, h2, h3, hb⟩
theorem ocut_v {s a b : List UInt8} {x : Int} {S P Q : ByteArray} (hS : ba s = S) (h : cutP s = (a, b, x)) (hP : ba a = P) (hQ : ba b = Q) (hs : s.length ≤ 1000000000) (w : World) :
  Calls Tryz.prog 13 #[.string S] w fun e w' => e = .returned (.tuple #[.string P, .string Q, .int .i64 x]) ∧ Below w.heap.size w w' := by
 subst hS hP hQ; exact cut_v hs h w
theorem rsame9_v {xs ys : List Nat} {q : Bool} {A1 A2 : Option Addr} {n1 n2 c1 c2 : Nat} {w : World} (h : decide (cbs xs = cbs ys) = q) (e1 : xs.length = n1) (e2 : ys.length = n2) (hx : xs.length ≤ maxLen) (hy : ys.length ≤ maxLen) (hwx : Re.Words xs) (hwy : Re.Words ys) (h1 : At w w.heap.size A1 (fvs xs)) (h2 : At w w.heap.size A2 (fvs ys)) :
  Calls Tryz.prog 26 #[.slice A1 n1 c1, .slice A2 n2 c2] w fun e w' => e = .returned (.bool q) ∧ ∃ k, w' = w.drewN k := by
 subst h e1 e2; exact rsame9_c A1 A2 c1 c2 xs ys hx hy hwx hwy w h1 h2
theorem same11_v {xs ys : List Ck.Chk} {q : Bool} {A1 A2 : Option Addr} {n1 n2 c1 c2 : Nat} {w : World} (h : decide (xs = ys) = q) (e1 : xs.length = n1) (e2 : ys.length = n2) (hx : xs.length ≤ maxLen) (hy : ys.length ≤ maxLen) (h1 : At w w.heap.size A1 (Ck.cvs xs)) (h2 : At w w.heap.size A2 (Ck.cvs ys)) :
  Calls Tryz.prog 15 #[.slice A1 n1 c1, .slice A2 n2 c2] w fun e w' => e = .returned (.bool q) ∧ ∃ k, w' = w.drewN k := by
 subst h e1 e2; exact Ck.same11_q A1 A2 c1 c2 xs ys hx hy w h1 h2
theorem sameM_selfC : ∀ {l : List Mv}, sameM l l = true
 | [] => rfl
 | m :: l => by
  unfold sameM
  rw [sameM_selfC (l := l)]
  simp [alikeM, alikeP, timeEq]
theorem sim_sameM {a b l : List Mv} (ha : SimL a l) (hb : SimL b l) : sameM a b = true := by
 have h1 : sameM l a = true := by rw [SimL.same ha]; exact sameM_selfC
 have h2 : sameM l b = true := by rw [SimL.same hb]; exact sameM_selfC
 exact sameM_trans (sameM_symm h1) h2
end Go.Proofs.YtojhenpaeedimaaGreat
end
