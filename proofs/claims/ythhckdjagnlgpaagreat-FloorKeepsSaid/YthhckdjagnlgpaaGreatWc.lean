/-
 Moves united: the program's, and the document's.
 Contracts at written lengths.
 Replicas: Few, known, fits, holds; the links of May.
 Replicas: fits, the links of May, and May.
-/
import Derived.Test.YthhckdjagnlgpaaGreatUm
import Derived.Test.YthhckdjagnlgpaaGreatUi
import Derived.Test.YthhckdjagnlgpaaGreatVy
import Derived.Test.YthhckdjagnlgpaaGreatQh
import Derived.Shelf.Abstract
import Derived.Deep.RegionHeld3
section
namespace Go.Proofs.YthhckdjagnlgpaaGreat
open Go.RowKit Go.IntWalk
open Wd Fl
set_option maxRecDepth 100000
attribute [local go_sem] Oper.semAt_some
end Go.Proofs.YthhckdjagnlgpaaGreat
end
section
namespace Go.Proofs.YthhckdjagnlgpaaGreat
open Go.RowKit Go.IntWalk
open Wd Fl
set_option maxRecDepth 100000
theorem msince_k {A : Option Addr} {cap n N : Nat} {c r : Int} (l L : List Mv) (h : sinM l c r = L) (hN : L.length = N) (hn : l.length = n) (hl : n ≤ 1000) {w : World} (hc : At w w.heap.size A (mvs l)) :
  Calls Tryz.prog 95 #[.slice A n cap, .agg #[.int .i64 c, .int .i64 r]] w fun e w' => ∃ A' cap', e = .returned (.slice A' N cap') ∧ At w' w'.heap.size A' (mvs L) ∧ (A' = none → cap' = 0) ∧ N ≤ cap' ∧ Below w.heap.size w w' := by
 subst hN hn h
 refine (msince_c A cap l c r (by omega) w hc).mono ?_
 rintro e w' ⟨A', cap', rfl, hown, hb⟩
 obtain ⟨A2, cap2, he, h1, h2, h3, h4⟩ := own_toldM hown hb
 cases he
 exact ⟨A', cap', rfl, h1, h2, h3, h4⟩
theorem mmay_k {A : Option Addr} {cap n : Nat} {b : Bool} (l : List Mv) (h : mayM l = b) (hn : l.length = n) (hl : n ≤ 1000) (hnm : ∀ m ∈ l, (nm (mw m)).length ≤ maxLen) {w : World} (hc : At w w.heap.size A (mvs l)) :
  Calls Tryz.prog 104 #[.slice A n cap] w fun e w' => e = .returned (.bool b) ∧ Below w.heap.size w w' := by
 subst hn h
 exact mmay_c A cap l (by unfold maxLen; omega) hnm w hc
end Go.Proofs.YthhckdjagnlgpaaGreat
end
section
namespace Go.Proofs.YthhckdjagnlgpaaGreat
open Go.RowKit Go.IntWalk Go.Maps
open Gr
set_option maxRecDepth 100000
attribute [local go_sem] Oper.semAt_some
theorem box5 {W : World} {G : Nat} {t : TypeId} {p : Pl} {r : Rp} (h : Is W G t (rpcs p r)) : W.cell? ⟨G, 0, none⟩ = some (.slice p.A1 r.B.length p.c1) ∧ W.cell? ⟨G, 1, none⟩ = some (.int .i64 r.fc) ∧ W.cell? ⟨G, 2, none⟩ = some (.int .i64 r.fr) ∧ W.cell? ⟨G, 3, none⟩ = some (.slice p.A2 r.L.length p.c2) ∧ W.cell? ⟨G, 4, none⟩ = some (.slice p.A3 r.V.length p.c3) :=
 ⟨is_cell h 0, is_cell h 1, is_cell h 2, is_cell h 3, is_cell h 4⟩
theorem hold2k {p q : Addr} {u v : Value} {w1 W W' : World} (h : W.cell? p = some u ∧ W.cell? q = some v ∧ Below w1.heap.size w1 W) (hb : Below W.heap.size W W') : W'.cell? p = some u ∧ W'.cell? q = some v ∧ Below w1.heap.size w1 W' :=
 ⟨keep_cell hb h.1, keep_cell hb h.2.1, h.2.2.trans (hb.mono h.2.2.size)⟩
theorem hold3k {p q s : Addr} {u v x : Value} {w1 W W' : World} (h : W.cell? p = some u ∧ W.cell? q = some v ∧ W.cell? s = some x ∧ Below w1.heap.size w1 W) (hb : Below W.heap.size W W') : W'.cell? p = some u ∧ W'.cell? q = some v ∧ W'.cell? s = some x ∧ Below w1.heap.size w1 W' :=
 ⟨keep_cell hb h.1, keep_cell hb h.2.1, keep_cell hb h.2.2.1, h.2.2.2.trans (hb.mono h.2.2.2.size)⟩
theorem start2k {p q : Addr} {u v : Value} {w1 : World} (h0 : w1.cell? p = some u) (h1 : w1.cell? q = some v) : w1.drew.cell? p = some u ∧ w1.drew.cell? q = some v ∧ Below w1.heap.size w1 w1.drew := ⟨h0, h1, (Below.refl _ _).drew⟩
theorem start3k {p q s : Addr} {u v x : Value} {w1 : World} (h0 : w1.cell? p = some u) (h1 : w1.cell? q = some v) (h2 : w1.cell? s = some x) : w1.drew.cell? p = some u ∧ w1.drew.cell? q = some v ∧ w1.drew.cell? s = some x ∧ Below w1.heap.size w1 w1.drew := ⟨h0, h1, h2, (Below.refl _ _).drew⟩
theorem bel2k {p q : Addr} {u v : Value} {w1 W : World} (h : W.cell? p = some u ∧ W.cell? q = some v ∧ Below w1.heap.size w1 W) : Below w1.heap.size w1 W := h.2.2
theorem bel3k {p q s : Addr} {u v x : Value} {w1 W : World} (h : W.cell? p = some u ∧ W.cell? q = some v ∧ W.cell? s = some x ∧ Below w1.heap.size w1 W) : Below w1.heap.size w1 W := h.2.2.2
/-- a link of a chain: what it tells, in each world that comes of w -/
def Link (w : World) (g : Nat) (lb : Array Value) (b : Bool) : Prop := ∀ W, Below w.heap.size w W → Calls Tryz.prog g lb W fun e W' => e = .returned (.bool b) ∧ Below W.heap.size W W'
def fvs (lb : Array Value) (fs : List Nat) : List Value := fs.map fun g => .func (.func g) #[] lb
theorem fvs_at {lb : Array Value} {fs : List Nat} {k g : Nat} (h : fs[k]? = some g) : (fvs lb fs)[k]? = some (.func (.func g) #[] lb) := by unfold fvs; rw [List.getElem?_map, h]; rfl
set_option maxHeartbeats 4000000 in
theorem holds_c (G cap : Nat) (lb : Array Value) (fs : List Nat) (bs : List Bool) (hfl : fs.length ≤ 100) (hbs : bs.length = fs.length) (eg : ∀ g ∈ fs, ∀ args w, (callFunc g args).run Tryz.prog w = .ok (.enter g args) w) (w : World)
  (hc : At w w.heap.size (some ⟨G, 0, none⟩) (fvs lb fs)) (hl : ∀ (k g : Nat) (b : Bool), fs[k]? = some g → bs[k]? = some b → (∀ j : Nat, j < k → bs[j]? = some true) → Link w g lb b) :
  Calls Tryz.prog 101 #[.slice (some ⟨G, 0, none⟩) fs.length cap] w fun e w' => e = .returned (.bool (bs.all id)) ∧ Below w.heap.size w w' := by
 have HC := Lib.hid hc
 have HL := Lib.hid hl
 have HE := Lib.hid eg
 have HB := Lib.hid hbs
 clear hc hl eg hbs
 go_enter Tryz.func101, Tryz.ntmps101
 go_wp2_with fail
 go_loopw [7] (fun i wr => ∃ k : Nat, i = .int .i64 (k : Int) ∧ k ≤ fs.length ∧ (∀ j, j < k → bs[j]? = some true) ∧ Below w.heap.size w wr) (fun i _ => fs.length - (Go.RowKit.intOf i).toNat)
 case atStart => exact ⟨0, rfl, Nat.zero_le _, fun j hj => absurd hj (Nat.not_lt_zero _), Below.refl _ _⟩
 case round =>
  obtain ⟨k, rfl, hk, hall, hbw⟩ := hrel
  have HALL := Lib.hid hall
  clear hall
  by_cases hlt : k < fs.length
  ·obtain ⟨g, hg⟩ := some_at hlt
   obtain ⟨b, hb⟩ := some_at (show k < bs.length by rw [HB.out]; exact hlt)
   have hki : (0 : Int) ≤ (k : Int) := by omega
   have hkl : (k : Int) < (fs.length : Int) := by omega
   obtain ⟨b0, o0, e0, -, c0⟩ := HC.out.below hbw _ _ (fvs_at hg)
   cases e0
   have hcall := HL.out k g b hg hb HALL.out wr hbw
   have hen := HE.out g (List.mem_of_getElem? hg)
   have HBB := Lib.hid hb
   clear hg hb
   rw [Nat.zero_add] at c0
   cases b with
   | true =>
    go_wp2_with (go_at_fn g; refine hcall.mono ?_; rintro e w' ⟨rfl, hb'⟩)
    go_roundw
    case rel => exact ⟨k + 1, by go_num, by omega, fun j hj => by
     rcases Nat.lt_or_ge j k with h | h
     ·exact HALL.out j h
     ·obtain rfl : j = k := by omega
      exact HBB.out, hbw.trans (hb'.mono hbw.size)⟩
    case measure => simp only [Go.RowKit.intOf]; omega
   | false =>
    go_wp2_with (go_at_fn g; refine hcall.mono ?_; rintro e w' ⟨rfl, hb'⟩)
    go_ret
    have : bs.all id = false := by
     rw [List.all_eq_false]
     exact ⟨false, List.mem_of_getElem? HBB.out, by simp⟩
    rw [this]
    exact ⟨rfl, hbw.trans (hb'.mono hbw.size)⟩
  ·obtain rfl : k = fs.length := by omega
   have hall : bs.all id = true := by
    rw [List.all_eq_true]
    intro b hb
    obtain ⟨j, hj, e⟩ := List.mem_iff_getElem.1 hb
    have := HALL.out j (by rw [← HB.out]; exact hj)
    rw [List.getElem?_eq_getElem hj, e] at this
    simpa using this
   have HAL2 := Lib.hid hall
   clear hall
   go_wp2_with fail
   go_ret
   rw [HAL2.out]
   exact ⟨rfl, hbw⟩
set_option maxHeartbeats 4000000 in
theorem known_c (A : Option Addr) (cap : Nat) (v : List Mk) (c r : Int) (hl : v.length ≤ maxLen) (w : World) (hc : At w w.heap.size A (kvs v)) :
  Calls Tryz.prog 93 #[.slice A v.length cap, .agg #[.int .i64 c, .int .i64 r]] w fun e w' => e = .returned (.bool (knownK v c r)) ∧ Below w.heap.size w w' := by
 obtain ⟨w0, hw0⟩ : ∃ w0, w0 = w.alloc (.cells #[.int .i64 c, .int .i64 r] 51) := ⟨_, rfl⟩
 have hb0 : Below w.heap.size w w0 := by rw [hw0]; exact (Below.refl w.heap.size w).alloc (Nat.le_refl _) _
 have hI : Is w0 w.heap.size 51 [.int .i64 c, .int .i64 r] := by rw [hw0]; exact is_new w 51 _
 obtain ⟨G, hG⟩ : ∃ G, G = w.heap.size := ⟨_, rfl⟩
 rw [← hG] at hI
 obtain ⟨q0, q1⟩ := box2 hI
 have HC := Lib.hid (hc.keep hb0)
 have HB := Lib.hid hb0
 have HW := Lib.hid hw0
 have HG := Lib.hid hG
 have HL := Lib.hid hl
 clear hc hb0 hI hw0 hG hl
 by_cases h0 : 0 < c
 ·have hd : decide (0 < c) = true := decide_eq_true h0
  obtain ⟨y, hy⟩ : ∃ y, getK v r = y := ⟨_, rfl⟩
  have HY := Lib.hid hy
  have hres : knownK v c r = decide (c ≤ y) := by unfold knownK; rw [hd, hy]; rfl
  rw [hres]
  clear hy hres
  go_enter Tryz.func93, Tryz.ntmps93
  go_wp2_with fail
  rw [← HW.out, ← HG.out]
  clear HW HG
  refine quiet_held (fun w' => Below w0.heap.size w0 w') (by kernel_rfl) (by kernel_rfl) (Below.refl _ _).drew ?_
  repeat (first
   | go_big_quiet_skip
   | (simp only [hd])
   | (go_big_quiet_want; go_big_quiet_op; go_big_quiet_on)
   | (go_big_quiet_want; apply Exists.intro; refine ⟨fun wq hq => ?_, ?_⟩; (focus (have r0 := keep_cell hq q0; have r1 := keep_cell hq q1; unfold Oper.quietAt; go_simp; all_goals (first | rfl | exact ⟨rfl, rfl⟩ | (with_reducible refine (kget_k HY.out HL.out wq (HC.out.keep hq)).mono ?_; rintro e w5 ⟨rfl, hbn⟩; exact ⟨rfl, hq.trans (hbn.mono hq.size)⟩)))); simp only [Act.put, List.setIfInBounds_toArray, List.set_cons_zero, List.set_cons_succ]; go_big_quiet_on))
  refine wpQuiet_nil ?_
  intro wq hq
  go_wp2_with fail
  go_ret
  exact ⟨rfl, HB.out.trans (hq.mono HB.out.size)⟩
 ·have hd : decide (0 < c) = false := decide_eq_false h0
  have hres : knownK v c r = false := by unfold knownK; rw [hd]; rfl
  rw [hres]
  clear hres
  go_enter Tryz.func93, Tryz.ntmps93
  go_wp2_with fail
  rw [← HW.out, ← HG.out]
  clear HW HG
  refine quiet_held (fun w' => Below w0.heap.size w0 w') (by kernel_rfl) (by kernel_rfl) (Below.refl _ _).drew ?_
  repeat (first
   | go_big_quiet_skip
   | (simp only [hd])
   | (go_big_quiet_want; go_big_quiet_op; go_big_quiet_on)
   | (go_big_quiet_want; apply Exists.intro; refine ⟨fun wq hq => ?_, ?_⟩; (focus (have r0 := keep_cell hq q0; have r1 := keep_cell hq q1; unfold Oper.quietAt; go_simp; all_goals (first | rfl | exact ⟨rfl, rfl⟩))); simp only [Act.put, List.setIfInBounds_toArray, List.set_cons_zero, List.set_cons_succ]; go_big_quiet_on))
  refine wpQuiet_nil ?_
  intro wq hq
  go_wp2_with fail
  go_ret
  exact ⟨rfl, HB.out.trans (hq.mono HB.out.size)⟩
end Go.Proofs.YthhckdjagnlgpaaGreat
end
section
namespace Go.Proofs.YthhckdjagnlgpaaGreat
open Go.RowKit Go.IntWalk Go.Maps
open Gr
set_option maxRecDepth 100000
attribute [local go_sem] Oper.semAt_some
theorem one64 {r : Rw} (h : oneP r = true) : In64 (ch r) := by
 unfold oneP at h
 simp only [Bool.and_eq_true, decide_eq_true_eq] at h
 unfold In64
 omega
theorem at_new (w : World) (xs : List Value) (t : TypeId) : At (w.alloc (.cells xs.toArray t)) (w.heap.size + 1) (some ⟨w.heap.size, 0, none⟩) xs := fun i v hv =>
 ⟨w.heap.size, 0, rfl, Nat.lt_succ_self _, by rw [Nat.zero_add]; exact (is_cell (is_new w t xs) i).trans hv⟩
def chs (l : List Rw) (ms : List Mv) : List Int := l.map ch ++ ms.map fun m => ch (mw m)
set_option maxHeartbeats 8000000 in
theorem fits_c (A1 A2 : Option Addr) (c1 c2 : Nat) (l : List Rw) (ms : List Mv) (hl : l.length + ms.length ≤ 1500) (hi1 : ∀ r ∈ l, In64 (ch r)) (hi2 : ∀ m ∈ ms, In64 (ch (mw m))) (w : World) (h1 : At w w.heap.size A1 (tvs l)) (h2 : At w w.heap.size A2 (mvs ms)) :
  Calls Tryz.prog 111 #[.slice A1 l.length c1, .slice A2 ms.length c2] w fun e w' => e = .returned (.bool true) ∧ Below w.heap.size w w' := by
 have H1 := Lib.hid h1
 have H2 := Lib.hid h2
 have HI1 := Lib.hid hi1
 have HI2 := Lib.hid hi2
 have hmm := fun (W : World) (n : Int) => run_makeSet (n := n) W
 have hmade := World.ownsMap_made w Tryz.prog 3 RB
 obtain ⟨b, hb⟩ : ∃ b, b = w.heap.size := ⟨_, rfl⟩
 rw [← hb] at hmade
 have HMD := Lib.hid hmade
 clear h1 h2 hi1 hi2 hmade
 go_enter Tryz.func111, Tryz.ntmps111
 go_wp2_with fail
 rw [← hb]
 have hwb : w.heap.size ≤ b := by omega
 have HB0 := Lib.hid ((Below.refl w.heap.size w).alloc (Nat.le_refl _) (.map #[] 0))
 clear hb hmm
 go_loopw [15] (fun i wr => ∃ (k : Nat) (D : DataW Unit), i = .int .i64 (k : Int) ∧ k ≤ l.length ∧ wr.ownsMap Tryz.prog 3 RB b k D ∧ Bok D ((l.take k).map ch) ∧ Below w.heap.size w wr)
  (fun i _ => l.length - (Go.RowKit.intOf i).toNat)
 case atStart => exact ⟨0, _, rfl, Nat.zero_le _, HMD.out, bok_nil, HB0.out⟩
 case round =>
  obtain ⟨k, D, rfl, hk, hmap, hD, hbw⟩ := hrel
  have HBW := Lib.hid hbw
  have HMP := Lib.hid (And.intro hmap hD)
  clear hmap hD hbw
  by_cases hlt : k < l.length
  ·obtain ⟨r, hr⟩ := some_at hlt
   obtain ⟨b0, o0, rfl, -, e0, e1, e2, e3⟩ := row_cells (H1.out.keep HBW.out) hr
   have hk0 : (0 : Int) ≤ (k : Int) := by omega
   have hkl : (k : Int) < (l.length : Int) := by omega
   have hbx := HBW.out.alloc HBW.out.size (.cells #[.int .i64 (ch r), .int .i64 (pa r), .string (ba (nm r)), .float .f64 (rk r)] 28)
   have hm1 := map_keep HMP.out.1 ((Below.refl _ _).alloc (Nat.le_refl _) (.cells #[.int .i64 (ch r), .int .i64 (pa r), .string (ba (nm r)), .float .f64 (rk r)] 28))
   obtain ⟨wa, Da, hra, hma, hka, hga⟩ := put_b hm1 HMP.out.2 (by omega) (HI1.out r (mem_at hr))
   have HE := Lib.hid (And.intro hma (And.intro hka (hbx.grown hga hbx.size (fun k e => by cases e; exact hwb))))
   have HTK := Lib.hid (show (l.take (k + 1)).map ch = (l.take k).map ch ++ [ch r] by rw [List.take_add_one, hr]; simp)
   clear hma hka hga hr hbx hm1
   go_wp2_with fail
   go_roundw
   case rel => exact ⟨k + 1, Da, by go_num, by omega, HE.out.1, by rw [HTK.out]; exact HE.out.2.1, HE.out.2.2⟩
   case measure => simp only [Go.RowKit.intOf]; omega
  ·obtain rfl : k = l.length := by omega
   have hD := HMP.out.2
   rw [List.take_length] at hD
   have HM0 := Lib.hid (And.intro HMP.out.1 hD)
   clear HMP hD
   go_wp2_with fail
   go_loopw [25] (fun i wr => ∃ (k : Nat) (D : DataW Unit), i = .int .i64 (k : Int) ∧ k ≤ ms.length ∧ wr.ownsMap Tryz.prog 3 RB b (l.length + k) D ∧ Bok D (chs l (ms.take k)) ∧ Below w.heap.size w wr)
    (fun i _ => ms.length - (Go.RowKit.intOf i).toNat)
   case atStart => exact ⟨0, D, rfl, Nat.zero_le _, HM0.out.1, by unfold chs; simpa using HM0.out.2, HBW.out⟩
   case round =>
    clear HBW HM0
    obtain ⟨k, D, rfl, hk, hmap, hD, hbw⟩ := hrel
    have HBW := Lib.hid hbw
    have HMP := Lib.hid (And.intro hmap hD)
    clear hmap hD hbw
    by_cases hlt2 : k < ms.length
    ·obtain ⟨m, hm⟩ := some_at hlt2
     obtain ⟨b0, o0, rfl, -, e0, e1, e2, e3, e4, e5⟩ := move_cells (H2.out.keep HBW.out) hm
     have hk0 : (0 : Int) ≤ (k : Int) := by omega
     have hkl : (k : Int) < (ms.length : Int) := by omega
     have hbx := HBW.out.alloc HBW.out.size (.cells #[.int .i64 (mc m), .int .i64 (mr m), .int .i64 (pa (mw m)), .int .i64 (ch (mw m)), .string (ba (nm (mw m))), .float .f64 (rk (mw m))] 57)
     have hm1 := map_keep HMP.out.1 ((Below.refl _ _).alloc (Nat.le_refl _) (.cells #[.int .i64 (mc m), .int .i64 (mr m), .int .i64 (pa (mw m)), .int .i64 (ch (mw m)), .string (ba (nm (mw m))), .float .f64 (rk (mw m))] 57))
     obtain ⟨wa, Da, hra, hma, hka, hga⟩ := put_b hm1 HMP.out.2 (by omega) (HI2.out m (mem_at hm))
     have HE := Lib.hid (And.intro hma (And.intro hka (hbx.grown hga hbx.size (fun k e => by cases e; exact hwb))))
     have HTK := Lib.hid (show chs l (ms.take (k + 1)) = chs l (ms.take k) ++ [ch (mw m)] by unfold chs; rw [List.take_add_one, hm]; simp)
     clear hma hka hga hm hbx hm1
     go_wp2_with fail
     go_roundw
     case rel => exact ⟨k + 1, Da, by go_num, by omega, by rw [← Nat.add_assoc]; exact HE.out.1, by rw [HTK.out]; exact HE.out.2.1, HE.out.2.2⟩
     case measure => simp only [Go.RowKit.intOf]; omega
    ·obtain rfl : k = ms.length := by omega
     have hsz := size_le HMP.out.1 HMP.out.2.1
     have hcl : (chs l (ms.take ms.length)).length ≤ 1500 := by unfold chs; rw [List.length_append, List.length_map, List.length_map, List.length_take]; omega
     have hln := HMP.out.1.len Tryz.underlying47 3
     obtain ⟨z, hz⟩ : ∃ z, Maps.size D = z := ⟨_, rfl⟩
     rw [hz] at hln hsz
     have hz2 : z ≤ 1500 := by omega
     have hd : decide ((z : Int) ≤ 2000) = true := decide_eq_true (by omega)
     have hd2 : decide ((ms.length : Int) ≤ 2000) = true := decide_eq_true (by omega)
     have hd3 : decide (z ≤ 2000) = true := decide_eq_true (by omega)
     have hd4 : decide (ms.length ≤ 2000) = true := decide_eq_true (by omega)
     clear hz hsz hcl
     go_wp2_with fail
     go_ret
     exact ⟨rfl, HBW.out⟩
set_option maxHeartbeats 4000000 in
theorem lk1_c {p : Pl} {r : Rp} {G : Nat} (ok : RpOk r) {w : World} (hI : Is w G 55 (rpcs p r)) (ha : RpAt p r w) :
  Calls Tryz.prog 102 #[.pointer (some ⟨G, 0, none⟩)] w fun e w' => e = .returned (.bool (mayB r.B)) ∧ Below w.heap.size w w' := by
 obtain ⟨q0, q1, q2, q3, q4⟩ := box5 hI
 have H := Lib.hid (may_c p.A1 p.c1 r.B (by have := ok.lb; omega) (fun x hx => (ok.rb x hx).2) w ha.b)
 clear hI ha
 go_enter Tryz.func102, Tryz.ntmps102
 go_wp2_with fail
 refine H.out.mono ?_
 rintro e w1 ⟨rfl, hb⟩
 go_wp2_with fail
 go_ret
 exact ⟨rfl, hb⟩
set_option maxHeartbeats 4000000 in
theorem lk2_c {p : Pl} {r : Rp} {G : Nat} (ok : RpOk r) {w : World} (hI : Is w G 55 (rpcs p r)) (ha : RpAt p r w) :
  Calls Tryz.prog 103 #[.pointer (some ⟨G, 0, none⟩)] w fun e w' => e = .returned (.bool (mayM r.L)) ∧ Below w.heap.size w w' := by
 obtain ⟨q0, q1, q2, q3, q4⟩ := box5 hI
 have H := Lib.hid (mmay_k (A := p.A2) (cap := p.c2) r.L rfl rfl (by have := ok.ll; omega) (fun m hm => (ok.rl m hm).2) ha.l)
 clear hI ha
 go_enter Tryz.func103, Tryz.ntmps103
 go_wp2_with fail
 refine H.out.mono ?_
 rintro e w1 ⟨rfl, hb⟩
 go_wp2_with fail
 go_ret
 exact ⟨rfl, hb⟩
set_option maxHeartbeats 4000000 in
theorem lk3_c {p : Pl} {r : Rp} {G : Nat} (ok : RpOk r) {w : World} (hI : Is w G 55 (rpcs p r)) (ha : RpAt p r w) :
  Calls Tryz.prog 105 #[.pointer (some ⟨G, 0, none⟩)] w fun e w' => e = .returned (.bool (mayK r.V)) ∧ Below w.heap.size w w' := by
 obtain ⟨q0, q1, q2, q3, q4⟩ := box5 hI
 have H := Lib.hid (kmay_k (A := p.A3) (cap := p.c3) (l := r.V) rfl (by have := ok.lv; omega) ha.v)
 clear hI ha
 go_enter Tryz.func105, Tryz.ntmps105
 go_wp2_with fail
 refine H.out.mono ?_
 rintro e w1 ⟨rfl, hb⟩
 go_wp2_with fail
 go_ret
 exact ⟨rfl, hb⟩
set_option maxHeartbeats 4000000 in
theorem lk4_c {p : Pl} {r : Rp} {G : Nat} (ok : RpOk r) {w : World} (hI : Is w G 55 (rpcs p r)) (ha : RpAt p r w) :
  Calls Tryz.prog 107 #[.pointer (some ⟨G, 0, none⟩)] w fun e w' => e = .returned (.bool (decide ((sinM r.L r.fc r.fr).length = r.L.length))) ∧ Below w.heap.size w w' := by
 obtain ⟨q0, q1, q2, q3, q4⟩ := box5 hI
 have hl := ok.ll
 obtain ⟨N, hN⟩ : ∃ N, (sinM r.L r.fc r.fr).length = N := ⟨_, rfl⟩
 obtain ⟨n, hn⟩ : ∃ n, r.L.length = n := ⟨_, rfl⟩
 obtain ⟨A, hA⟩ : ∃ A, p.A2 = A := ⟨_, rfl⟩
 have hal := ha.l
 rw [hA] at hal q3
 rw [hn] at q3 hl
 have HC := Lib.hid fun (W : World) (h : Below w.heap.size w W) => msince_k (A := A) (cap := p.c2) r.L _ rfl hN hn (by omega) (hal.keep h)
 rw [hN, hn]
 obtain ⟨q, hq⟩ : ∃ q, decide (N = n) = q := ⟨_, rfl⟩
 rw [hq]
 have e1 : ((N : Int) == (n : Int)) = q := by rw [← hq, Bool.eq_iff_iff, beq_iff_eq, decide_eq_true_iff, Int.ofNat_inj]
 have E1 := Lib.hid e1
 have hsn : N ≤ n := by rw [← hN, ← hn]; exact List.length_filter_le _ _
 clear hI ha hal hN hn hA hq e1
 go_enter Tryz.func107, Tryz.ntmps107
 go_wp2_with fail
 go_region_held3 (fun w' => w'.cell? ⟨G, 1, none⟩ = some (.int .i64 r.fc) ∧ w'.cell? ⟨G, 2, none⟩ = some (.int .i64 r.fr) ∧ w'.cell? ⟨G, 3, none⟩ = some (.slice A n p.c2) ∧ Below w.heap.size w w')
  (first
   | (exact hold3k (by assumption) hbn)
   | (exact drew3k (by assumption))
   | (exact start3k q1 q2 q3)
   | go_keep)
  (first
   | (go_at_call 95; refine (HC.out _ (bel3k (by assumption))).mono ?_; rintro e wa ⟨E, fE, rfl, -, -, -, hbn⟩))
 have hbz : Below w.heap.size w wa := bel3k (by assumption)
 have HBZ := Lib.hid hbz
 clear hbz q0 q1 q2 q3 q4
 have e1 := E1.out
 go_wp2_with fail
 go_ret
 exact ⟨by rw [e1]; rfl, HBZ.out⟩
set_option maxHeartbeats 4000000 in
theorem lk5_c {p : Pl} {r : Rp} {G : Nat} (ok : RpOk r) {w : World} (hI : Is w G 55 (rpcs p r)) (ha : RpAt p r w) :
  Calls Tryz.prog 108 #[.pointer (some ⟨G, 0, none⟩)] w fun e w' => e = .returned (.bool (belowK (ofK r.L) r.V)) ∧ Below w.heap.size w w' := by
 obtain ⟨q0, q1, q2, q3, q4⟩ := box5 hI
 have hl := ok.ll
 have hv := ok.lv
 have hol := ofK_len r.L
 obtain ⟨O, hO⟩ : ∃ O, ofK r.L = O := ⟨_, rfl⟩
 rw [hO] at hol
 have HOF := Lib.hid fun (W : World) (h : Below w.heap.size w W) => kof_c p.A2 p.c2 r.L (by omega) W (ha.l.keep h)
 have HV := Lib.hid fun (W : World) (h : Below w.heap.size w W) => ha.v.keep h
 have hof := HOF.out
 simp only [hO] at hof
 have HOF2 := Lib.hid hof
 have HOL := Lib.hid (show O.length ≤ 100000 by omega)
 have HVL := Lib.hid (show r.V.length ≤ 100000 by omega)
 obtain ⟨q, hq⟩ : ∃ q, belowK O r.V = q := ⟨_, rfl⟩
 have HQ := Lib.hid hq
 rw [hO, hq]
 clear hI ha hof hO HOF hq
 go_enter Tryz.func108, Tryz.ntmps108
 go_wp2_with fail
 go_region_held3 (fun w' => w'.cell? ⟨G, 3, none⟩ = some (.slice p.A2 r.L.length p.c2) ∧ w'.cell? ⟨G, 4, none⟩ = some (.slice p.A3 r.V.length p.c3) ∧ Below w.heap.size w w')
  (first
   | (exact hold2k (by assumption) hbn)
   | (exact drew2k (by assumption))
   | (exact start2k q3 q4)
   | go_keep)
  (first
   | (go_at_call 64; refine (HOF2.out _ (bel2k (by assumption))).mono ?_; rintro e wa ⟨E, fE, rfl, hown, hbn⟩; have hj1 := own_atK hown)
   | (go_at_call 60; refine (kbelow_k HQ.out HOL.out HVL.out hj1 (HV.out _ (bel2k (by assumption)))).mono ?_; rintro e wa ⟨rfl, hbn⟩))
 have hbz : Below w.heap.size w wa := bel2k (by assumption)
 have HBZ := Lib.hid hbz
 clear hbz q0 q1 q2 q3 q4
 go_wp2_with fail
 go_ret
 exact ⟨rfl, HBZ.out⟩
set_option maxHeartbeats 4000000 in
theorem lk6_c {p : Pl} {r : Rp} {G : Nat} (ok : RpOk r) {w : World} (hI : Is w G 55 (rpcs p r)) (ha : RpAt p r w) :
  Calls Tryz.prog 109 #[.pointer (some ⟨G, 0, none⟩)] w fun e w' => e = .returned (.bool (zeroT r.fc r.fr || knownK r.V r.fc r.fr)) ∧ Below w.heap.size w w' := by
 obtain ⟨q0, q1, q2, q3, q4⟩ := box5 hI
 have H := Lib.hid (known_c p.A3 p.c3 r.V r.fc r.fr (by have := ok.lv; unfold maxLen; omega) w ha.v)
 clear hI ha
 obtain ⟨fc, hfc⟩ : ∃ x, r.fc = x := ⟨_, rfl⟩
 obtain ⟨fr, hfr⟩ : ∃ x, r.fr = x := ⟨_, rfl⟩
 rw [hfc] at q1 H ⊢
 rw [hfr] at q2 H ⊢
 clear hfc hfr
 by_cases h1 : fc = 0
 ·subst h1
  by_cases h2 : fr = 0
  ·subst h2
   clear H
   go_enter Tryz.func109, Tryz.ntmps109
   go_wp2_with fail
   go_ret
   exact ⟨rfl, Below.refl _ _⟩
  ·have HZ := Lib.hid (show zeroT 0 fr = false by unfold zeroT; rw [decide_eq_false h2, Bool.and_false])
   go_enter Tryz.func109, Tryz.ntmps109
   go_wp2_with fail
   refine H.out.mono ?_
   rintro e w1 ⟨rfl, hb⟩
   go_wp2_with fail
   go_ret
   rw [HZ.out]
   exact ⟨rfl, hb⟩
 ·have HZ := Lib.hid (show zeroT fc fr = false by unfold zeroT; rw [decide_eq_false h1, Bool.false_and])
  go_enter Tryz.func109, Tryz.ntmps109
  go_wp2_with fail
  refine H.out.mono ?_
  rintro e w1 ⟨rfl, hb⟩
  go_wp2_with fail
  go_ret
  rw [HZ.out]
  exact ⟨rfl, hb⟩
set_option maxHeartbeats 4000000 in
theorem lk7_c {p : Pl} {r : Rp} {G : Nat} (ok : RpOk r) (h1 : ∀ x ∈ r.B, In64 (ch x)) (h2 : ∀ m ∈ r.L, In64 (ch (mw m))) {w : World} (hI : Is w G 55 (rpcs p r)) (ha : RpAt p r w) :
  Calls Tryz.prog 110 #[.pointer (some ⟨G, 0, none⟩)] w fun e w' => e = .returned (.bool (true)) ∧ Below w.heap.size w w' := by
 obtain ⟨q0, q1, q2, q3, q4⟩ := box5 hI
 have H := Lib.hid (fits_c p.A1 p.A2 p.c1 p.c2 r.B r.L (by have := ok.lb; have := ok.ll; omega) h1 h2 w ha.b ha.l)
 clear hI ha
 go_enter Tryz.func110, Tryz.ntmps110
 go_wp2_with fail
 refine H.out.mono ?_
 rintro e w1 ⟨rfl, hb⟩
 go_wp2_with fail
 go_ret
 exact ⟨rfl, hb⟩
end Go.Proofs.YthhckdjagnlgpaaGreat
end
