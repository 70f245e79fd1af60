/-
 Slices as cells that lie below a bound; two lists held against each other; iterators over them.
 Rows as cells; the place of the first row that fits (slices.IndexFunc, slices.ContainsFunc).
-/
import Derived.Test.YtkobmnbjeppnaaaGreatBa
import Derived.Deep.QuietTactic
import Derived.BigQuiet
import Derived.Deep.RegionHeld3
import Derived.Deep.LoopGhost
import Derived.WalkMore
import Derived.Shelf.Abstract
section
namespace Go.Proofs.YtkobmnbjeppnaaaGreat
open Go.RowKit
open Pk
set_option maxRecDepth 100000
/-- behind the address A lie the cells xs, below B -/
def At (w : World) (B : Nat) (A : Option Addr) (xs : List Value) : Prop := ∀ (i : Nat) (v : Value), xs[i]? = some v → ∃ b off, A = some ⟨b, off, none⟩ ∧ b < B ∧ w.cell? ⟨b, off + i, none⟩ = some v
theorem At.below {B : Nat} {w w' : World} {A : Option Addr} {xs : List Value} (h : At w B A xs) (hb : Below B w w') : At w' B A xs := fun i v hv => by
 obtain ⟨b, off, ha, hlt, hc⟩ := h i v hv
 exact ⟨b, off, ha, hlt, (hb.cell (p := ⟨b, off + i, none⟩) hlt).trans hc⟩
theorem At.mono {B B' : Nat} {w : World} {A : Option Addr} {xs : List Value} (h : At w B A xs) (hB : B ≤ B') : At w B' A xs := fun i v hv => by
 obtain ⟨b, off, ha, hlt, hc⟩ := h i v hv
 exact ⟨b, off, ha, Nat.lt_of_lt_of_le hlt hB, hc⟩
theorem At.keep {w w' : World} {A : Option Addr} {xs : List Value} (h : At w w.heap.size A xs) (hb : Below w.heap.size w w') : At w' w'.heap.size A xs := (h.below hb).mono hb.size
theorem At.nil (w : World) (B : Nat) (A : Option Addr) : At w B A [] := fun i v hv => by simp at hv
theorem At.take {w : World} {B : Nat} {A : Option Addr} {xs : List Value} (h : At w B A xs) (n : Nat) : At w B A (xs.take n) := fun i v hv => by
 by_cases hi : i < n
 ·rw [List.getElem?_take_of_lt hi] at hv
  exact h i v hv
 ·rw [List.getElem?_eq_none (by rw [List.length_take]; omega)] at hv
  cases hv
theorem At.drop {w : World} {B b off : Nat} {xs : List Value} (h : At w B (some ⟨b, off, none⟩) xs) (n : Nat) : At w B (some ⟨b, off + n, none⟩) (xs.drop n) := fun i v hv => by
 rw [List.getElem?_drop] at hv
 obtain ⟨b', off', ha, hlt, hc⟩ := h _ v hv
 cases ha
 exact ⟨b, off + n, rfl, hlt, by rw [Nat.add_assoc]; exact hc⟩
/-- the address is nobody's yet, at a heap of N blocks -/
def Fresh (N : Nat) (A : Option Addr) : Prop := ∀ a, A = some a → N ≤ a.block
/-- a row of the call's own -/
theorem own_at {w : World} {base : Nat} {e : TypeId} {size : Nat} {v : Value} {n : Nat} {xs : List Value} (h : w.ownsRow base e size v n xs) : ∃ A cap, v = .slice A n cap ∧ At w w.heap.size A xs ∧ Fresh base A ∧ n ≤ cap := by
 rcases hv : v.ownBlock with _ | g
 ·rcases h.2 with ⟨rfl, rfl⟩ | ⟨g, cap, cur, rfl, _⟩
  ·have : xs = [] := List.eq_nil_of_length_eq_zero (by rw [h.1]; simp)
   subst this
   exact ⟨none, 0, rfl, At.nil _ _ _, fun a ha => (by cases ha), Nat.le_refl _⟩
  ·simp [Value.ownBlock] at hv
 ·have hlt := (h.lt g hv).2
  have hcell := h.cells hv
  rcases h.2 with ⟨rfl, rfl⟩ | ⟨g', cap, cur, rfl, hg', _, hcap, _⟩
  ·simp [Value.ownBlock] at hv
  ·have hg : g' = g := by simpa [Value.ownBlock] using hv
   subst hg
   refine ⟨_, _, rfl, fun i u hu => ⟨g', 0, rfl, hlt, ?_⟩, fun a ha => by cases ha; exact hg', hcap⟩
   have := hcell i u hu
   rw [add_head] at this
   rw [Nat.zero_add]
   exact this
def ivs (l : List Int) : List Value := l.map (Value.int .i64)
theorem ivs_at {l : List Int} {k : Nat} {x : Int} (h : l[k]? = some x) : (ivs l)[k]? = some (.int .i64 x) := by simp [ivs, h]
theorem ivs_len (l : List Int) : (ivs l).length = l.length := by simp [ivs]
theorem some_at {α : Type} {l : List α} {k : Nat} (h : k < l.length) : ∃ x, l[k]? = some x := ⟨_, List.getElem?_eq_getElem h⟩
theorem mem_at {α : Type} {l : List α} {k : Nat} {x : α} (h : l[k]? = some x) : x ∈ l := List.mem_of_getElem? h
theorem below_drewN {B : Nat} {a w : World} (h : Below B a w) (n : Nat) : Below B a (w.drewN n) := ⟨h.os, h.tape, h.output, h.size, h.block⟩
theorem ext_take {α : Type} {xs ys : List α} {k : Nat} (h : xs.take k = ys.take k) {x y : α} (hx : xs[k]? = some x) (hy : ys[k]? = some y) : (xs.take (k + 1) = ys.take (k + 1) ↔ x = y) := by
 rw [List.take_add_one, List.take_add_one, h, hx, hy]
 simp
theorem at_drewE {w w' : World} {B : Nat} {A : Option Addr} {xs : List Value} (h : At w B A xs) (hq : ∃ q, w' = w.drewN q) : At w' B A xs := by
 obtain ⟨q, rfl⟩ := hq
 exact h
theorem drewE {w w' : World} (hq : ∃ q, w' = w.drewN q) (n : Nat) : ∃ q, w'.drewN n = w.drewN q := by
 obtain ⟨q, rfl⟩ := hq
 exact ⟨q + n, by simp⟩
theorem same5_q (A1 A2 : Option Addr) (c1 c2 : Nat) (xs ys : List Int) (hx : xs.length ≤ maxLen) (hy : ys.length ≤ maxLen) (w : World) (h1 : At w w.heap.size A1 (ivs xs)) (h2 : At w w.heap.size A2 (ivs ys)) :
  Calls Tryz.prog 31 #[.slice A1 xs.length c1, .slice A2 ys.length c2] w fun e w' => e = .returned (.bool (decide (xs = ys))) ∧ ∃ q, w' = w.drewN q := by
 unfold maxLen at hx hy
 have H1 := Lib.hid h1
 have H2 := Lib.hid h2
 clear h1 h2
 by_cases hl : xs.length = ys.length
 ·obtain ⟨n, hn⟩ : ∃ n, n = ys.length := ⟨_, rfl⟩
  have hn1 : xs.length = n := by omega
  rw [← hn, hn1]
  rw [hn1] at hx hl
  rw [← hn] at hy hl
  have HN := Lib.hid hn
  have HN1 := Lib.hid hn1
  clear hn hn1
  go_enter Tryz.func31, Tryz.ntmps31
  go_wp2_with fail
  go_loopw [5] (fun i wr => ∃ k : Nat, i = .int .i64 (k : Int) ∧ k ≤ n ∧ xs.take k = ys.take k ∧ ∃ q, wr = w.drewN q) (fun i _ => n - (intOf i).toNat)
  case atStart => exact ⟨0, rfl, Nat.zero_le _, rfl, 0, rfl⟩
  case round =>
   obtain ⟨k, rfl, hk, heq, hq⟩ := hrel
   have HQ := Lib.hid hq
   clear hq
   have HEQ := Lib.hid heq
   clear heq
   by_cases hlt : k < n
   ·obtain ⟨x, hxk⟩ := some_at (show k < xs.length by rw [HN1.out]; exact hlt)
    obtain ⟨y, hyk⟩ := some_at (show k < ys.length by rw [← HN.out]; exact hlt)
    obtain ⟨b1, o1, rfl, _, hc1⟩ := (at_drewE H1.out HQ.out) k _ (ivs_at hxk)
    obtain ⟨b2, o2, rfl, _, hc2⟩ := (at_drewE H2.out HQ.out) k _ (ivs_at hyk)
    have HE := Lib.hid (ext_take HEQ.out hxk hyk)
    have HX := Lib.hid hxk
    have HY := Lib.hid hyk
    clear hxk hyk
    by_cases hxy : x = y
    ·have ht : (x != y) = false := by simp [hxy]
     have HT := Lib.hid hxy
     clear hxy
     go_wp2_with fail
     go_quiet (fail)
     go_wp2
     go_roundw
     case rel => exact ⟨k + 1, by go_num, by omega, HE.out.2 HT.out, drewE HQ.out _⟩
     case measure => simp only [intOf]; omega
    ·have ht : (x != y) = true := by simpa using hxy
     have HT := Lib.hid hxy
     clear hxy
     go_wp2_with fail
     go_quiet (fail)
     go_wp2
     go_ret
     refine ⟨ret_bool ?_, drewE HQ.out _⟩
     have : ¬ xs = ys := fun e => HT.out (HE.out.1 (by rw [e]))
     simp [this]
   ·obtain rfl : k = n := by omega
    go_wp2_with fail
    go_ret
    refine ⟨ret_bool ?_, HQ.out⟩
    have h := HEQ.out
    rw [List.take_of_length_le (by rw [HN1.out]; exact Nat.le_refl _), List.take_of_length_le (by rw [← HN.out]; exact Nat.le_refl _)] at h
    simp [h]
 ·have HL := Lib.hid hl
  have ht : ((xs.length : Int) != (ys.length : Int)) = true := by simp only [bne_iff_ne, ne_eq]; omega
  clear hl
  go_enter Tryz.func31, Tryz.ntmps31
  go_wp2_with fail
  go_ret
  refine ⟨ret_bool ?_, 0, rfl⟩
  have : ¬ xs = ys := fun e => HL.out (by rw [e])
  simp [this]
end Go.Proofs.YtkobmnbjeppnaaaGreat
end
section
namespace Go.Proofs.YtkobmnbjeppnaaaGreat
open Go.RowKit Go.IntWalk
set_option maxRecDepth 100000
attribute [local go_sem] Oper.semAt_some
/-- a row: its child, its parent, its name, its rank -/
abbrev Rw := Int × Int × List UInt8 × Nat
abbrev ch (r : Rw) : Int := r.1
abbrev pa (r : Rw) : Int := r.2.1
abbrev nm (r : Rw) : List UInt8 := r.2.2.1
abbrev rk (r : Rw) : Nat := r.2.2.2
def rcs (r : Rw) : List Value := [.int .i64 (ch r), .int .i64 (pa r), .string (ba (nm r)), .float .f64 (rk r)]
def rv (r : Rw) : Value := .agg #[.int .i64 (ch r), .int .i64 (pa r), .string (ba (nm r)), .float .f64 (rk r)]
/-- the cells of a list of rows -/
def tvs (l : List Rw) : List Value := l.flatMap rcs
/-- such rows as a program may have -/
def Rows_ (l : List Rw) : Prop := ∀ r ∈ l, rk r < 18446744073709551616 ∧ (nm r).length ≤ maxLen
theorem tvs_len (l : List Rw) : (tvs l).length = l.length * 4 := by
 induction l with
 | nil => rfl
 | cons x l ih =>
  have h : tvs (x :: l) = rcs x ++ tvs l := rfl
  rw [h, List.length_append, List.length_cons, ih, show (rcs x).length = 4 from rfl]
  omega
theorem tvs_append (a b : List Rw) : tvs (a ++ b) = tvs a ++ tvs b := by simp [tvs]
theorem tvs_one (l : List Rw) : ∀ u ∈ tvs l, u.oneCell' = true := by
 intro u hu
 simp only [tvs, List.mem_flatMap, rcs] at hu
 obtain ⟨x, _, hx⟩ := hu
 simp only [List.mem_cons, List.not_mem_nil, or_false] at hx
 rcases hx with rfl | rfl | rfl | rfl <;> rfl
theorem tvs_take (l : List Rw) : ∀ j, tvs (l.take j) = (tvs l).take (j * 4) := by
 induction l with
 | nil => intro j; simp [tvs]
 | cons c l ih =>
  intro j
  cases j with
  | zero => simp [tvs]
  | succ j =>
   rw [List.take_succ_cons, show tvs (c :: l.take j) = rcs c ++ tvs (l.take j) from rfl, ih, show tvs (c :: l) = rcs c ++ tvs l from rfl, List.take_append, List.take_of_length_le (l := rcs c) (by show 4 ≤ (j + 1) * 4; omega), show (j + 1) * 4 - (rcs c).length = j * 4 from by show (j + 1) * 4 - 4 = _; omega]
theorem tvs_drop (l : List Rw) : ∀ j, tvs (l.drop j) = (tvs l).drop (j * 4) := by
 induction l with
 | nil => intro j; simp [tvs]
 | cons c l ih =>
  intro j
  cases j with
  | zero => simp [tvs]
  | succ j =>
   rw [List.drop_succ_cons, ih, show tvs (c :: l) = rcs c ++ tvs l from rfl, List.drop_append, List.drop_of_length_le (l := rcs c) (by show 4 ≤ (j + 1) * 4; omega), show (j + 1) * 4 - (rcs c).length = j * 4 from by show (j + 1) * 4 - 4 = _; omega, List.nil_append]
theorem tvs_at {l : List Rw} {k : Nat} {x : Rw} (h : l[k]? = some x) : (tvs l)[k * 4]? = some (.int .i64 (ch x)) ∧ (tvs l)[k * 4 + 1]? = some (.int .i64 (pa x)) ∧ (tvs l)[k * 4 + 2]? = some (.string (ba (nm x))) ∧ (tvs l)[k * 4 + 3]? = some (.float .f64 (rk x)) := by
 have hd : tvs (l.drop k) = rcs x ++ tvs (l.drop (k + 1)) := by
  have hk := (List.getElem?_eq_some_iff.1 h).1
  have hc := (List.getElem?_eq_some_iff.1 h).2
  rw [List.drop_eq_getElem_cons hk, hc]; rfl
 rw [tvs_drop] at hd
 have g : ∀ i, (tvs l)[k * 4 + i]? = (rcs x ++ tvs (l.drop (k + 1)))[i]? := fun i => by rw [← hd, List.getElem?_drop]
 exact ⟨by have := g 0; simpa [rcs] using this, by have := g 1; simpa [rcs] using this, by have := g 2; simpa [rcs] using this, by have := g 3; simpa [rcs] using this⟩
theorem row_cells {w : World} {B k : Nat} {A : Option Addr} {l : List Rw} {x : Rw} (h : At w B A (tvs l)) (hk : l[k]? = some x) :
  ∃ b off, A = some ⟨b, off, none⟩ ∧ b < B ∧ w.cell? ⟨b, off + k * 4, none⟩ = some (.int .i64 (ch x)) ∧ w.cell? ⟨b, off + k * 4 + 1, none⟩ = some (.int .i64 (pa x)) ∧ w.cell? ⟨b, off + k * 4 + 2, none⟩ = some (.string (ba (nm x))) ∧ w.cell? ⟨b, off + k * 4 + 3, none⟩ = some (.float .f64 (rk x)) := by
 obtain ⟨h1, h2, h3, h4⟩ := tvs_at hk
 obtain ⟨b, off, hA, hlt, hc⟩ := h _ _ h1
 obtain ⟨b', off', hA', _, hc'⟩ := h _ _ h2
 rw [hA] at hA'
 cases hA'
 obtain ⟨b', off', hA', _, hc2⟩ := h _ _ h3
 rw [hA] at hA'
 cases hA'
 obtain ⟨b', off', hA', _, hc3⟩ := h _ _ h4
 rw [hA] at hA'
 cases hA'
 exact ⟨b, off, hA, hlt, hc, hc', hc2, hc3⟩
theorem Tryz.info28 : (Tryz.prog.info? 28).map (fun i => (i.zero, i.size, i.bytes)) = some (some (.agg #[.int .i64 0, .int .i64 0, .string ByteArray.empty, .float .f64 0]), 4, 40) := by kernel_rfl
theorem lt_of_cell {w : World} {p : Addr} {v : Value} (h : w.cell? p = some v) : p.block < w.heap.size := World.block_lt_of_cell? w p h
theorem keep_cell {X w' : World} {p : Addr} {v : Value} (hb : Below X.heap.size X w') (h : X.cell? p = some v) : w'.cell? p = some v := (hb.cell (lt_of_cell h)).trans h
/-- what a function value says of a row, wherever it is asked -/
def Pred (g : Nat) (lb : Array Value) (p : Rw → Bool) (w : World) (l : List Rw) : Prop :=
 ∀ (W : World) (r : Rw), Below w.heap.size w W → r ∈ l → Calls Tryz.prog g (#[rv r] ++ lb) W fun e W' => e = .returned (.bool (p r)) ∧ Below W.heap.size W W'
def idx (p : Rw → Bool) (l : List Rw) : Int := match l.findIdx? p with
 | some i => (i : Int)
 | none => -1
theorem idx_none {p : Rw → Bool} {l : List Rw} (h : ∀ r ∈ l, p r = false) : idx p l = -1 := by
 have : l.findIdx? p = none := List.findIdx?_eq_none_iff.2 h
 unfold idx; rw [this]
theorem idx_some {p : Rw → Bool} {l : List Rw} {k : Nat} {r : Rw} (hk : l[k]? = some r) (hp : p r = true) (h : ∀ x ∈ l.take k, p x = false) : idx p l = (k : Int) := by
 have hkl := (List.getElem?_eq_some_iff.1 hk).1
 have hkr := (List.getElem?_eq_some_iff.1 hk).2
 have : l.findIdx? p = some k := by
  rw [List.findIdx?_eq_some_iff_getElem]
  refine ⟨hkl, by rw [hkr]; exact hp, fun j hj => ?_⟩
  have := h l[j] (by rw [List.mem_take_iff_getElem]; exact ⟨j, by omega, rfl⟩)
  simp [this]
 unfold idx; rw [this]
set_option maxHeartbeats 2000000 in
theorem indexFunc_c (A : Option Addr) (cap : Nat) (l : List Rw) (g : Nat) (lb : Array Value) (p : Rw → Bool) (hl : l.length ≤ maxLen) (eg : ∀ args w, (callFunc g args).run Tryz.prog w = .ok (.enter g args) w) (w : World)
  (hc : At w w.heap.size A (tvs l)) (hp : Pred g lb p w l) :
  Calls Tryz.prog 50 #[.slice A l.length cap, .func (.func g) #[] lb] w fun e w' => e = .returned (.int .i64 (idx p l)) ∧ Below w.heap.size w w' := by
 unfold maxLen at hl
 obtain ⟨R, hR⟩ : ∃ R, idx p l = R := ⟨_, rfl⟩
 rw [hR]
 have HR := Lib.hid hR
 have HC := Lib.hid hc
 have HP := Lib.hid hp
 clear hR hc hp
 go_enter Tryz.func50, Tryz.ntmps50
 go_wp2_with fail
 go_loopw [8] (fun i wr => ∃ k : Nat, i = .int .i64 (k : Int) ∧ k ≤ l.length ∧ (∀ x ∈ l.take k, p x = false) ∧ Below w.heap.size w wr) (fun i _ => l.length - (intOf i).toNat)
 case atStart => exact ⟨0, rfl, Nat.zero_le _, fun x hx => by simp at hx, Below.refl _ _⟩
 case round =>
  obtain ⟨k, rfl, hk, hno, hb⟩ := hrel
  have HN := Lib.hid hno
  clear hno
  by_cases hlt : k < l.length
  ·obtain ⟨r, hr⟩ := some_at hlt
   obtain ⟨b0, o0, rfl, hb0, c0, c1, c2, c3⟩ := row_cells (HC.out.below hb) hr
   have hcall := HP.out wr r hb (mem_at hr)
   have HRR := Lib.hid hr
   clear hr
   cases hq : p r with
   | true =>
    rw [hq] at hcall
    go_wp2_with (go_at_fn g; refine hcall.mono ?_; rintro e w' ⟨rfl, hb'⟩)
    go_ret
    rw [← HR.out, idx_some HRR.out hq HN.out]
    exact ⟨rfl, hb.trans (hb'.mono hb.size)⟩
   | false =>
    rw [hq] at hcall
    have HQ := Lib.hid hq
    clear hq
    go_wp2_with (go_at_fn g; refine hcall.mono ?_; rintro e w' ⟨rfl, hb'⟩)
    go_roundw
    case rel =>
     refine ⟨k + 1, by go_num, by omega, fun x hx => ?_, hb.trans (hb'.mono hb.size)⟩
     rw [List.take_add_one, HRR.out] at hx
     rcases List.mem_append.1 hx with h | h
     ·exact HN.out x h
     ·simp at h; rw [h]; exact HQ.out
    case measure => simp only [intOf]; omega
  ·obtain rfl : k = l.length := by omega
   have h := HN.out
   rw [List.take_length] at h
   have HNN := Lib.hid h
   clear h
   go_wp2_with fail
   go_ret
   rw [← HR.out, idx_none HNN.out]
   exact ⟨rfl, hb⟩
end Go.Proofs.YtkobmnbjeppnaaaGreat
end
