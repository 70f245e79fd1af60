/-
 Slices as cells that lie below a bound; two lists held against each other; iterators over them.
 Rows as cells; the place of the first row that fits (slices.IndexFunc, slices.ContainsFunc).
 The first row of a child: its place, and itself, by the program and by the document.
 Whether a row may be, and whether two are alike; lists of rows held against each other; few rows.
-/
import Derived.Test.YthhckdjagnlgpaaGreatBa
import Derived.Deep.QuietTactic
import Derived.BigQuiet
import Derived.Deep.RegionHeld3
import Derived.Deep.LoopGhost
import Derived.WalkMore
import Derived.Shelf.Abstract
import Derived.Test.YthhckdjagnlgpaaGreatNm
import Derived.Test.YthhckdjagnlgpaaGreatEa
section
namespace Go.Proofs.YthhckdjagnlgpaaGreat
open Go.RowKit
open Pk
set_option maxRecDepth 100000
/-- behind the address A lie the cells xs, below B -/
def At (w : World) (B : Nat) (A : Option Addr) (xs : List Value) : Prop := ∀ (i : Nat) (v : Value), xs[i]? = some v → ∃ b off, A = some ⟨b, off, none⟩ ∧ b < B ∧ w.cell? ⟨b, off + i, none⟩ = some v
theorem At.below {B : Nat} {w w' : World} {A : Option Addr} {xs : List Value} (h : At w B A xs) (hb : Below B w w') : At w' B A xs := fun i v hv => by
 obtain ⟨b, off, ha, hlt, hc⟩ := h i v hv
 exact ⟨b, off, ha, hlt, (hb.cell (p := ⟨b, off + i, none⟩) hlt).trans hc⟩
theorem At.mono {B B' : Nat} {w : World} {A : Option Addr} {xs : List Value} (h : At w B A xs) (hB : B ≤ B') : At w B' A xs := fun i v hv => by
 obtain ⟨b, off, ha, hlt, hc⟩ := h i v hv
 exact ⟨b, off, ha, Nat.lt_of_lt_of_le hlt hB, hc⟩
theorem At.keep {w w' : World} {A : Option Addr} {xs : List Value} (h : At w w.heap.size A xs) (hb : Below w.heap.size w w') : At w' w'.heap.size A xs := (h.below hb).mono hb.size
theorem At.nil (w : World) (B : Nat) (A : Option Addr) : At w B A [] := fun i v hv => by simp at hv
theorem At.take {w : World} {B : Nat} {A : Option Addr} {xs : List Value} (h : At w B A xs) (n : Nat) : At w B A (xs.take n) := fun i v hv => by
 by_cases hi : i < n
 ·rw [List.getElem?_take_of_lt hi] at hv
  exact h i v hv
 ·rw [List.getElem?_eq_none (by rw [List.length_take]; omega)] at hv
  cases hv
theorem At.drop {w : World} {B b off : Nat} {xs : List Value} (h : At w B (some ⟨b, off, none⟩) xs) (n : Nat) : At w B (some ⟨b, off + n, none⟩) (xs.drop n) := fun i v hv => by
 rw [List.getElem?_drop] at hv
 obtain ⟨b', off', ha, hlt, hc⟩ := h _ v hv
 cases ha
 exact ⟨b, off + n, rfl, hlt, by rw [Nat.add_assoc]; exact hc⟩
/-- the address is nobody's yet, at a heap of N blocks -/
def Fresh (N : Nat) (A : Option Addr) : Prop := ∀ a, A = some a → N ≤ a.block
/-- a row of the call's own -/
theorem own_at {w : World} {base : Nat} {e : TypeId} {size : Nat} {v : Value} {n : Nat} {xs : List Value} (h : w.ownsRow base e size v n xs) : ∃ A cap, v = .slice A n cap ∧ At w w.heap.size A xs ∧ Fresh base A ∧ n ≤ cap := by
 rcases hv : v.ownBlock with _ | g
 ·rcases h.2 with ⟨rfl, rfl⟩ | ⟨g, cap, cur, rfl, _⟩
  ·have : xs = [] := List.eq_nil_of_length_eq_zero (by rw [h.1]; simp)
   subst this
   exact ⟨none, 0, rfl, At.nil _ _ _, fun a ha => (by cases ha), Nat.le_refl _⟩
  ·simp [Value.ownBlock] at hv
 ·have hlt := (h.lt g hv).2
  have hcell := h.cells hv
  rcases h.2 with ⟨rfl, rfl⟩ | ⟨g', cap, cur, rfl, hg', _, hcap, _⟩
  ·simp [Value.ownBlock] at hv
  ·have hg : g' = g := by simpa [Value.ownBlock] using hv
   subst hg
   refine ⟨_, _, rfl, fun i u hu => ⟨g', 0, rfl, hlt, ?_⟩, fun a ha => by cases ha; exact hg', hcap⟩
   have := hcell i u hu
   rw [add_head] at this
   rw [Nat.zero_add]
   exact this
def ivs (l : List Int) : List Value := l.map (Value.int .i64)
theorem some_at {α : Type} {l : List α} {k : Nat} (h : k < l.length) : ∃ x, l[k]? = some x := ⟨_, List.getElem?_eq_getElem h⟩
theorem mem_at {α : Type} {l : List α} {k : Nat} {x : α} (h : l[k]? = some x) : x ∈ l := List.mem_of_getElem? h
theorem below_drewN {B : Nat} {a w : World} (h : Below B a w) (n : Nat) : Below B a (w.drewN n) := ⟨h.os, h.tape, h.output, h.size, h.block⟩
theorem ext_take {α : Type} {xs ys : List α} {k : Nat} (h : xs.take k = ys.take k) {x y : α} (hx : xs[k]? = some x) (hy : ys[k]? = some y) : (xs.take (k + 1) = ys.take (k + 1) ↔ x = y) := by
 rw [List.take_add_one, List.take_add_one, h, hx, hy]
 simp
theorem at_drewE {w w' : World} {B : Nat} {A : Option Addr} {xs : List Value} (h : At w B A xs) (hq : ∃ q, w' = w.drewN q) : At w' B A xs := by
 obtain ⟨q, rfl⟩ := hq
 exact h
theorem drewE {w w' : World} (hq : ∃ q, w' = w.drewN q) (n : Nat) : ∃ q, w'.drewN n = w.drewN q := by
 obtain ⟨q, rfl⟩ := hq
 exact ⟨q + n, by simp⟩
end Go.Proofs.YthhckdjagnlgpaaGreat
end
section
namespace Go.Proofs.YthhckdjagnlgpaaGreat
open Go.RowKit Go.IntWalk
set_option maxRecDepth 100000
attribute [local go_sem] Oper.semAt_some
/-- a row: its child, its parent, its name, its rank -/
abbrev Rw := Int × Int × List UInt8 × Nat
abbrev ch (r : Rw) : Int := r.1
abbrev pa (r : Rw) : Int := r.2.1
abbrev nm (r : Rw) : List UInt8 := r.2.2.1
abbrev rk (r : Rw) : Nat := r.2.2.2
def rcs (r : Rw) : List Value := [.int .i64 (ch r), .int .i64 (pa r), .string (ba (nm r)), .float .f64 (rk r)]
def rv (r : Rw) : Value := .agg #[.int .i64 (ch r), .int .i64 (pa r), .string (ba (nm r)), .float .f64 (rk r)]
/-- the cells of a list of rows -/
def tvs (l : List Rw) : List Value := l.flatMap rcs
/-- such rows as a program may have -/
def Rows_ (l : List Rw) : Prop := ∀ r ∈ l, rk r < 18446744073709551616 ∧ (nm r).length ≤ maxLen
theorem tvs_len (l : List Rw) : (tvs l).length = l.length * 4 := by
 induction l with
 | nil => rfl
 | cons x l ih =>
  have h : tvs (x :: l) = rcs x ++ tvs l := rfl
  rw [h, List.length_append, List.length_cons, ih, show (rcs x).length = 4 from rfl]
  omega
theorem tvs_append (a b : List Rw) : tvs (a ++ b) = tvs a ++ tvs b := by simp [tvs]
theorem tvs_one (l : List Rw) : ∀ u ∈ tvs l, u.oneCell' = true := by
 intro u hu
 simp only [tvs, List.mem_flatMap, rcs] at hu
 obtain ⟨x, _, hx⟩ := hu
 simp only [List.mem_cons, List.not_mem_nil, or_false] at hx
 rcases hx with rfl | rfl | rfl | rfl <;> rfl
theorem tvs_take (l : List Rw) : ∀ j, tvs (l.take j) = (tvs l).take (j * 4) := by
 induction l with
 | nil => intro j; simp [tvs]
 | cons c l ih =>
  intro j
  cases j with
  | zero => simp [tvs]
  | succ j =>
   rw [List.take_succ_cons, show tvs (c :: l.take j) = rcs c ++ tvs (l.take j) from rfl, ih, show tvs (c :: l) = rcs c ++ tvs l from rfl, List.take_append, List.take_of_length_le (l := rcs c) (by show 4 ≤ (j + 1) * 4; omega), show (j + 1) * 4 - (rcs c).length = j * 4 from by show (j + 1) * 4 - 4 = _; omega]
theorem tvs_drop (l : List Rw) : ∀ j, tvs (l.drop j) = (tvs l).drop (j * 4) := by
 induction l with
 | nil => intro j; simp [tvs]
 | cons c l ih =>
  intro j
  cases j with
  | zero => simp [tvs]
  | succ j =>
   rw [List.drop_succ_cons, ih, show tvs (c :: l) = rcs c ++ tvs l from rfl, List.drop_append, List.drop_of_length_le (l := rcs c) (by show 4 ≤ (j + 1) * 4; omega), show (j + 1) * 4 - (rcs c).length = j * 4 from by show (j + 1) * 4 - 4 = _; omega, List.nil_append]
theorem tvs_at {l : List Rw} {k : Nat} {x : Rw} (h : l[k]? = some x) : (tvs l)[k * 4]? = some (.int .i64 (ch x)) ∧ (tvs l)[k * 4 + 1]? = some (.int .i64 (pa x)) ∧ (tvs l)[k * 4 + 2]? = some (.string (ba (nm x))) ∧ (tvs l)[k * 4 + 3]? = some (.float .f64 (rk x)) := by
 have hd : tvs (l.drop k) = rcs x ++ tvs (l.drop (k + 1)) := by
  have hk := (List.getElem?_eq_some_iff.1 h).1
  have hc := (List.getElem?_eq_some_iff.1 h).2
  rw [List.drop_eq_getElem_cons hk, hc]; rfl
 rw [tvs_drop] at hd
 have g : ∀ i, (tvs l)[k * 4 + i]? = (rcs x ++ tvs (l.drop (k + 1)))[i]? := fun i => by rw [← hd, List.getElem?_drop]
 exact ⟨by have := g 0; simpa [rcs] using this, by have := g 1; simpa [rcs] using this, by have := g 2; simpa [rcs] using this, by have := g 3; simpa [rcs] using this⟩
theorem row_cells {w : World} {B k : Nat} {A : Option Addr} {l : List Rw} {x : Rw} (h : At w B A (tvs l)) (hk : l[k]? = some x) :
  ∃ b off, A = some ⟨b, off, none⟩ ∧ b < B ∧ w.cell? ⟨b, off + k * 4, none⟩ = some (.int .i64 (ch x)) ∧ w.cell? ⟨b, off + k * 4 + 1, none⟩ = some (.int .i64 (pa x)) ∧ w.cell? ⟨b, off + k * 4 + 2, none⟩ = some (.string (ba (nm x))) ∧ w.cell? ⟨b, off + k * 4 + 3, none⟩ = some (.float .f64 (rk x)) := by
 obtain ⟨h1, h2, h3, h4⟩ := tvs_at hk
 obtain ⟨b, off, hA, hlt, hc⟩ := h _ _ h1
 obtain ⟨b', off', hA', _, hc'⟩ := h _ _ h2
 rw [hA] at hA'
 cases hA'
 obtain ⟨b', off', hA', _, hc2⟩ := h _ _ h3
 rw [hA] at hA'
 cases hA'
 obtain ⟨b', off', hA', _, hc3⟩ := h _ _ h4
 rw [hA] at hA'
 cases hA'
 exact ⟨b, off, hA, hlt, hc, hc', hc2, hc3⟩
theorem Tryz.info28 : (Tryz.prog.info? 28).map (fun i => (i.zero, i.size, i.bytes)) = some (some (.agg #[.int .i64 0, .int .i64 0, .string ByteArray.empty, .float .f64 0]), 4, 40) := by kernel_rfl
theorem lt_of_cell {w : World} {p : Addr} {v : Value} (h : w.cell? p = some v) : p.block < w.heap.size := World.block_lt_of_cell? w p h
theorem keep_cell {X w' : World} {p : Addr} {v : Value} (hb : Below X.heap.size X w') (h : X.cell? p = some v) : w'.cell? p = some v := (hb.cell (lt_of_cell h)).trans h
/-- what a function value says of a row, wherever it is asked -/
def Pred (g : Nat) (lb : Array Value) (p : Rw → Bool) (w : World) (l : List Rw) : Prop :=
 ∀ (W : World) (r : Rw), Below w.heap.size w W → r ∈ l → Calls Tryz.prog g (#[rv r] ++ lb) W fun e W' => e = .returned (.bool (p r)) ∧ Below W.heap.size W W'
def idx (p : Rw → Bool) (l : List Rw) : Int := match l.findIdx? p with
 | some i => (i : Int)
 | none => -1
theorem idx_none {p : Rw → Bool} {l : List Rw} (h : ∀ r ∈ l, p r = false) : idx p l = -1 := by
 have : l.findIdx? p = none := List.findIdx?_eq_none_iff.2 h
 unfold idx; rw [this]
theorem idx_some {p : Rw → Bool} {l : List Rw} {k : Nat} {r : Rw} (hk : l[k]? = some r) (hp : p r = true) (h : ∀ x ∈ l.take k, p x = false) : idx p l = (k : Int) := by
 have hkl := (List.getElem?_eq_some_iff.1 hk).1
 have hkr := (List.getElem?_eq_some_iff.1 hk).2
 have : l.findIdx? p = some k := by
  rw [List.findIdx?_eq_some_iff_getElem]
  refine ⟨hkl, by rw [hkr]; exact hp, fun j hj => ?_⟩
  have := h l[j] (by rw [List.mem_take_iff_getElem]; exact ⟨j, by omega, rfl⟩)
  simp [this]
 unfold idx; rw [this]
set_option maxHeartbeats 2000000 in
theorem indexFunc_c (A : Option Addr) (cap : Nat) (l : List Rw) (g : Nat) (lb : Array Value) (p : Rw → Bool) (hl : l.length ≤ maxLen) (eg : ∀ args w, (callFunc g args).run Tryz.prog w = .ok (.enter g args) w) (w : World)
  (hc : At w w.heap.size A (tvs l)) (hp : Pred g lb p w l) :
  Calls Tryz.prog 80 #[.slice A l.length cap, .func (.func g) #[] lb] w fun e w' => e = .returned (.int .i64 (idx p l)) ∧ Below w.heap.size w w' := by
 unfold maxLen at hl
 obtain ⟨R, hR⟩ : ∃ R, idx p l = R := ⟨_, rfl⟩
 rw [hR]
 have HR := Lib.hid hR
 have HC := Lib.hid hc
 have HP := Lib.hid hp
 clear hR hc hp
 go_enter Tryz.func80, Tryz.ntmps80
 go_wp2_with fail
 go_loopw [8] (fun i wr => ∃ k : Nat, i = .int .i64 (k : Int) ∧ k ≤ l.length ∧ (∀ x ∈ l.take k, p x = false) ∧ Below w.heap.size w wr) (fun i _ => l.length - (intOf i).toNat)
 case atStart => exact ⟨0, rfl, Nat.zero_le _, fun x hx => by simp at hx, Below.refl _ _⟩
 case round =>
  obtain ⟨k, rfl, hk, hno, hb⟩ := hrel
  have HN := Lib.hid hno
  clear hno
  by_cases hlt : k < l.length
  ·obtain ⟨r, hr⟩ := some_at hlt
   obtain ⟨b0, o0, rfl, hb0, c0, c1, c2, c3⟩ := row_cells (HC.out.below hb) hr
   have hcall := HP.out wr r hb (mem_at hr)
   have HRR := Lib.hid hr
   clear hr
   cases hq : p r with
   | true =>
    rw [hq] at hcall
    go_wp2_with (go_at_fn g; refine hcall.mono ?_; rintro e w' ⟨rfl, hb'⟩)
    go_ret
    rw [← HR.out, idx_some HRR.out hq HN.out]
    exact ⟨rfl, hb.trans (hb'.mono hb.size)⟩
   | false =>
    rw [hq] at hcall
    have HQ := Lib.hid hq
    clear hq
    go_wp2_with (go_at_fn g; refine hcall.mono ?_; rintro e w' ⟨rfl, hb'⟩)
    go_roundw
    case rel =>
     refine ⟨k + 1, by go_num, by omega, fun x hx => ?_, hb.trans (hb'.mono hb.size)⟩
     rw [List.take_add_one, HRR.out] at hx
     rcases List.mem_append.1 hx with h | h
     ·exact HN.out x h
     ·simp at h; rw [h]; exact HQ.out
    case measure => simp only [intOf]; omega
  ·obtain rfl : k = l.length := by omega
   have h := HN.out
   rw [List.take_length] at h
   have HNN := Lib.hid h
   clear h
   go_wp2_with fail
   go_ret
   rw [← HR.out, idx_none HNN.out]
   exact ⟨rfl, hb⟩
end Go.Proofs.YthhckdjagnlgpaaGreat
end
section
namespace Go.Proofs.YthhckdjagnlgpaaGreat
open Go.RowKit Go.IntWalk
set_option maxRecDepth 100000
attribute [local go_sem] Oper.semAt_some
theorem firstF_c (r : Rw) (c : Int) (B : Nat) (W : World) (h : W.cell? ⟨B, 0, none⟩ = some (.int .i64 c)) :
  Calls Tryz.prog 127 #[rv r, .pointer (some ⟨B, 0, none⟩)] W fun e W' => e = .returned (.bool (ch r == c)) ∧ Below W.heap.size W W' := by
 show Calls Tryz.prog 127 #[.agg #[.int .i64 (ch r), .int .i64 (pa r), .string (ba (nm r)), .float .f64 (rk r)], .pointer (some ⟨B, 0, none⟩)] W _
 obtain ⟨c0, p, n, f⟩ := r
 have hb := (Below.refl W.heap.size W).alloc (Nat.le_refl _) (.cells #[.int .i64 c0, .int .i64 p, .string (ba n), .float .f64 f] 28)
 have h2 : (W.alloc (.cells #[.int .i64 c0, .int .i64 p, .string (ba n), .float .f64 f] 28)).cell? ⟨B, 0, none⟩ = some (.int .i64 c) := keep_cell hb h
 go_enter Tryz.func127, Tryz.ntmps127
 go_wp2
 go_ret
 exact ⟨rfl, hb⟩
theorem isC_pred (c : Int) (B : Nat) (w : World) (l : List Rw) (h : w.cell? ⟨B, 0, none⟩ = some (.int .i64 c)) : Pred 127 #[.pointer (some ⟨B, 0, none⟩)] (fun r => ch r == c) w l := fun W r hb _ =>
 firstF_c r c B W (keep_cell hb h)
/-- the place of the first row of a child -/
def plc (l : List Rw) (c : Int) : Int := idx (fun r => ch r == c) l
theorem tfirst_c (A : Option Addr) (cap : Nat) (l : List Rw) (c : Int) (hl : l.length ≤ maxLen) (w : World) (hc : At w w.heap.size A (tvs l)) :
  Calls Tryz.prog 67 #[.slice A l.length cap, .int .i64 c] w fun e w' => e = .returned (.int .i64 (plc l c)) ∧ Below w.heap.size w w' := by
 have hmf : ∀ (fn : Fn) (first cap : Array Value) (w : World), (Instr.makeFunc fn first cap).run Tryz.prog w = .ok (.func fn first cap) w := fun _ _ _ _ => rfl
 have hb := (Below.refl w.heap.size w).alloc (Nat.le_refl _) (.cells #[.int .i64 c] 3)
 have hc2 := hc.keep hb
 have hcell : (w.alloc (.cells #[.int .i64 c] 3)).cell? ⟨w.heap.size, 0, none⟩ = some (.int .i64 c) := by rw [World.cell?_alloc_at _ _ _ _ rfl]; rfl
 have hcall := indexFunc_c A cap l 127 _ _ hl (enters_of Tryz.func127 (by kernel_rfl) rfl) _ hc2 (isC_pred c w.heap.size _ l hcell)
 have HCALL := Lib.hid hcall
 clear hcall hc2 hcell hc
 go_enter Tryz.func67, Tryz.ntmps67
 go_wp2_with fail
 refine HCALL.out.mono ?_
 rintro e w1 ⟨rfl, hb1⟩
 go_wp2_with fail
 go_ret
 exact ⟨rfl, hb.trans (hb1.mono hb.size)⟩
theorem plc_step {l : List Rw} {k : Nat} {r : Rw} (c : Int) (hk : l[k]? = some r) (hno : ∀ x ∈ l.take k, (ch x == c) = false) : (ch r = c → plc l c = (k : Int)) ∧ (ch r ≠ c → ∀ x ∈ l.take (k + 1), (ch x == c) = false) := by
 refine ⟨fun h => idx_some hk (by simp [h]) hno, fun h x hx => ?_⟩
 rw [List.take_add_one, hk] at hx
 rcases List.mem_append.1 hx with g | g
 ·exact hno x g
 ·simp at g; rw [g]; simpa using h
set_option maxHeartbeats 1000000 in
theorem rplace_c (A : Option Addr) (cap : Nat) (l : List Rw) (c : Int) (hl : l.length ≤ maxLen) (w : World) (hc : At w w.heap.size A (tvs l)) :
  Calls Tryz.prog 68 #[.slice A l.length cap, .int .i64 c] w fun e w' => e = .returned (.int .i64 (plc l c)) ∧ w = w' := by
 unfold maxLen at hl
 obtain ⟨R, hR⟩ : ∃ R, plc l c = R := ⟨_, rfl⟩
 rw [hR]
 have HR := Lib.hid hR
 have HC := Lib.hid hc
 clear hR hc
 go_enter Tryz.func68, Tryz.ntmps68
 go_wp2_with fail
 go_loopw [5] (fun i wr => ∃ k : Nat, i = .int .i64 (k : Int) ∧ k ≤ l.length ∧ (∀ x ∈ l.take k, (ch x == c) = false) ∧ wr = w) (fun i _ => l.length - (intOf i).toNat)
 case atStart => exact ⟨0, rfl, Nat.zero_le _, fun x hx => by simp at hx, rfl⟩
 case round =>
  obtain ⟨k, rfl, hk, hno, rfl⟩ := hrel
  have HN := Lib.hid hno
  clear hno
  by_cases hlt : k < l.length
  ·obtain ⟨r, hr⟩ := some_at hlt
   obtain ⟨b0, o0, rfl, hb0, c0, -⟩ := row_cells HC.out hr
   obtain ⟨q1, q2⟩ := plc_step c hr HN.out
   have Q1 := Lib.hid q1
   have Q2 := Lib.hid q2
   clear hr q1 q2
   by_cases hq : ch r = c
   ·have hp := Q1.out hq
    rw [hq] at c0
    have HP := Lib.hid hp
    clear hp hq
    go_wp2_with fail
    go_ret
    exact ⟨by rw [← HR.out, HP.out]; rfl, rfl⟩
   ·have hqb : (ch r == c) = false := by simpa using hq
    have HQ := Lib.hid hq
    clear hq
    go_wp2_with fail
    go_roundw
    case rel => exact ⟨k + 1, by go_num, by omega, Q2.out HQ.out, by first | rfl | trivial⟩
    case measure => simp only [intOf]; omega
  ·obtain rfl : k = l.length := by omega
   have h := HN.out
   rw [List.take_length] at h
   have HNN := Lib.hid h
   clear h
   go_wp2_with fail
   go_ret
   exact ⟨by rw [← HR.out]; unfold plc; rw [idx_none HNN.out]; rfl, rfl⟩
/-- the first row of a child -/
def fnd (l : List Rw) (c : Int) : Option Rw := l.find? fun r => ch r == c
def zr : Rw := (0, 0, [], 0)
theorem plc_cases (l : List Rw) (c : Int) : (plc l c = -1 ∧ fnd l c = none) ∨ ∃ (k : Nat) (r : Rw), plc l c = (k : Int) ∧ l[k]? = some r ∧ fnd l c = some r ∧ k < l.length := by
 unfold plc idx fnd
 cases h : l.findIdx? (fun r => ch r == c) with
 | none =>
  left
  refine ⟨rfl, ?_⟩
  rw [List.find?_eq_none]
  rw [List.findIdx?_eq_none_iff] at h
  intro x hx
  simp [h x hx]
 | some k =>
  right
  obtain ⟨h1, h2, h3⟩ := List.findIdx?_eq_some_iff_getElem.1 h
  refine ⟨k, l[k], rfl, by simp [h1], ?_, h1⟩
  rw [List.find?_eq_some_iff_getElem]
  exact ⟨h2, k, h1, rfl, fun j hj => by simpa using h3 j hj⟩
def FindEnd (l : List Rw) (c : Int) (w : World) (e : Ending) (w' : World) : Prop :=
 e = .returned (.tuple #[rv ((fnd l c).getD zr), .bool (fnd l c).isSome]) ∧ Below w.heap.size w w'
theorem cells4 (w : World) (a b c d : Value) (t : TypeId) : Is (w.alloc (.cells #[a, b, c, d] t)) w.heap.size t [a, b, c, d] := is_new w t [a, b, c, d]
theorem set4_below {w w1 : World} {G : Nat} {a b c d : Value} (hb : Below w.heap.size w w1) (hG : w.heap.size ≤ G) : Below w.heap.size w ((((w1.setCell ⟨G, 0, none⟩ a).setCell ⟨G, 1, none⟩ b).setCell ⟨G, 2, none⟩ c).setCell ⟨G, 3, none⟩ d) :=
 (((hb.setCell (p := ⟨G, 0, none⟩) hG a).setCell (p := ⟨G, 1, none⟩) hG b).setCell (p := ⟨G, 2, none⟩) hG c).setCell (p := ⟨G, 3, none⟩) hG d
theorem set4_is {w : World} {G : Nat} {t : TypeId} {x0 x1 x2 x3 a b c d : Value} (h : Is w G t [x0, x1, x2, x3]) : Is ((((w.setCell ⟨G, 0, none⟩ a).setCell ⟨G, 1, none⟩ b).setCell ⟨G, 2, none⟩ c).setCell ⟨G, 3, none⟩ d) G t [a, b, c, d] :=
 is_set (is_set (is_set (is_set h 0 a) 1 b) 2 c) 3 d
theorem rplace_b (A : Option Addr) (cap : Nat) (l : List Rw) (c : Int) (hl : l.length ≤ maxLen) (w : World) (hc : At w w.heap.size A (tvs l)) :
  Calls Tryz.prog 68 #[.slice A l.length cap, .int .i64 c] w fun e w' => e = .returned (.int .i64 (plc l c)) ∧ Below w.heap.size w w' :=
 (rplace_c A cap l c hl w hc).mono fun _ _ ⟨h1, h2⟩ => ⟨h1, by rw [← h2]; exact Below.refl _ _⟩
set_option maxHeartbeats 2000000 in
theorem find_c (A : Option Addr) (cap : Nat) (l : List Rw) (c : Int) (hl : l.length ≤ maxLen) (w : World) (hc : At w w.heap.size A (tvs l)) :
  Calls Tryz.prog 21 #[.slice A l.length cap, .int .i64 c] w (FindEnd l c w) := by
 have hl0 := hl
 have hI := cells4 w (.int .i64 0) (.int .i64 0) (.string ⟨#[]⟩) (.float .f64 0) 28
 have hb := (Below.refl w.heap.size w).alloc (Nat.le_refl _) (.cells #[.int .i64 0, .int .i64 0, .string ⟨#[]⟩, .float .f64 0] 28)
 have hc2 := hc.keep hb
 unfold maxLen at hl
 have HC := Lib.hid hc
 clear hc
 rcases plc_cases l c with ⟨h1, h2⟩ | ⟨k, r, h1, hk, h2, hkl⟩
 ·have H2 := Lib.hid h2
  have hcall := tfirst_c A cap l c hl0 _ hc2
  rw [h1] at hcall
  have HCALL := Lib.hid hcall
  clear hcall h1 h2 hc2 hl0
  go_enter Tryz.func21, Tryz.ntmps21
  go_wp2_with fail
  refine HCALL.out.mono ?_
  rintro e w1 ⟨rfl, hb1⟩
  have hI1 := is_below hI hb1 (is_lt hI)
  have hbw := hb.trans (hb1.mono hb.size)
  have k0 := is_cell hI1 0
  have k1 := is_cell hI1 1
  have k2 := is_cell hI1 2
  have k3 := is_cell hI1 3
  have f0 := is_free hI1 0
  have f1 := is_free hI1 1
  have f2 := is_free hI1 2
  have f3 := is_free hI1 3
  simp only [List.getElem?_cons_zero, List.getElem?_cons_succ] at k0 k1 k2 k3
  clear hb1
  go_wp2_with fail
  have hI3 : Is _ w.heap.size 28 [.int .i64 0, .int .i64 0, .string ⟨#[]⟩, .float .f64 0] := set4_is hI1
  have j0 := is_cell hI3 0
  have j1 := is_cell hI3 1
  have j2 := is_cell hI3 2
  have j3 := is_cell hI3 3
  simp only [List.getElem?_cons_zero, List.getElem?_cons_succ] at j0 j1 j2 j3
  refine bodyPost_ret (v := .tuple #[.agg #[.int .i64 0, .int .i64 0, .string ⟨#[]⟩, .float .f64 0], .bool false]) (by simp [results, Tryz.f21, go_sem, j0, j1, j2, j3]) rfl ?_
  refine ⟨?_, set4_below hbw (Nat.le_refl _)⟩
  rw [H2.out]; rfl
 ·have H2 := Lib.hid h2
  have hcall := tfirst_c A cap l c hl0 _ hc2
  rw [h1] at hcall
  have HCALL := Lib.hid hcall
  have HK := Lib.hid hk
  have hkn : ¬ ((k : Int) < 0) := by omega
  have hk0 : (0 : Int) ≤ (k : Int) := by omega
  have hkli : (k : Int) < (l.length : Int) := by omega
  clear hcall h1 h2 hc2 hl0 hk
  go_enter Tryz.func21, Tryz.ntmps21
  go_wp2_with fail
  refine HCALL.out.mono ?_
  rintro e w1 ⟨rfl, hb1⟩
  have hI1 := is_below hI hb1 (is_lt hI)
  have hbw := hb.trans (hb1.mono hb.size)
  have k0 := is_cell hI1 0
  have k1 := is_cell hI1 1
  have k2 := is_cell hI1 2
  have k3 := is_cell hI1 3
  have f0 := is_free hI1 0
  have f1 := is_free hI1 1
  have f2 := is_free hI1 2
  have f3 := is_free hI1 3
  simp only [List.getElem?_cons_zero, List.getElem?_cons_succ] at k0 k1 k2 k3
  obtain ⟨b0, o0, rfl, hb0, c0, c1, c2, c3⟩ := row_cells (HC.out.below hbw) HK.out
  clear hb1
  go_wp2_with fail
  have hI3 : Is _ w.heap.size 28 [.int .i64 (ch r), .int .i64 (pa r), .string (ba (nm r)), .float .f64 (rk r)] := set4_is hI1
  have j0 := is_cell hI3 0
  have j1 := is_cell hI3 1
  have j2 := is_cell hI3 2
  have j3 := is_cell hI3 3
  simp only [List.getElem?_cons_zero, List.getElem?_cons_succ] at j0 j1 j2 j3
  refine bodyPost_ret (v := .tuple #[.agg #[.int .i64 (ch r), .int .i64 (pa r), .string (ba (nm r)), .float .f64 (rk r)], .bool true]) (by simp [results, Tryz.f21, go_sem, j0, j1, j2, j3]) rfl ?_
  refine ⟨?_, set4_below hbw (Nat.le_refl _)⟩
  rw [H2.out]; rfl
set_option maxHeartbeats 2000000 in
theorem rfind_c (A : Option Addr) (cap : Nat) (l : List Rw) (c : Int) (hl : l.length ≤ maxLen) (w : World) (hc : At w w.heap.size A (tvs l)) :
  Calls Tryz.prog 22 #[.slice A l.length cap, .int .i64 c] w (FindEnd l c w) := by
 have hl0 := hl
 have hI := cells4 w (.int .i64 0) (.int .i64 0) (.string ⟨#[]⟩) (.float .f64 0) 28
 have hb := (Below.refl w.heap.size w).alloc (Nat.le_refl _) (.cells #[.int .i64 0, .int .i64 0, .string ⟨#[]⟩, .float .f64 0] 28)
 have hc2 := hc.keep hb
 unfold maxLen at hl
 have HC := Lib.hid hc
 clear hc
 rcases plc_cases l c with ⟨h1, h2⟩ | ⟨k, r, h1, hk, h2, hkl⟩
 ·have H2 := Lib.hid h2
  have hcall := rplace_b A cap l c hl0 _ hc2
  rw [h1] at hcall
  have HCALL := Lib.hid hcall
  clear hcall h1 h2 hc2 hl0
  go_enter Tryz.func22, Tryz.ntmps22
  go_wp2_with fail
  refine HCALL.out.mono ?_
  rintro e w1 ⟨rfl, hb1⟩
  have hI1 := is_below hI hb1 (is_lt hI)
  have hbw := hb.trans (hb1.mono hb.size)
  have k0 := is_cell hI1 0
  have k1 := is_cell hI1 1
  have k2 := is_cell hI1 2
  have k3 := is_cell hI1 3
  have f0 := is_free hI1 0
  have f1 := is_free hI1 1
  have f2 := is_free hI1 2
  have f3 := is_free hI1 3
  simp only [List.getElem?_cons_zero, List.getElem?_cons_succ] at k0 k1 k2 k3
  clear hb1
  go_wp2_with fail
  have hI3 : Is _ w.heap.size 28 [.int .i64 0, .int .i64 0, .string ⟨#[]⟩, .float .f64 0] := set4_is hI1
  have j0 := is_cell hI3 0
  have j1 := is_cell hI3 1
  have j2 := is_cell hI3 2
  have j3 := is_cell hI3 3
  simp only [List.getElem?_cons_zero, List.getElem?_cons_succ] at j0 j1 j2 j3
  refine bodyPost_ret (v := .tuple #[.agg #[.int .i64 0, .int .i64 0, .string ⟨#[]⟩, .float .f64 0], .bool false]) (by simp [results, Tryz.f22, go_sem, j0, j1, j2, j3]) rfl ?_
  refine ⟨?_, set4_below hbw (Nat.le_refl _)⟩
  rw [H2.out]; rfl
 ·have H2 := Lib.hid h2
  have hcall := rplace_b A cap l c hl0 _ hc2
  rw [h1] at hcall
  have HCALL := Lib.hid hcall
  have HK := Lib.hid hk
  have hkn : ¬ ((k : Int) < 0) := by omega
  have hk0 : (0 : Int) ≤ (k : Int) := by omega
  have hkli : (k : Int) < (l.length : Int) := by omega
  clear hcall h1 h2 hc2 hl0 hk
  go_enter Tryz.func22, Tryz.ntmps22
  go_wp2_with fail
  refine HCALL.out.mono ?_
  rintro e w1 ⟨rfl, hb1⟩
  have hI1 := is_below hI hb1 (is_lt hI)
  have hbw := hb.trans (hb1.mono hb.size)
  have k0 := is_cell hI1 0
  have k1 := is_cell hI1 1
  have k2 := is_cell hI1 2
  have k3 := is_cell hI1 3
  have f0 := is_free hI1 0
  have f1 := is_free hI1 1
  have f2 := is_free hI1 2
  have f3 := is_free hI1 3
  simp only [List.getElem?_cons_zero, List.getElem?_cons_succ] at k0 k1 k2 k3
  obtain ⟨b0, o0, rfl, hb0, c0, c1, c2, c3⟩ := row_cells (HC.out.below hbw) HK.out
  clear hb1
  go_wp2_with fail
  have hI3 : Is _ w.heap.size 28 [.int .i64 (ch r), .int .i64 (pa r), .string (ba (nm r)), .float .f64 (rk r)] := set4_is hI1
  have j0 := is_cell hI3 0
  have j1 := is_cell hI3 1
  have j2 := is_cell hI3 2
  have j3 := is_cell hI3 3
  simp only [List.getElem?_cons_zero, List.getElem?_cons_succ] at j0 j1 j2 j3
  refine bodyPost_ret (v := .tuple #[.agg #[.int .i64 (ch r), .int .i64 (pa r), .string (ba (nm r)), .float .f64 (rk r)], .bool true]) (by simp [results, Tryz.f22, go_sem, j0, j1, j2, j3]) rfl ?_
  refine ⟨?_, set4_below hbw (Nat.le_refl _)⟩
  rw [H2.out]; rfl
end Go.Proofs.YthhckdjagnlgpaaGreat
end
section
namespace Go.Proofs.YthhckdjagnlgpaaGreat
open Go.RowKit Go.IntWalk
open Wd Fl
set_option maxRecDepth 100000
attribute [local go_sem] Oper.semAt_some
theorem ba_beq (a b : List UInt8) : ((ba a).toList == (ba b).toList) = decide (a = b) := by
 rw [ByteArray.toList_eq, ByteArray.toList_eq, ba_list, ba_list]
 by_cases h : a = b <;> simp [h]
def oneP (r : Rw) : Bool := decide (1 ≤ ch r) && (decide (ch r ≤ 2147483647) && (decide (0 ≤ pa r) && (decide (pa r ≤ 2147483647) && (decide ((nm r).length ≤ 64) && valid (nm r)))))
def alikeP (a b : Rw) : Bool := decide (ch a = ch b) && (decide (pa a = pa b) && (decide (nm a = nm b) && ((cb (rk a) : Int) == (cb (rk b) : Int))))
theorem one_c (r : Rw) (hn : (nm r).length ≤ maxLen) (w : World) :
  Calls Tryz.prog 19 #[rv r] w fun e w' => e = .returned (.bool (oneP r)) ∧ Below w.heap.size w w' := by
 obtain ⟨c, p, n, f⟩ := r
 show Calls Tryz.prog 19 #[.agg #[.int .i64 c, .int .i64 p, .string (ba n), .float .f64 f]] w _
 have hs := ba_size n
 have hb := (Below.refl w.heap.size w).alloc (Nat.le_refl _) (.cells #[.int .i64 c, .int .i64 p, .string (ba n), .float .f64 f] 28)
 unfold maxLen at hn
 change n.length ≤ _ at hn
 show Calls _ _ _ _ fun e w' => e = .returned (.bool (decide (1 ≤ c) && (decide (c ≤ 2147483647) && (decide (0 ≤ p) && (decide (p ≤ 2147483647) && (decide (n.length ≤ 64) && valid n)))))) ∧ _
 by_cases h1 : 1 ≤ c
 case neg =>
  have g1 : c < 1 := by omega
  have g1b : ¬ 0 < c := by omega
  rw [decide_eq_false h1, Bool.false_and]
  go_enter Tryz.func19, Tryz.ntmps19
  go_wp2
  go_ret
  exact ⟨rfl, hb⟩
 have q1 : 0 < c := by omega
 by_cases h2 : c ≤ 2147483647
 case neg =>
  have g2 : 2147483647 < c := by omega
  rw [decide_eq_true h1, Bool.true_and, decide_eq_false h2, Bool.false_and]
  go_enter Tryz.func19, Tryz.ntmps19
  go_wp2
  go_ret
  exact ⟨rfl, hb⟩
 by_cases h3 : 0 ≤ p
 case neg =>
  have g3 : p < 0 := by omega
  rw [decide_eq_true h1, Bool.true_and, decide_eq_true h2, Bool.true_and, decide_eq_false h3, Bool.false_and]
  go_enter Tryz.func19, Tryz.ntmps19
  go_wp2
  go_ret
  exact ⟨rfl, hb⟩
 by_cases h4 : p ≤ 2147483647
 case neg =>
  have g4 : 2147483647 < p := by omega
  rw [decide_eq_true h1, Bool.true_and, decide_eq_true h2, Bool.true_and, decide_eq_true h3, Bool.true_and, decide_eq_false h4, Bool.false_and]
  go_enter Tryz.func19, Tryz.ntmps19
  go_wp2
  go_ret
  exact ⟨rfl, hb⟩
 by_cases h5 : n.length ≤ 64
 case neg =>
  have g5 : (64 : Int) < (n.length : Int) := by omega
  have g5b : ¬ (n.length : Int) ≤ 64 := by omega
  rw [decide_eq_true h1, Bool.true_and, decide_eq_true h2, Bool.true_and, decide_eq_true h3, Bool.true_and, decide_eq_true h4, Bool.true_and, decide_eq_false h5, Bool.false_and]
  go_enter Tryz.func19, Tryz.ntmps19
  go_wp2
  go_ret
  exact ⟨rfl, hb⟩
 have q5 : (n.length : Int) ≤ 64 := by omega
 rw [decide_eq_true h1, Bool.true_and, decide_eq_true h2, Bool.true_and, decide_eq_true h3, Bool.true_and, decide_eq_true h4, Bool.true_and, decide_eq_true h5, Bool.true_and]
 go_enter Tryz.func19, Tryz.ntmps19
 go_wp2_with fail
 refine (valid_c n (by omega) _).mono ?_
 rintro e w1 ⟨rfl, rfl⟩
 go_wp2_with fail
 go_ret
 exact ⟨rfl, hb⟩
theorem rone_c (r : Rw) (hn : (nm r).length ≤ maxLen) (w : World) :
  Calls Tryz.prog 20 #[rv r] w fun e w' => e = .returned (.bool (oneP r)) ∧ Below w.heap.size w w' := by
 obtain ⟨c, p, n, f⟩ := r
 show Calls Tryz.prog 20 #[.agg #[.int .i64 c, .int .i64 p, .string (ba n), .float .f64 f]] w _
 have hs := ba_size n
 have hb := (Below.refl w.heap.size w).alloc (Nat.le_refl _) (.cells #[.int .i64 c, .int .i64 p, .string (ba n), .float .f64 f] 28)
 unfold maxLen at hn
 change n.length ≤ _ at hn
 show Calls _ _ _ _ fun e w' => e = .returned (.bool (decide (1 ≤ c) && (decide (c ≤ 2147483647) && (decide (0 ≤ p) && (decide (p ≤ 2147483647) && (decide (n.length ≤ 64) && valid n)))))) ∧ _
 by_cases h1 : 1 ≤ c
 case neg =>
  have g1 : c < 1 := by omega
  have g1b : ¬ 0 < c := by omega
  rw [decide_eq_false h1, Bool.false_and]
  go_enter Tryz.func20, Tryz.ntmps20
  go_wp2
  go_ret
  exact ⟨rfl, hb⟩
 have q1 : 0 < c := by omega
 by_cases h2 : c ≤ 2147483647
 case neg =>
  have g2 : 2147483647 < c := by omega
  rw [decide_eq_true h1, Bool.true_and, decide_eq_false h2, Bool.false_and]
  go_enter Tryz.func20, Tryz.ntmps20
  go_wp2
  go_ret
  exact ⟨rfl, hb⟩
 by_cases h3 : 0 ≤ p
 case neg =>
  have g3 : p < 0 := by omega
  rw [decide_eq_true h1, Bool.true_and, decide_eq_true h2, Bool.true_and, decide_eq_false h3, Bool.false_and]
  go_enter Tryz.func20, Tryz.ntmps20
  go_wp2
  go_ret
  exact ⟨rfl, hb⟩
 by_cases h4 : p ≤ 2147483647
 case neg =>
  have g4 : 2147483647 < p := by omega
  rw [decide_eq_true h1, Bool.true_and, decide_eq_true h2, Bool.true_and, decide_eq_true h3, Bool.true_and, decide_eq_false h4, Bool.false_and]
  go_enter Tryz.func20, Tryz.ntmps20
  go_wp2
  go_ret
  exact ⟨rfl, hb⟩
 by_cases h5 : n.length ≤ 64
 case neg =>
  have g5 : (64 : Int) < (n.length : Int) := by omega
  have g5b : ¬ (n.length : Int) ≤ 64 := by omega
  rw [decide_eq_true h1, Bool.true_and, decide_eq_true h2, Bool.true_and, decide_eq_true h3, Bool.true_and, decide_eq_true h4, Bool.true_and, decide_eq_false h5, Bool.false_and]
  go_enter Tryz.func20, Tryz.ntmps20
  go_wp2
  go_ret
  exact ⟨rfl, hb⟩
 have q5 : (n.length : Int) ≤ 64 := by omega
 rw [decide_eq_true h1, Bool.true_and, decide_eq_true h2, Bool.true_and, decide_eq_true h3, Bool.true_and, decide_eq_true h4, Bool.true_and, decide_eq_true h5, Bool.true_and]
 go_enter Tryz.func20, Tryz.ntmps20
 go_wp2_with fail
 refine (rValid_c n (by omega) _).mono ?_
 rintro e w1 ⟨rfl, rfl⟩
 go_wp2_with fail
 go_ret
 exact ⟨rfl, hb⟩
set_option maxHeartbeats 1000000 in
theorem sameF_c (a b : Rw) (ha : rk a < 18446744073709551616) (hb : rk b < 18446744073709551616) (w : World) :
  Calls Tryz.prog 73 #[rv a, rv b] w fun e w' => e = .returned (.bool (alikeP a b)) ∧ Below w.heap.size w w' := by
 obtain ⟨c1, p1, n1, f1⟩ := a
 obtain ⟨c2, p2, n2, f2⟩ := b
 show Calls Tryz.prog 73 #[.agg #[.int .i64 c1, .int .i64 p1, .string (ba n1), .float .f64 f1], .agg #[.int .i64 c2, .int .i64 p2, .string (ba n2), .float .f64 f2]] w _
 have hbw := ((Below.refl w.heap.size w).alloc (Nat.le_refl _) (.cells #[.int .i64 c1, .int .i64 p1, .string (ba n1), .float .f64 f1] 28)).alloc (by simp) (.cells #[.int .i64 c2, .int .i64 p2, .string (ba n2), .float .f64 f2] 28)
 show Calls _ _ _ _ fun e w' => e = .returned (.bool (decide (c1 = c2) && (decide (p1 = p2) && (decide (n1 = n2) && ((cb f1 : Int) == (cb f2 : Int)))))) ∧ _
 change f1 < _ at ha
 change f2 < _ at hb
 have hst := ba_beq n1 n2
 by_cases h1 : c1 = c2
 case neg =>
  have g : (c1 == c2) = false := by simpa using h1
  rw [decide_eq_false h1, Bool.false_and]
  clear hst
  go_enter Tryz.func73, Tryz.ntmps73
  go_wp2
  go_ret
  exact ⟨rfl, hbw⟩
 by_cases h2 : p1 = p2
 case neg =>
  have g1 : (c1 == c2) = true := by simpa using h1
  have g : (p1 == p2) = false := by simpa using h2
  rw [decide_eq_true h1, Bool.true_and, decide_eq_false h2, Bool.false_and]
  clear hst h1
  go_enter Tryz.func73, Tryz.ntmps73
  go_wp2
  go_ret
  exact ⟨rfl, hbw⟩
 by_cases h3 : n1 = n2
 case neg =>
  have g1 : (c1 == c2) = true := by simpa using h1
  have g2 : (p1 == p2) = true := by simpa using h2
  rw [decide_eq_false h3] at hst
  rw [decide_eq_true h1, Bool.true_and, decide_eq_true h2, Bool.true_and, decide_eq_false h3, Bool.false_and]
  clear h1 h2
  go_enter Tryz.func73, Tryz.ntmps73
  go_wp2
  go_ret
  exact ⟨rfl, hbw⟩
 have g1 : (c1 == c2) = true := by simpa using h1
 have g2 : (p1 == p2) = true := by simpa using h2
 rw [decide_eq_true h3] at hst
 rw [decide_eq_true h1, Bool.true_and, decide_eq_true h2, Bool.true_and, decide_eq_true h3, Bool.true_and]
 clear h1 h2 h3
 go_enter Tryz.func73, Tryz.ntmps73
 go_wp2_with fail
 refine (same_c f1 f2 ha hb _).mono ?_
 rintro e w1 ⟨rfl, hb1⟩
 go_wp2_with fail
 go_ret
 exact ⟨rfl, hbw.trans (hb1.mono hbw.size)⟩
set_option maxHeartbeats 1000000 in
theorem alike_c (a b : Rw) (ha : rk a < 18446744073709551616) (hb : rk b < 18446744073709551616) (w : World) :
  Calls Tryz.prog 27 #[rv a, rv b] w fun e w' => e = .returned (.bool (alikeP a b)) ∧ Below w.heap.size w w' := by
 obtain ⟨c1, p1, n1, f1⟩ := a
 obtain ⟨c2, p2, n2, f2⟩ := b
 show Calls Tryz.prog 27 #[.agg #[.int .i64 c1, .int .i64 p1, .string (ba n1), .float .f64 f1], .agg #[.int .i64 c2, .int .i64 p2, .string (ba n2), .float .f64 f2]] w _
 have hbw := ((Below.refl w.heap.size w).alloc (Nat.le_refl _) (.cells #[.int .i64 c1, .int .i64 p1, .string (ba n1), .float .f64 f1] 28)).alloc (by simp) (.cells #[.int .i64 c2, .int .i64 p2, .string (ba n2), .float .f64 f2] 28)
 show Calls _ _ _ _ fun e w' => e = .returned (.bool (decide (c1 = c2) && (decide (p1 = p2) && (decide (n1 = n2) && ((cb f1 : Int) == (cb f2 : Int)))))) ∧ _
 change f1 < _ at ha
 change f2 < _ at hb
 have hst := ba_beq n1 n2
 by_cases h1 : c1 = c2
 case neg =>
  have g : (c1 == c2) = false := by simpa using h1
  rw [decide_eq_false h1, Bool.false_and]
  clear hst
  go_enter Tryz.func27, Tryz.ntmps27
  go_wp2
  go_ret
  exact ⟨rfl, hbw⟩
 by_cases h2 : p1 = p2
 case neg =>
  have g1 : (c1 == c2) = true := by simpa using h1
  have g : (p1 == p2) = false := by simpa using h2
  rw [decide_eq_true h1, Bool.true_and, decide_eq_false h2, Bool.false_and]
  clear hst h1
  go_enter Tryz.func27, Tryz.ntmps27
  go_wp2
  go_ret
  exact ⟨rfl, hbw⟩
 by_cases h3 : n1 = n2
 case neg =>
  have g1 : (c1 == c2) = true := by simpa using h1
  have g2 : (p1 == p2) = true := by simpa using h2
  rw [decide_eq_false h3] at hst
  rw [decide_eq_true h1, Bool.true_and, decide_eq_true h2, Bool.true_and, decide_eq_false h3, Bool.false_and]
  clear h1 h2
  go_enter Tryz.func27, Tryz.ntmps27
  go_wp2
  go_ret
  exact ⟨rfl, hbw⟩
 have g1 : (c1 == c2) = true := by simpa using h1
 have g2 : (p1 == p2) = true := by simpa using h2
 rw [decide_eq_true h3] at hst
 rw [decide_eq_true h1, Bool.true_and, decide_eq_true h2, Bool.true_and, decide_eq_true h3, Bool.true_and]
 clear h1 h2 h3
 go_enter Tryz.func27, Tryz.ntmps27
 go_wp2_with fail
 refine (rSame_c f1 f2 ha hb _).mono ?_
 rintro e w1 ⟨rfl, rfl⟩
 go_wp2_with fail
 go_ret
 exact ⟨rfl, hbw⟩
end Go.Proofs.YthhckdjagnlgpaaGreat
end
