/-
 The first row of a child: its place, and itself, by the program and by the document.
-/
import Derived.Test.YtkobmnbjeppnaaaGreatTa
import Derived.Test.YtkobmnbjeppnaaaGreatNm
namespace Go.Proofs.YtkobmnbjeppnaaaGreat
open Go.RowKit Go.IntWalk
set_option maxRecDepth 100000
attribute [local go_sem] Oper.semAt_some
theorem firstF_c (r : Rw) (c : Int) (B : Nat) (W : World) (h : W.cell? ⟨B, 0, none⟩ = some (.int .i64 c)) :
  Calls Tryz.prog 60 #[rv r, .pointer (some ⟨B, 0, none⟩)] W fun e W' => e = .returned (.bool (ch r == c)) ∧ Below W.heap.size W W' := by
 show Calls Tryz.prog 60 #[.agg #[.int .i64 (ch r), .int .i64 (pa r), .string (ba (nm r)), .float .f64 (rk r)], .pointer (some ⟨B, 0, none⟩)] W _
 obtain ⟨c0, p, n, f⟩ := r
 have hb := (Below.refl W.heap.size W).alloc (Nat.le_refl _) (.cells #[.int .i64 c0, .int .i64 p, .string (ba n), .float .f64 f] 28)
 have h2 : (W.alloc (.cells #[.int .i64 c0, .int .i64 p, .string (ba n), .float .f64 f] 28)).cell? ⟨B, 0, none⟩ = some (.int .i64 c) := keep_cell hb h
 go_enter Tryz.func60, Tryz.ntmps60
 go_wp2
 go_ret
 exact ⟨rfl, hb⟩
theorem isC_pred (c : Int) (B : Nat) (w : World) (l : List Rw) (h : w.cell? ⟨B, 0, none⟩ = some (.int .i64 c)) : Pred 60 #[.pointer (some ⟨B, 0, none⟩)] (fun r => ch r == c) w l := fun W r hb _ =>
 firstF_c r c B W (keep_cell hb h)
/-- the place of the first row of a child -/
def plc (l : List Rw) (c : Int) : Int := idx (fun r => ch r == c) l
theorem tfirst_c (A : Option Addr) (cap : Nat) (l : List Rw) (c : Int) (hl : l.length ≤ maxLen) (w : World) (hc : At w w.heap.size A (tvs l)) :
  Calls Tryz.prog 37 #[.slice A l.length cap, .int .i64 c] w fun e w' => e = .returned (.int .i64 (plc l c)) ∧ Below w.heap.size w w' := by
 have hmf : ∀ (fn : Fn) (first cap : Array Value) (w : World), (Instr.makeFunc fn first cap).run Tryz.prog w = .ok (.func fn first cap) w := fun _ _ _ _ => rfl
 have hb := (Below.refl w.heap.size w).alloc (Nat.le_refl _) (.cells #[.int .i64 c] 3)
 have hc2 := hc.keep hb
 have hcell : (w.alloc (.cells #[.int .i64 c] 3)).cell? ⟨w.heap.size, 0, none⟩ = some (.int .i64 c) := by rw [World.cell?_alloc_at _ _ _ _ rfl]; rfl
 have hcall := indexFunc_c A cap l 60 _ _ hl (enters_of Tryz.func60 (by kernel_rfl) rfl) _ hc2 (isC_pred c w.heap.size _ l hcell)
 have HCALL := Lib.hid hcall
 clear hcall hc2 hcell hc
 go_enter Tryz.func37, Tryz.ntmps37
 go_wp2_with fail
 refine HCALL.out.mono ?_
 rintro e w1 ⟨rfl, hb1⟩
 go_wp2_with fail
 go_ret
 exact ⟨rfl, hb.trans (hb1.mono hb.size)⟩
theorem plc_step {l : List Rw} {k : Nat} {r : Rw} (c : Int) (hk : l[k]? = some r) (hno : ∀ x ∈ l.take k, (ch x == c) = false) : (ch r = c → plc l c = (k : Int)) ∧ (ch r ≠ c → ∀ x ∈ l.take (k + 1), (ch x == c) = false) := by
 refine ⟨fun h => idx_some hk (by simp [h]) hno, fun h x hx => ?_⟩
 rw [List.take_add_one, hk] at hx
 rcases List.mem_append.1 hx with g | g
 ·exact hno x g
 ·simp at g; rw [g]; simpa using h
set_option maxHeartbeats 1000000 in
theorem rplace_c (A : Option Addr) (cap : Nat) (l : List Rw) (c : Int) (hl : l.length ≤ maxLen) (w : World) (hc : At w w.heap.size A (tvs l)) :
  Calls Tryz.prog 38 #[.slice A l.length cap, .int .i64 c] w fun e w' => e = .returned (.int .i64 (plc l c)) ∧ w = w' := by
 unfold maxLen at hl
 obtain ⟨R, hR⟩ : ∃ R, plc l c = R := ⟨_, rfl⟩
 rw [hR]
 have HR := Lib.hid hR
 have HC := Lib.hid hc
 clear hR hc
 go_enter Tryz.func38, Tryz.ntmps38
 go_wp2_with fail
 go_loopw [5] (fun i wr => ∃ k : Nat, i = .int .i64 (k : Int) ∧ k ≤ l.length ∧ (∀ x ∈ l.take k, (ch x == c) = false) ∧ wr = w) (fun i _ => l.length - (intOf i).toNat)
 case atStart => exact ⟨0, rfl, Nat.zero_le _, fun x hx => by simp at hx, rfl⟩
 case round =>
  obtain ⟨k, rfl, hk, hno, rfl⟩ := hrel
  have HN := Lib.hid hno
  clear hno
  by_cases hlt : k < l.length
  ·obtain ⟨r, hr⟩ := some_at hlt
   obtain ⟨b0, o0, rfl, hb0, c0, -⟩ := row_cells HC.out hr
   obtain ⟨q1, q2⟩ := plc_step c hr HN.out
   have Q1 := Lib.hid q1
   have Q2 := Lib.hid q2
   clear hr q1 q2
   by_cases hq : ch r = c
   ·have hp := Q1.out hq
    rw [hq] at c0
    have HP := Lib.hid hp
    clear hp hq
    go_wp2_with fail
    go_ret
    exact ⟨by rw [← HR.out, HP.out]; rfl, rfl⟩
   ·have hqb : (ch r == c) = false := by simpa using hq
    have HQ := Lib.hid hq
    clear hq
    go_wp2_with fail
    go_roundw
    case rel => exact ⟨k + 1, by go_num, by omega, Q2.out HQ.out, by first | rfl | trivial⟩
    case measure => simp only [intOf]; omega
  ·obtain rfl : k = l.length := by omega
   have h := HN.out
   rw [List.take_length] at h
   have HNN := Lib.hid h
   clear h
   go_wp2_with fail
   go_ret
   exact ⟨by rw [← HR.out]; unfold plc; rw [idx_none HNN.out]; rfl, rfl⟩
/-- the first row of a child -/
def fnd (l : List Rw) (c : Int) : Option Rw := l.find? fun r => ch r == c
def zr : Rw := (0, 0, [], 0)
theorem plc_cases (l : List Rw) (c : Int) : (plc l c = -1 ∧ fnd l c = none) ∨ ∃ (k : Nat) (r : Rw), plc l c = (k : Int) ∧ l[k]? = some r ∧ fnd l c = some r ∧ k < l.length := by
 unfold plc idx fnd
 cases h : l.findIdx? (fun r => ch r == c) with
 | none =>
  left
  refine ⟨rfl, ?_⟩
  rw [List.find?_eq_none]
  rw [List.findIdx?_eq_none_iff] at h
  intro x hx
  simp [h x hx]
 | some k =>
  right
  obtain ⟨h1, h2, h3⟩ := List.findIdx?_eq_some_iff_getElem.1 h
  refine ⟨k, l[k], rfl, by simp [h1], ?_, h1⟩
  rw [List.find?_eq_some_iff_getElem]
  exact ⟨h2, k, h1, rfl, fun j hj => by simpa using h3 j hj⟩
def FindEnd (l : List Rw) (c : Int) (w : World) (e : Ending) (w' : World) : Prop :=
 e = .returned (.tuple #[rv ((fnd l c).getD zr), .bool (fnd l c).isSome]) ∧ Below w.heap.size w w'
theorem cells4 (w : World) (a b c d : Value) (t : TypeId) : Is (w.alloc (.cells #[a, b, c, d] t)) w.heap.size t [a, b, c, d] := is_new w t [a, b, c, d]
theorem set4_below {w w1 : World} {G : Nat} {a b c d : Value} (hb : Below w.heap.size w w1) (hG : w.heap.size ≤ G) : Below w.heap.size w ((((w1.setCell ⟨G, 0, none⟩ a).setCell ⟨G, 1, none⟩ b).setCell ⟨G, 2, none⟩ c).setCell ⟨G, 3, none⟩ d) :=
 (((hb.setCell (p := ⟨G, 0, none⟩) hG a).setCell (p := ⟨G, 1, none⟩) hG b).setCell (p := ⟨G, 2, none⟩) hG c).setCell (p := ⟨G, 3, none⟩) hG d
theorem set4_is {w : World} {G : Nat} {t : TypeId} {x0 x1 x2 x3 a b c d : Value} (h : Is w G t [x0, x1, x2, x3]) : Is ((((w.setCell ⟨G, 0, none⟩ a).setCell ⟨G, 1, none⟩ b).setCell ⟨G, 2, none⟩ c).setCell ⟨G, 3, none⟩ d) G t [a, b, c, d] :=
 is_set (is_set (is_set (is_set h 0 a) 1 b) 2 c) 3 d
theorem rplace_b (A : Option Addr) (cap : Nat) (l : List Rw) (c : Int) (hl : l.length ≤ maxLen) (w : World) (hc : At w w.heap.size A (tvs l)) :
  Calls Tryz.prog 38 #[.slice A l.length cap, .int .i64 c] w fun e w' => e = .returned (.int .i64 (plc l c)) ∧ Below w.heap.size w w' :=
 (rplace_c A cap l c hl w hc).mono fun _ _ ⟨h1, h2⟩ => ⟨h1, by rw [← h2]; exact Below.refl _ _⟩
set_option maxHeartbeats 2000000 in
theorem find_c (A : Option Addr) (cap : Nat) (l : List Rw) (c : Int) (hl : l.length ≤ maxLen) (w : World) (hc : At w w.heap.size A (tvs l)) :
  Calls Tryz.prog 14 #[.slice A l.length cap, .int .i64 c] w (FindEnd l c w) := by
 have hl0 := hl
 have hI := cells4 w (.int .i64 0) (.int .i64 0) (.string ⟨#[]⟩) (.float .f64 0) 28
 have hb := (Below.refl w.heap.size w).alloc (Nat.le_refl _) (.cells #[.int .i64 0, .int .i64 0, .string ⟨#[]⟩, .float .f64 0] 28)
 have hc2 := hc.keep hb
 unfold maxLen at hl
 have HC := Lib.hid hc
 clear hc
 rcases plc_cases l c with ⟨h1, h2⟩ | ⟨k, r, h1, hk, h2, hkl⟩
 ·have H2 := Lib.hid h2
  have hcall := tfirst_c A cap l c hl0 _ hc2
  rw [h1] at hcall
  have HCALL := Lib.hid hcall
  clear hcall h1 h2 hc2 hl0
  go_enter Tryz.func14, Tryz.ntmps14
  go_wp2_with fail
  refine HCALL.out.mono ?_
  rintro e w1 ⟨rfl, hb1⟩
  have hI1 := is_below hI hb1 (is_lt hI)
  have hbw := hb.trans (hb1.mono hb.size)
  have k0 := is_cell hI1 0
  have k1 := is_cell hI1 1
  have k2 := is_cell hI1 2
  have k3 := is_cell hI1 3
  have f0 := is_free hI1 0
  have f1 := is_free hI1 1
  have f2 := is_free hI1 2
  have f3 := is_free hI1 3
  simp only [List.getElem?_cons_zero, List.getElem?_cons_succ] at k0 k1 k2 k3
  clear hb1
  go_wp2_with fail
  have hI3 : Is _ w.heap.size 28 [.int .i64 0, .int .i64 0, .string ⟨#[]⟩, .float .f64 0] := set4_is hI1
  have j0 := is_cell hI3 0
  have j1 := is_cell hI3 1
  have j2 := is_cell hI3 2
  have j3 := is_cell hI3 3
  simp only [List.getElem?_cons_zero, List.getElem?_cons_succ] at j0 j1 j2 j3
  refine bodyPost_ret (v := .tuple #[.agg #[.int .i64 0, .int .i64 0, .string ⟨#[]⟩, .float .f64 0], .bool false]) (by simp [results, Tryz.f14, go_sem, j0, j1, j2, j3]) rfl ?_
  refine ⟨?_, set4_below hbw (Nat.le_refl _)⟩
  rw [H2.out]; rfl
 ·have H2 := Lib.hid h2
  have hcall := tfirst_c A cap l c hl0 _ hc2
  rw [h1] at hcall
  have HCALL := Lib.hid hcall
  have HK := Lib.hid hk
  have hkn : ¬ ((k : Int) < 0) := by omega
  have hk0 : (0 : Int) ≤ (k : Int) := by omega
  have hkli : (k : Int) < (l.length : Int) := by omega
  clear hcall h1 h2 hc2 hl0 hk
  go_enter Tryz.func14, Tryz.ntmps14
  go_wp2_with fail
  refine HCALL.out.mono ?_
  rintro e w1 ⟨rfl, hb1⟩
  have hI1 := is_below hI hb1 (is_lt hI)
  have hbw := hb.trans (hb1.mono hb.size)
  have k0 := is_cell hI1 0
  have k1 := is_cell hI1 1
  have k2 := is_cell hI1 2
  have k3 := is_cell hI1 3
  have f0 := is_free hI1 0
  have f1 := is_free hI1 1
  have f2 := is_free hI1 2
  have f3 := is_free hI1 3
  simp only [List.getElem?_cons_zero, List.getElem?_cons_succ] at k0 k1 k2 k3
  obtain ⟨b0, o0, rfl, hb0, c0, c1, c2, c3⟩ := row_cells (HC.out.below hbw) HK.out
  clear hb1
  go_wp2_with fail
  have hI3 : Is _ w.heap.size 28 [.int .i64 (ch r), .int .i64 (pa r), .string (ba (nm r)), .float .f64 (rk r)] := set4_is hI1
  have j0 := is_cell hI3 0
  have j1 := is_cell hI3 1
  have j2 := is_cell hI3 2
  have j3 := is_cell hI3 3
  simp only [List.getElem?_cons_zero, List.getElem?_cons_succ] at j0 j1 j2 j3
  refine bodyPost_ret (v := .tuple #[.agg #[.int .i64 (ch r), .int .i64 (pa r), .string (ba (nm r)), .float .f64 (rk r)], .bool true]) (by simp [results, Tryz.f14, go_sem, j0, j1, j2, j3]) rfl ?_
  refine ⟨?_, set4_below hbw (Nat.le_refl _)⟩
  rw [H2.out]; rfl
set_option maxHeartbeats 2000000 in
theorem rfind_c (A : Option Addr) (cap : Nat) (l : List Rw) (c : Int) (hl : l.length ≤ maxLen) (w : World) (hc : At w w.heap.size A (tvs l)) :
  Calls Tryz.prog 15 #[.slice A l.length cap, .int .i64 c] w (FindEnd l c w) := by
 have hl0 := hl
 have hI := cells4 w (.int .i64 0) (.int .i64 0) (.string ⟨#[]⟩) (.float .f64 0) 28
 have hb := (Below.refl w.heap.size w).alloc (Nat.le_refl _) (.cells #[.int .i64 0, .int .i64 0, .string ⟨#[]⟩, .float .f64 0] 28)
 have hc2 := hc.keep hb
 unfold maxLen at hl
 have HC := Lib.hid hc
 clear hc
 rcases plc_cases l c with ⟨h1, h2⟩ | ⟨k, r, h1, hk, h2, hkl⟩
 ·have H2 := Lib.hid h2
  have hcall := rplace_b A cap l c hl0 _ hc2
  rw [h1] at hcall
  have HCALL := Lib.hid hcall
  clear hcall h1 h2 hc2 hl0
  go_enter Tryz.func15, Tryz.ntmps15
  go_wp2_with fail
  refine HCALL.out.mono ?_
  rintro e w1 ⟨rfl, hb1⟩
  have hI1 := is_below hI hb1 (is_lt hI)
  have hbw := hb.trans (hb1.mono hb.size)
  have k0 := is_cell hI1 0
  have k1 := is_cell hI1 1
  have k2 := is_cell hI1 2
  have k3 := is_cell hI1 3
  have f0 := is_free hI1 0
  have f1 := is_free hI1 1
  have f2 := is_free hI1 2
  have f3 := is_free hI1 3
  simp only [List.getElem?_cons_zero, List.getElem?_cons_succ] at k0 k1 k2 k3
  clear hb1
  go_wp2_with fail
  have hI3 : Is _ w.heap.size 28 [.int .i64 0, .int .i64 0, .string ⟨#[]⟩, .float .f64 0] := set4_is hI1
  have j0 := is_cell hI3 0
  have j1 := is_cell hI3 1
  have j2 := is_cell hI3 2
  have j3 := is_cell hI3 3
  simp only [List.getElem?_cons_zero, List.getElem?_cons_succ] at j0 j1 j2 j3
  refine bodyPost_ret (v := .tuple #[.agg #[.int .i64 0, .int .i64 0, .string ⟨#[]⟩, .float .f64 0], .bool false]) (by simp [results, Tryz.f15, go_sem, j0, j1, j2, j3]) rfl ?_
  refine ⟨?_, set4_below hbw (Nat.le_refl _)⟩
  rw [H2.out]; rfl
 ·have H2 := Lib.hid h2
  have hcall := rplace_b A cap l c hl0 _ hc2
  rw [h1] at hcall
  have HCALL := Lib.hid hcall
  have HK := Lib.hid hk
  have hkn : ¬ ((k : Int) < 0) := by omega
  have hk0 : (0 : Int) ≤ (k : Int) := by omega
  have hkli : (k : Int) < (l.length : Int) := by omega
  clear hcall h1 h2 hc2 hl0 hk
  go_enter Tryz.func15, Tryz.ntmps15
  go_wp2_with fail
  refine HCALL.out.mono ?_
  rintro e w1 ⟨rfl, hb1⟩
  have hI1 := is_below hI hb1 (is_lt hI)
  have hbw := hb.trans (hb1.mono hb.size)
  have k0 := is_cell hI1 0
  have k1 := is_cell hI1 1
  have k2 := is_cell hI1 2
  have k3 := is_cell hI1 3
  have f0 := is_free hI1 0
  have f1 := is_free hI1 1
  have f2 := is_free hI1 2
  have f3 := is_free hI1 3
  simp only [List.getElem?_cons_zero, List.getElem?_cons_succ] at k0 k1 k2 k3
  obtain ⟨b0, o0, rfl, hb0, c0, c1, c2, c3⟩ := row_cells (HC.out.below hbw) HK.out
  clear hb1
  go_wp2_with fail
  have hI3 : Is _ w.heap.size 28 [.int .i64 (ch r), .int .i64 (pa r), .string (ba (nm r)), .float .f64 (rk r)] := set4_is hI1
  have j0 := is_cell hI3 0
  have j1 := is_cell hI3 1
  have j2 := is_cell hI3 2
  have j3 := is_cell hI3 3
  simp only [List.getElem?_cons_zero, List.getElem?_cons_succ] at j0 j1 j2 j3
  refine bodyPost_ret (v := .tuple #[.agg #[.int .i64 (ch r), .int .i64 (pa r), .string (ba (nm r)), .float .f64 (rk r)], .bool true]) (by simp [results, Tryz.f15, go_sem, j0, j1, j2, j3]) rfl ?_
  refine ⟨?_, set4_below hbw (Nat.le_refl _)⟩
  rw [H2.out]; rfl
end Go.Proofs.YtkobmnbjeppnaaaGreat
