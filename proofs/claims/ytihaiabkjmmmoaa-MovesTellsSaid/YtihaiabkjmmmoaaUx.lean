/-
  Contracts at written lengths.
-/
import Derived.Test.YtihaiabkjmmmoaaUn
import Derived.Test.YtihaiabkjmmmoaaUi
namespace Go.Proofs.Ytihaiabkjmmmoaa
open Go.RowKit Go.IntWalk
open Wd Fl
set_option maxRecDepth 100000

theorem msince_k {A : Option Addr} {cap n N : Nat} {c r : Int} (l L : List Mv) (h : sinM l c r = L) (hN : L.length = N) (hn : l.length = n) (hl : n ≤ 1000) {w : World} (hc : At w w.heap.size A (mvs l)) :
    Calls Try.prog 25 #[.slice A n cap, .agg #[.int .i64 c, .int .i64 r]] w fun e w' => ∃ A' cap', e = .returned (.slice A' N cap') ∧ At w' w'.heap.size A' (mvs L) ∧ (A' = none → cap' = 0) ∧ N ≤ cap' ∧ Below w.heap.size w w' := by
  subst hN hn h
  refine (msince_c A cap l c r (by omega) w hc).mono ?_
  rintro e w' ⟨A', cap', rfl, hown, hb⟩
  obtain ⟨A2, cap2, he, h1, h2, h3, h4⟩ := own_toldM hown hb
  cases he
  exact ⟨A', cap', rfl, h1, h2, h3, h4⟩
theorem muni_k {A1 A2 : Option Addr} {c1 c2 n1 n2 N : Nat} (a b L : List Mv) (h : uniM a b = L) (hN : L.length = N) (hn1 : a.length = n1) (hn2 : b.length = n2) (hl : n1 + n2 ≤ 1000) (hA : A1 = none → c1 = 0) (hcap : n1 ≤ c1) {w : World} (h1 : At w w.heap.size A1 (mvs a)) (h2 : At w w.heap.size A2 (mvs b)) :
    Calls Try.prog 27 #[.slice A1 n1 c1, .slice A2 n2 c2] w fun e w' => ∃ A' cap', e = .returned (.slice A' N cap') ∧ At w' w'.heap.size A' (mvs L) ∧ (A' = none → cap' = 0) ∧ N ≤ cap' ∧ Below w.heap.size w w' := by
  subst hN hn1 hn2 h
  exact muni_c A1 A2 c1 c2 a b (by omega) hA hcap w h1 h2
theorem mmay_k {A : Option Addr} {cap n : Nat} {b : Bool} (l : List Mv) (h : mayM l = b) (hn : l.length = n) (hl : n ≤ 1000) (hnm : ∀ m ∈ l, (nm (mw m)).length ≤ maxLen) {w : World} (hc : At w w.heap.size A (mvs l)) :
    Calls Try.prog 21 #[.slice A n cap] w fun e w' => e = .returned (.bool b) ∧ Below w.heap.size w w' := by
  subst hn h
  exact mmay_c A cap l (by unfold maxLen; omega) hnm w hc
theorem mmsame_k {A1 A2 : Option Addr} {c1 c2 n1 n2 : Nat} {q : Bool} (a b : List Mv) (h : sameM a b = q) (hn1 : a.length = n1) (hn2 : b.length = n2) (hl1 : n1 ≤ 1000) (hl2 : n2 ≤ 1000) (hm1 : Moves_ a) (hm2 : Moves_ b) {w : World} (h1 : At w w.heap.size A1 (mvs a)) (h2 : At w w.heap.size A2 (mvs b)) :
    Calls Try.prog 23 #[.slice A1 n1 c1, .slice A2 n2 c2] w fun e w' => e = .returned (.bool q) ∧ Below w.heap.size w w' := by
  subst hn1 hn2 h
  exact mmsame_c A1 A2 c1 c2 a b (by omega) (by omega) hm1 hm2 w h1 h2
theorem at_lit (w : World) (t : TypeId) (xs : List Value) : At (w.alloc (.cells xs.toArray t)) (w.alloc (.cells xs.toArray t)).heap.size (some ⟨w.heap.size, 0, none⟩) xs := fun i v hv =>
  ⟨w.heap.size, 0, rfl, by simp, by rw [Nat.zero_add]; exact (is_cell (is_new w t xs) i).trans hv⟩
theorem bthen {w w1 w2 : World} (h : Below w.heap.size w w1) (h2 : Below w1.heap.size w1 w2) : Below w.heap.size w w2 := h.trans (h2.mono h.size)
end Go.Proofs.Ytihaiabkjmmmoaa
