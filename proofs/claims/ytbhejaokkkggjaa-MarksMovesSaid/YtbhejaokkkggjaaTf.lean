/-
  A row that is dropped, and one that is set: the program's.
-/
import Derived.Test.YtbhejaokkkggjaaTe
namespace Go.Proofs.Ytbhejaokkkggjaa
open Go.RowKit Go.IntWalk
set_option maxRecDepth 100000
attribute [local go_sem] Oper.semAt_some

def dropP (l : List Rw) (c : Int) : List Rw := match l.findIdx? (fun r => ch r == c) with
  | some k => l.take k ++ l.drop (k + 1)
  | none => l
theorem plc_drop (l : List Rw) (c : Int) : (plc l c = -1 ∧ dropP l c = l) ∨ ∃ (k : Nat) (r : Rw), plc l c = (k : Int) ∧ l[k]? = some r ∧ dropP l c = l.take k ++ l.drop (k + 1) ∧ k < l.length := by
  unfold plc idx dropP
  cases h : l.findIdx? (fun r => ch r == c) with
  | none => exact .inl ⟨rfl, rfl⟩
  | some k =>
    obtain ⟨h1, _, _⟩ := List.findIdx?_eq_some_iff_getElem.1 h
    exact .inr ⟨k, l[k], rfl, by simp [h1], rfl, h1⟩
theorem ownsRow_low {w : World} {B B2 : Nat} {e : TypeId} {size : Nat} {v : Value} {n : Nat} {xs : List Value} (h : w.ownsRow B e size v n xs) (hB : B2 ≤ B) : w.ownsRow B2 e size v n xs := by
  refine ⟨h.1, ?_⟩
  rcases h.2 with h | ⟨g, cap, cur, hv, hg, r⟩
  · exact .inl h
  · exact .inr ⟨g, cap, cur, hv, Nat.le_trans hB hg, r⟩
theorem first_k {A : Option Addr} {cap : Nat} {l : List Rw} {c : Int} (x : Int) (hx : plc l c = x) (hl : l.length ≤ maxLen) {w : World} (hc : At w w.heap.size A (tvs l)) :
    Calls Try.prog 111 #[.slice A l.length cap, .int .i64 c] w fun e w' => e = .returned (.int .i64 x) ∧ Below w.heap.size w w' := by
  subst hx
  exact tfirst_c A cap l c hl w hc
theorem at_newR (w : World) (t : TypeId) (xs : List Value) : At (w.alloc (.cells xs.toArray t)).drew (w.alloc (.cells xs.toArray t)).drew.heap.size (some ⟨w.heap.size, 0, none⟩) xs := fun i v hv =>
  ⟨w.heap.size, 0, rfl, by show w.heap.size < (w.alloc _).heap.size; simp, by rw [Nat.zero_add]; exact (is_cell (is_new w t xs) i).trans hv⟩
/-- slices.Concat of parts that are written out -/
theorem concat_k {vals : List Value} {G cap n : Nat} {N : List Rw} (L : List (Option Addr × Nat × List Rw)) (hn : n = L.length) (hv : vals = lvs L) (hN : flatR L = N) (hL : L.length ≤ 1000) (hF : N.length ≤ 200000) {w : World} (hc : At w w.heap.size (some ⟨G, 0, none⟩) vals) (hcs : ∀ x ∈ L, At w w.heap.size x.1 (tvs x.2.2) ∧ (x.1 = none → x.2.1 = 0) ∧ x.2.2.length ≤ x.2.1) :
    Calls Try.prog 112 #[.slice (some ⟨G, 0, none⟩) n cap] w (Fresh_ N w) := by
  subst hn hv hN
  exact concat_c L G 0 cap hL hF w hc hcs
theorem at_takeR {w : World} {B b o : Nat} {l : List Rw} (h : At w B (some ⟨b, o, none⟩) (tvs l)) (j : Nat) : At w B (some ⟨b, o, none⟩) (tvs (l.take j)) := by rw [tvs_take]; exact h.take _
theorem at_dropR {w : World} {B b o : Nat} {l : List Rw} (h : At w B (some ⟨b, o, none⟩) (tvs l)) (j : Nat) : At w B (some ⟨b, o + j * 4, none⟩) (tvs (l.drop j)) := by rw [tvs_drop]; exact h.drop _

end Go.Proofs.Ytbhejaokkkggjaa
