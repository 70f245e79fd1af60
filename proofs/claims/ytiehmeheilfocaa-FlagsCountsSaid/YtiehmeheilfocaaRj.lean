/-
  The document's examples of layer 5: 'live'.
-/
import Derived.Test.YtiehmeheilfocaaRi
import Derived.Test.YtiehmeheilfocaaRf
import Derived.Test.YtiehmeheilfocaaRg
namespace Go.Proofs.Ytiehmeheilfocaa
open Go.RowKit Go.IntWalk
open Pk
set_option maxRecDepth 100000

theorem at_new (w : World) (t : TypeId) (l : List Value) : At (w.alloc (.cells l.toArray t)) (w.alloc (.cells l.toArray t)).heap.size (some ⟨w.heap.size, 0, none⟩) l := fun i v hv =>
  ⟨w.heap.size, 0, rfl, by simp, by rw [is_cell (is_new w t l), Nat.zero_add]; exact hv⟩

theorem same5_k {A1 A2 : Option Addr} {c1 c2 n m : Nat} (xs ys : List Int) (hn : xs.length = n) (hm : ys.length = m) (hx : n ≤ 100000) (hy : m ≤ 100000) {w : World} (h1 : At w w.heap.size A1 (ivs xs)) (h2 : At w w.heap.size A2 (ivs ys)) :
    Calls Try.prog 16 #[.slice A1 n c1, .slice A2 m c2] w fun e w' => e = .returned (.bool (decide (xs = ys))) ∧ Below w.heap.size w w' := by
  subst hn; subst hm; exact same5_c A1 A2 c1 c2 xs ys (by unfold maxLen; omega) (by unfold maxLen; omega) w h1 h2
namespace live5
theorem e1 : encL [5, 3] = [10, 3] := by
  have h1 : put 10 = [10] := by rw [put_lo (by omega)]; rfl
  have h2 : put 3 = [3] := by rw [put_lo (by omega)]; rfl
  have h3 : dl 0 [5, 3] = [5, -2] := rfl
  have h4 : zig 5 = 10 := rfl
  have h5 : zig (-2) = 3 := rfl
  unfold encL
  rw [h3, encD_cons, encD_cons, encD_nil, h4, h5, h1, h2]
  rfl
theorem d2 : decV [10, 3] 2 = ([5, 3], 0) := by
  have := dec_enc [5, 3] (fun x hx => by simp at hx; rcases hx with rfl | rfl <;> (unfold In64; omega))
  rw [e1] at this
  exact this
theorem d1 : decV [10, 3] 1 = ([], 5) := by
  have h1 : put 10 = [10] := by rw [put_lo (by omega)]; rfl
  have h := rdn_enc [5] [3] (fun x hx => by simp at hx; subst hx; unfold In64; omega)
  rw [encD_cons, encD_nil, show zig 5 = 10 from rfl, h1] at h
  have h' : rdn 1 ⟨[10, 3], 0⟩ = ([5], ⟨[3], 0⟩) := h
  have := @decV_bad [10, 3] 1 (by decide) (by rw [h']; decide)
  rw [h'] at this
  exact this
theorem d3 : decV [10, 3] 3 = ([], 2) := decV_far (by decide)
theorem dl1 : decV [128, 0] 1 = ([], 3) := by
  have h : numS ⟨[128, 0], 0⟩ = ⟨[128, 0], 3⟩ := rfl
  have h' : (rdn 1 ⟨[128, 0], 0⟩).2 = ⟨[128, 0], 3⟩ := by rw [rdn]; exact h
  have := @decV_bad [128, 0] 1 (by decide) (by rw [h']; decide)
  rw [h'] at this
  exact this
theorem dn : decV [] (-1) = ([], 1) := decV_neg (by omega)
theorem d0 : decV [] 0 = ([], 0) := rfl
end live5
end Go.Proofs.Ytiehmeheilfocaa
