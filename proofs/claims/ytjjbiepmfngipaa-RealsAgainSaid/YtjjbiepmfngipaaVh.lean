/-
  Slices of numbers with a point that came in: their cells, and that a nil one has no room.
-/
import Derived.Test.YtjjbiepmfngipaaVg
import Derived.Test.YtjjbiepmfngipaaVb
import Derived.Test.YtjjbiepmfngipaaLd
import Derived.Deep.Grids
namespace Go.Proofs.Ytjjbiepmfngipaa
open Go.ChangeShapes Go.WideShapes Go.RowKit
open Pk Re
set_option maxRecDepth 100000
theorem cells_f64 : Try.prog.cellsOf 33 = 1 := by kernel_rfl

section
variable {H : Type} {enc : TypeId × Value → H} {w : World} {r : Reach} {b0 : Nat} {v : Value} {d : DataW H} {ps : List MemPlace}

theorem trod_flt {P : Program} {base : Nat} {spare : Nat → Bool} {held : Bool} {fuel : Nat} {t : TypeId} {cs : List Value} {x : DataW H × List MemPlace} (ht : P.underlying t = some (.float .f64)) (h : DataW.trod enc P w base spare held fuel t cs = some x) :
    ∃ b, cs = [.float .f64 b] ∧ b < 18446744073709551616 := by
  cases fuel with
  | zero => simp [DataW.trod] at h
  | succ n =>
    unfold DataW.trod at h
    rw [ht] at h
    split at h
    case h_3 k k' b heq =>
      injection heq with heq
      injection heq with heq
      subst heq
      split at h
      · rename_i hc
        obtain ⟨rfl, hw⟩ := hc
        exact ⟨b, rfl, by simpa [Lit.wf] using hw⟩
      · cases h
    all_goals simp_all
theorem reals_in (hval : Value.okWide Try.prog w r b0 22 v) (hj : DataW.Trod enc Try.prog w 0 (fun _ => true) true 22 v d ps) :
    ∃ (A : Option Addr) (cap : Nat) (xs : List Nat), v = .slice A xs.length cap ∧ (A = none → cap = 0) ∧ xs.length ≤ cap ∧ xs.length ≤ maxLen ∧ At w w.heap.size A (fvs xs) ∧ Words xs := by
  obtain ⟨a0, len, cap, rfl⟩ := okWide_slice Try.underlying22 hval
  obtain ⟨fuel, hf⟩ := hj
  rcases Go.Deep.open_slice1 Try.underlying22 cells_f64 hf with ⟨hcs, _⟩ | ⟨a, len', cap', m, n, V, D, Pl, hcs, hb, hl, hm, hmm, _, hx⟩
  · simp only [Value.cells, List.cons.injEq, and_true] at hcs
    injection hcs with h1 h2 h3
    subst h1 h2 h3
    exact ⟨none, 0, [], rfl, fun _ => rfl, Nat.le_refl _, Nat.zero_le _, At.nil _ _ _, fun u hu => by simp at hu⟩
  · simp only [Value.cells, List.cons.injEq, and_true] at hcs
    injection hcs with h1 h2 h3
    subst h1 h2 h3
    simp only [if_true] at hmm
    subst hmm
    obtain ⟨B, hB⟩ := Go.Deep.choose_lt (α := Nat) (p := fun i b => V i = .float .f64 b ∧ b < 18446744073709551616) (fun i hi => by
      obtain ⟨b, h1, h2⟩ := trod_flt Try.underlying33 (hx i hi).2
      exact ⟨b, by simpa using h1, h2⟩)
    refine ⟨some a, m, (List.range len).map B, by simp, (fun h => by cases h), by simp; exact hl, by simp; omega, fun i v hv => ?_, fun u hu => ?_⟩
    · have hi : i < len := by
        have := (List.getElem?_eq_some_iff.1 hv).1
        simpa [fvs] using this
      have h00 := (hx 0 (by omega)).1
      have hci := (hx i (by omega)).1
      rw [(hB i (by omega)).1] at hci
      obtain ⟨b, off, spot⟩ := a
      have hspot : spot = none := by simpa [Addr.add] using World.cell?_spot h00
      subst hspot
      rw [Go.WideShapes.add_plain] at hci
      refine ⟨b, off, rfl, World.block_lt_of_cell? _ _ hci, ?_⟩
      rw [hci]
      simp only [fvs, List.map_map] at hv
      rw [List.getElem?_map, List.getElem?_range hi] at hv
      simpa using hv
    · simp only [List.mem_map, List.mem_range] at hu
      obtain ⟨i, hi, rfl⟩ := hu
      exact (hB i (by omega)).2
end
end Go.Proofs.Ytjjbiepmfngipaa
