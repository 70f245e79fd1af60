/-
  What slices of numbers and of texts that came in are, as values and cells.
-/
import Derived.Test.YtjjbiepmfngipaaBa
import Derived.ProofKit
import Derived.OpenShut
import Derived.SliceStrings
import Derived.ChangeOld
import Derived.Test.YtjjbiepmfngipaaRb
namespace Go.Proofs.Ytjjbiepmfngipaa
open Go.ChangeShapes Go.WideShapes Go.RowKit
set_option maxRecDepth 100000

/-- the cells behind an address, as many as vs -/
def Cells (w : World) (A : Option Addr) (vs : List Value) : Prop := ∀ (i : Nat) (v : Value), vs[i]? = some v → ∃ b off, A = some ⟨b, off, none⟩ ∧ b < w.heap.size ∧ w.cell? ⟨b, off + i, none⟩ = some v
theorem cells_below {w w' : World} {A : Option Addr} {vs : List Value} (h : Cells w A vs) (hb : Below w.heap.size w w') : Cells w' A vs := by
  intro i v hv
  obtain ⟨b, off, ha, hlt, hc⟩ := h i v hv
  exact ⟨b, off, ha, Nat.lt_of_lt_of_le hlt hb.size, (hb.cell (p := ⟨b, off + i, none⟩) hlt).trans hc⟩

theorem cells_i64 : Try.prog.cellsOf 3 = 1 := by kernel_rfl
theorem cells_u64 : Try.prog.cellsOf 23 = 1 := by kernel_rfl
theorem cells_str : Try.prog.cellsOf 9 = 1 := by kernel_rfl

section
variable {H : Type} {enc : TypeId × Value → H} {w : World} {r : Reach} {b0 : Nat} {v : Value} {d : DataW H} {ps : List MemPlace}

theorem nums_read {t e : TypeId} {k : IntKind} (ht : Try.prog.underlying t = some (.slice e)) (he : Try.prog.underlying e = some (.int k)) (hc : Try.prog.cellsOf e = 1)
    (hval : Value.okWide Try.prog w r b0 t v) (hj : DataW.Trod enc Try.prog w 0 (fun _ => true) true t v d ps) :
    ∃ (A : Option Addr) (cap : Nat) (xs : List Int), v = .slice A xs.length cap ∧ xs.length ≤ maxLen ∧ Cells w A (xs.map (Value.int k)) ∧ ∀ x ∈ xs, (Lit.int k x).wf = true := by
  obtain ⟨a0, len, cap, rfl⟩ := okWide_slice ht hval
  obtain ⟨fuel, hf⟩ := hj
  rcases open_ints ht he hc hf with ⟨hcs, _⟩ | ⟨a, len', cap', zs, hcs, _, hl, hm, hz, _, hcell, hwf⟩
  · simp only [Value.cells, List.cons.injEq, and_true] at hcs
    injection hcs with h1 h2 h3
    subst h1 h2 h3
    exact ⟨none, 0, [], rfl, by simp, fun i v hv => by simp at hv, fun x hx => by simp at hx⟩
  · simp only [Value.cells, List.cons.injEq, and_true] at hcs
    injection hcs with h1 h2 h3
    subst h1 h2 h3
    simp only [if_true] at hz
    have hlen : (zs.take len).length = len := by rw [List.length_take]; omega
    refine ⟨some a, cap, zs.take len, by rw [hlen], by rw [hlen]; omega, fun i v hv => ?_, fun x hx => hwf x (List.mem_of_mem_take hx)⟩
    have hi : i < len := by
      have := (List.getElem?_eq_some_iff.1 hv).1
      simp at this
      omega
    obtain ⟨b, off, rfl, hc2⟩ := ints_at hcell (by omega)
    refine ⟨b, off, rfl, World.block_lt_of_cell? _ _ (hc2 i (by omega)), ?_⟩
    rw [hc2 i (by omega)]
    have : v = .int k (zs.getD i 0) := by
      rw [List.getElem?_map, List.getElem?_take_of_lt hi] at hv
      rw [List.getElem?_eq_getElem (by omega)] at hv
      simp at hv
      rw [← hv]
      simp [List.getD, List.getElem?_eq_getElem (show i < zs.length by omega)]
    rw [this]

theorem strs_read {t e : TypeId} (ht : Try.prog.underlying t = some (.slice e)) (he : Try.prog.underlying e = some .string) (hc : Try.prog.cellsOf e = 1)
    (hval : Value.okWide Try.prog w r b0 t v) (hj : DataW.Trod enc Try.prog w 0 (fun _ => true) true t v d ps) :
    ∃ (A : Option Addr) (cap : Nat) (xs : List ByteArray), v = .slice A xs.length cap ∧ xs.length ≤ maxLen ∧ Cells w A (xs.map Value.string) ∧ ∀ x ∈ xs, x.size ≤ maxLen := by
  obtain ⟨a0, len, cap, rfl⟩ := okWide_slice ht hval
  obtain ⟨fuel, hf⟩ := hj
  rcases open_strings ht he hc hf with ⟨hcs, _⟩ | ⟨a, len', cap', zs, hcs, _, hl, hm, hz, _, hcell, hwf⟩
  · simp only [Value.cells, List.cons.injEq, and_true] at hcs
    injection hcs with h1 h2 h3
    subst h1 h2 h3
    exact ⟨none, 0, [], rfl, by simp, fun i v hv => by simp at hv, fun x hx => by simp at hx⟩
  · simp only [Value.cells, List.cons.injEq, and_true] at hcs
    injection hcs with h1 h2 h3
    subst h1 h2 h3
    simp only [if_true] at hz
    have hlen : (zs.take len).length = len := by rw [List.length_take]; omega
    refine ⟨some a, cap, zs.take len, by rw [hlen], by rw [hlen]; omega, fun i v hv => ?_, fun x hx => hwf x (List.mem_of_mem_take hx)⟩
    have hi : i < len := by
      have := (List.getElem?_eq_some_iff.1 hv).1
      simp at this
      omega
    have hp := hcell i (by omega)
    obtain ⟨b, off, spot⟩ := a
    have hspot : spot = none := by
      have h0 := hcell 0 (by omega)
      simpa [Addr.add] using World.cell?_spot h0
    subst hspot
    rw [Go.WideShapes.add_plain] at hp
    refine ⟨b, off, rfl, World.block_lt_of_cell? _ _ hp, ?_⟩
    rw [hp]
    rw [List.getElem?_map, List.getElem?_take_of_lt hi] at hv
    rw [List.getElem?_eq_getElem (by omega)] at hv
    simp at hv
    rw [← hv]
    simp [List.getD, List.getElem?_eq_getElem (show i < zs.length by omega)]
theorem str_read {t : TypeId} (ht : Try.prog.underlying t = some .string) (hval : Value.okWide Try.prog w r b0 t v) (hj : DataW.Trod enc Try.prog w 0 (fun _ => true) true t v d ps) :
    ∃ s : ByteArray, v = .string s ∧ s.size ≤ maxLen := by
  obtain ⟨s, h, _, _, hs⟩ := Go.ChangeMaps.open_string ht hval hj
  exact ⟨s, h, hs⟩
end
end Go.Proofs.Ytjjbiepmfngipaa

namespace Go.Proofs.Ytjjbiepmfngipaa
open Go.ChangeShapes Go.WideShapes Go.RowKit
open Pk
set_option maxRecDepth 100000

theorem in64_of {x : Int} (h : (Lit.int .i64 x).wf = true) : In64 x := by
  simp [Lit.wf, IntKind.min, IntKind.max, IntKind.bits, IntKind.signed] at h
  unfold In64
  omega
theorem nat64_of {x : Int} (h : (Lit.int .u64 x).wf = true) : ∃ u : Nat, x = (u : Int) ∧ u < 18446744073709551616 := by
  simp [Lit.wf, IntKind.min, IntKind.max, IntKind.bits, IntKind.signed] at h
  exact ⟨x.toNat, by omega, by omega⟩
theorem ints_of {xs : List Int} (h : ∀ x ∈ xs, (Lit.int .i64 x).wf = true) : Ints xs := fun x hx => in64_of (h x hx)
theorem nats_of : ∀ {xs : List Int}, (∀ x ∈ xs, (Lit.int .u64 x).wf = true) → ∃ us : List Nat, xs = us.map (fun (u : Nat) => (u : Int)) ∧ ∀ u ∈ us, u < 18446744073709551616
  | [], _ => ⟨[], rfl, by simp⟩
  | x :: xs, h => by
    obtain ⟨u, rfl, hu⟩ := nat64_of (h x (by simp))
    obtain ⟨us, rfl, hus⟩ := nats_of (xs := xs) (fun y hy => h y (by simp [hy]))
    exact ⟨u :: us, rfl, fun v hv => by rcases List.mem_cons.1 hv with rfl | hv; exact hu; exact hus v hv⟩

section
variable {H : Type} {enc : TypeId × Value → H} {w : World} {r : Reach} {b0 : Nat} {v : Value} {d : DataW H} {ps : List MemPlace}

theorem nums_in {t e : TypeId} {k : IntKind} (ht : Try.prog.underlying t = some (.slice e)) (he : Try.prog.underlying e = some (.int k)) (hc : Try.prog.cellsOf e = 1)
    (hval : Value.okWide Try.prog w r b0 t v) (hj : DataW.Trod enc Try.prog w 0 (fun _ => true) true t v d ps) :
    ∃ (A : Option Addr) (cap : Nat) (xs : List Int), v = .slice A xs.length cap ∧ xs.length ≤ cap ∧ xs.length ≤ maxLen ∧ At w w.heap.size A (xs.map (Value.int k)) ∧ ∀ x ∈ xs, (Lit.int k x).wf = true := by
  obtain ⟨A, cap, xs, hv, hl, hcs, hw⟩ := nums_read ht he hc hval hj
  refine ⟨A, cap, xs, hv, ?_, hl, hcs, hw⟩
  obtain ⟨fuel, hf⟩ := hj
  subst hv
  rcases open_ints ht he hc hf with ⟨hcs, _⟩ | ⟨a, len', cap', zs, hcs, _, hle, _⟩
  · simp only [Value.cells, List.cons.injEq, and_true] at hcs
    injection hcs with h1 h2 h3
    omega
  · simp only [Value.cells, List.cons.injEq, and_true] at hcs
    injection hcs with h1 h2 h3
    omega
end
end Go.Proofs.Ytjjbiepmfngipaa
