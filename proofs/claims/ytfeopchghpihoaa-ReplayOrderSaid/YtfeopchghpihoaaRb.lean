/-
  Slices as cells that lie below a bound; two lists held against each other; iterators over them.
-/
import Derived.Test.YtfeopchghpihoaaBa
import Derived.Deep.QuietTactic
import Derived.BigQuiet
import Derived.Deep.RegionHeld3
namespace Go.Proofs.Ytfeopchghpihoaa
open Go.RowKit
open Pk
set_option maxRecDepth 100000

/-- behind the address A lie the cells xs, below B -/
def At (w : World) (B : Nat) (A : Option Addr) (xs : List Value) : Prop := ∀ (i : Nat) (v : Value), xs[i]? = some v → ∃ b off, A = some ⟨b, off, none⟩ ∧ b < B ∧ w.cell? ⟨b, off + i, none⟩ = some v
theorem At.below {B : Nat} {w w' : World} {A : Option Addr} {xs : List Value} (h : At w B A xs) (hb : Below B w w') : At w' B A xs := fun i v hv => by
  obtain ⟨b, off, ha, hlt, hc⟩ := h i v hv
  exact ⟨b, off, ha, hlt, (hb.cell (p := ⟨b, off + i, none⟩) hlt).trans hc⟩
theorem At.mono {B B' : Nat} {w : World} {A : Option Addr} {xs : List Value} (h : At w B A xs) (hB : B ≤ B') : At w B' A xs := fun i v hv => by
  obtain ⟨b, off, ha, hlt, hc⟩ := h i v hv
  exact ⟨b, off, ha, Nat.lt_of_lt_of_le hlt hB, hc⟩
theorem At.keep {w w' : World} {A : Option Addr} {xs : List Value} (h : At w w.heap.size A xs) (hb : Below w.heap.size w w') : At w' w'.heap.size A xs := (h.below hb).mono hb.size
theorem At.nil (w : World) (B : Nat) (A : Option Addr) : At w B A [] := fun i v hv => by simp at hv
theorem At.take {w : World} {B : Nat} {A : Option Addr} {xs : List Value} (h : At w B A xs) (n : Nat) : At w B A (xs.take n) := fun i v hv => by
  by_cases hi : i < n
  · rw [List.getElem?_take_of_lt hi] at hv
    exact h i v hv
  · rw [List.getElem?_eq_none (by rw [List.length_take]; omega)] at hv
    cases hv
theorem At.drop {w : World} {B b off : Nat} {xs : List Value} (h : At w B (some ⟨b, off, none⟩) xs) (n : Nat) : At w B (some ⟨b, off + n, none⟩) (xs.drop n) := fun i v hv => by
  rw [List.getElem?_drop] at hv
  obtain ⟨b', off', ha, hlt, hc⟩ := h _ v hv
  cases ha
  exact ⟨b, off + n, rfl, hlt, by rw [Nat.add_assoc]; exact hc⟩
/-- the address is nobody's yet, at a heap of N blocks -/
def Fresh (N : Nat) (A : Option Addr) : Prop := ∀ a, A = some a → N ≤ a.block
/-- a row of the call's own -/
theorem own_at {w : World} {base : Nat} {e : TypeId} {size : Nat} {v : Value} {n : Nat} {xs : List Value} (h : w.ownsRow base e size v n xs) : ∃ A cap, v = .slice A n cap ∧ At w w.heap.size A xs ∧ Fresh base A ∧ n ≤ cap := by
  rcases hv : v.ownBlock with _ | g
  · rcases h.2 with ⟨rfl, rfl⟩ | ⟨g, cap, cur, rfl, _⟩
    · have : xs = [] := List.eq_nil_of_length_eq_zero (by rw [h.1]; simp)
      subst this
      exact ⟨none, 0, rfl, At.nil _ _ _, fun a ha => (by cases ha), Nat.le_refl _⟩
    · simp [Value.ownBlock] at hv
  · have hlt := (h.lt g hv).2
    have hcell := h.cells hv
    rcases h.2 with ⟨rfl, rfl⟩ | ⟨g', cap, cur, rfl, hg', _, hcap, _⟩
    · simp [Value.ownBlock] at hv
    · have hg : g' = g := by simpa [Value.ownBlock] using hv
      subst hg
      refine ⟨_, _, rfl, fun i u hu => ⟨g', 0, rfl, hlt, ?_⟩, fun a ha => by cases ha; exact hg', hcap⟩
      have := hcell i u hu
      rw [add_head] at this
      rw [Nat.zero_add]
      exact this

def ivs (l : List Int) : List Value := l.map (Value.int .i64)
def uvs (l : List Nat) : List Value := l.map fun (u : Nat) => Value.int .u64 (u : Int)
theorem ivs_at {l : List Int} {k : Nat} {x : Int} (h : l[k]? = some x) : (ivs l)[k]? = some (.int .i64 x) := by simp [ivs, h]
theorem uvs_at {l : List Nat} {k : Nat} {x : Nat} (h : l[k]? = some x) : (uvs l)[k]? = some (.int .u64 (x : Int)) := by simp [uvs, h]
theorem ivs_len (l : List Int) : (ivs l).length = l.length := by simp [ivs]
theorem uvs_len (l : List Nat) : (uvs l).length = l.length := by simp [uvs]
theorem some_at {α : Type} {l : List α} {k : Nat} (h : k < l.length) : ∃ x, l[k]? = some x := ⟨_, List.getElem?_eq_getElem h⟩
theorem mem_at {α : Type} {l : List α} {k : Nat} {x : α} (h : l[k]? = some x) : x ∈ l := List.mem_of_getElem? h

theorem below_drewN {B : Nat} {a w : World} (h : Below B a w) (n : Nat) : Below B a (w.drewN n) := ⟨h.os, h.tape, h.output, h.size, h.block⟩

theorem ext_take {α : Type} {xs ys : List α} {k : Nat} (h : xs.take k = ys.take k) {x y : α} (hx : xs[k]? = some x) (hy : ys[k]? = some y) : (xs.take (k + 1) = ys.take (k + 1) ↔ x = y) := by
  rw [List.take_add_one, List.take_add_one, h, hx, hy]
  simp

theorem at_drewN' {w : World} {B : Nat} {A : Option Addr} {xs : List Value} (h : At w B A xs) (n : Nat) : At (w.drewN n) B A xs := h
theorem at_drewE {w w' : World} {B : Nat} {A : Option Addr} {xs : List Value} (h : At w B A xs) (hq : ∃ q, w' = w.drewN q) : At w' B A xs := by
  obtain ⟨q, rfl⟩ := hq
  exact h
theorem drewE {w w' : World} (hq : ∃ q, w' = w.drewN q) (n : Nat) : ∃ q, w'.drewN n = w.drewN q := by
  obtain ⟨q, rfl⟩ := hq
  exact ⟨q + n, by simp⟩
end Go.Proofs.Ytfeopchghpihoaa
