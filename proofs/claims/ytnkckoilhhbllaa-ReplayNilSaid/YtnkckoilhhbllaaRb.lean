/-
  Slices as cells that lie below a bound; two lists held against each other; iterators over them.
-/
import Derived.Test.YtnkckoilhhbllaaBa
import Derived.Deep.QuietTactic
import Derived.BigQuiet
import Derived.Deep.RegionHeld3
namespace Go.Proofs.Ytnkckoilhhbllaa
open Go.RowKit
open Pk
set_option maxRecDepth 100000

/-- behind the address A lie the cells xs, below B -/
def At (w : World) (B : Nat) (A : Option Addr) (xs : List Value) : Prop := ∀ (i : Nat) (v : Value), xs[i]? = some v → ∃ b off, A = some ⟨b, off, none⟩ ∧ b < B ∧ w.cell? ⟨b, off + i, none⟩ = some v
theorem At.below {B : Nat} {w w' : World} {A : Option Addr} {xs : List Value} (h : At w B A xs) (hb : Below B w w') : At w' B A xs := fun i v hv => by
  obtain ⟨b, off, ha, hlt, hc⟩ := h i v hv
  exact ⟨b, off, ha, hlt, (hb.cell (p := ⟨b, off + i, none⟩) hlt).trans hc⟩
theorem At.mono {B B' : Nat} {w : World} {A : Option Addr} {xs : List Value} (h : At w B A xs) (hB : B ≤ B') : At w B' A xs := fun i v hv => by
  obtain ⟨b, off, ha, hlt, hc⟩ := h i v hv
  exact ⟨b, off, ha, Nat.lt_of_lt_of_le hlt hB, hc⟩
theorem At.keep {w w' : World} {A : Option Addr} {xs : List Value} (h : At w w.heap.size A xs) (hb : Below w.heap.size w w') : At w' w'.heap.size A xs := (h.below hb).mono hb.size
theorem At.nil (w : World) (B : Nat) (A : Option Addr) : At w B A [] := fun i v hv => by simp at hv
theorem At.take {w : World} {B : Nat} {A : Option Addr} {xs : List Value} (h : At w B A xs) (n : Nat) : At w B A (xs.take n) := fun i v hv => by
  by_cases hi : i < n
  · rw [List.getElem?_take_of_lt hi] at hv
    exact h i v hv
  · rw [List.getElem?_eq_none (by rw [List.length_take]; omega)] at hv
    cases hv
theorem At.drop {w : World} {B b off : Nat} {xs : List Value} (h : At w B (some ⟨b, off, none⟩) xs) (n : Nat) : At w B (some ⟨b, off + n, none⟩) (xs.drop n) := fun i v hv => by
  rw [List.getElem?_drop] at hv
  obtain ⟨b', off', ha, hlt, hc⟩ := h _ v hv
  cases ha
  exact ⟨b, off + n, rfl, hlt, by rw [Nat.add_assoc]; exact hc⟩
/-- the address is nobody's yet, at a heap of N blocks -/
def Fresh (N : Nat) (A : Option Addr) : Prop := ∀ a, A = some a → N ≤ a.block
/-- a row of the call's own -/
theorem own_at {w : World} {base : Nat} {e : TypeId} {size : Nat} {v : Value} {n : Nat} {xs : List Value} (h : w.ownsRow base e size v n xs) : ∃ A cap, v = .slice A n cap ∧ At w w.heap.size A xs ∧ Fresh base A ∧ n ≤ cap := by
  rcases hv : v.ownBlock with _ | g
  · rcases h.2 with ⟨rfl, rfl⟩ | ⟨g, cap, cur, rfl, _⟩
    · have : xs = [] := List.eq_nil_of_length_eq_zero (by rw [h.1]; simp)
      subst this
      exact ⟨none, 0, rfl, At.nil _ _ _, fun a ha => (by cases ha), Nat.le_refl _⟩
    · simp [Value.ownBlock] at hv
  · have hlt := (h.lt g hv).2
    have hcell := h.cells hv
    rcases h.2 with ⟨rfl, rfl⟩ | ⟨g', cap, cur, rfl, hg', _, hcap, _⟩
    · simp [Value.ownBlock] at hv
    · have hg : g' = g := by simpa [Value.ownBlock] using hv
      subst hg
      refine ⟨_, _, rfl, fun i u hu => ⟨g', 0, rfl, hlt, ?_⟩, fun a ha => by cases ha; exact hg', hcap⟩
      have := hcell i u hu
      rw [add_head] at this
      rw [Nat.zero_add]
      exact this

def ivs (l : List Int) : List Value := l.map (Value.int .i64)
def uvs (l : List Nat) : List Value := l.map fun (u : Nat) => Value.int .u64 (u : Int)
theorem ivs_at {l : List Int} {k : Nat} {x : Int} (h : l[k]? = some x) : (ivs l)[k]? = some (.int .i64 x) := by simp [ivs, h]
theorem uvs_at {l : List Nat} {k : Nat} {x : Nat} (h : l[k]? = some x) : (uvs l)[k]? = some (.int .u64 (x : Int)) := by simp [uvs, h]
theorem ivs_len (l : List Int) : (ivs l).length = l.length := by simp [ivs]
theorem uvs_len (l : List Nat) : (uvs l).length = l.length := by simp [uvs]
theorem some_at {α : Type} {l : List α} {k : Nat} (h : k < l.length) : ∃ x, l[k]? = some x := ⟨_, List.getElem?_eq_getElem h⟩
theorem mem_at {α : Type} {l : List α} {k : Nat} {x : α} (h : l[k]? = some x) : x ∈ l := List.mem_of_getElem? h

theorem below_drewN {B : Nat} {a w : World} (h : Below B a w) (n : Nat) : Below B a (w.drewN n) := ⟨h.os, h.tape, h.output, h.size, h.block⟩

theorem ext_take {α : Type} {xs ys : List α} {k : Nat} (h : xs.take k = ys.take k) {x y : α} (hx : xs[k]? = some x) (hy : ys[k]? = some y) : (xs.take (k + 1) = ys.take (k + 1) ↔ x = y) := by
  rw [List.take_add_one, List.take_add_one, h, hx, hy]
  simp

theorem at_drewN' {w : World} {B : Nat} {A : Option Addr} {xs : List Value} (h : At w B A xs) (n : Nat) : At (w.drewN n) B A xs := h
theorem at_drewE {w w' : World} {B : Nat} {A : Option Addr} {xs : List Value} (h : At w B A xs) (hq : ∃ q, w' = w.drewN q) : At w' B A xs := by
  obtain ⟨q, rfl⟩ := hq
  exact h
theorem drewE {w w' : World} (hq : ∃ q, w' = w.drewN q) (n : Nat) : ∃ q, w'.drewN n = w.drewN q := by
  obtain ⟨q, rfl⟩ := hq
  exact ⟨q + n, by simp⟩
theorem same5_q (A1 A2 : Option Addr) (c1 c2 : Nat) (xs ys : List Int) (hx : xs.length ≤ maxLen) (hy : ys.length ≤ maxLen) (w : World) (h1 : At w w.heap.size A1 (ivs xs)) (h2 : At w w.heap.size A2 (ivs ys)) :
    Calls Try.prog 27 #[.slice A1 xs.length c1, .slice A2 ys.length c2] w fun e w' => e = .returned (.bool (decide (xs = ys))) ∧ ∃ q, w' = w.drewN q := by
  unfold maxLen at hx hy
  have H1 := Lib.hid h1
  have H2 := Lib.hid h2
  clear h1 h2
  by_cases hl : xs.length = ys.length
  · obtain ⟨n, hn⟩ : ∃ n, n = ys.length := ⟨_, rfl⟩
    have hn1 : xs.length = n := by omega
    rw [← hn, hn1]
    rw [hn1] at hx hl
    rw [← hn] at hy hl
    have HN := Lib.hid hn
    have HN1 := Lib.hid hn1
    clear hn hn1
    go_enter Try.func27, Try.ntmps27
    go_wp2_with fail
    go_loopw [5] (fun i wr => ∃ k : Nat, i = .int .i64 (k : Int) ∧ k ≤ n ∧ xs.take k = ys.take k ∧ ∃ q, wr = w.drewN q) (fun i _ => n - (intOf i).toNat)
    case atStart => exact ⟨0, rfl, Nat.zero_le _, rfl, 0, rfl⟩
    case round =>
      obtain ⟨k, rfl, hk, heq, hq⟩ := hrel
      have HQ := Lib.hid hq
      clear hq
      have HEQ := Lib.hid heq
      clear heq
      by_cases hlt : k < n
      · obtain ⟨x, hxk⟩ := some_at (show k < xs.length by rw [HN1.out]; exact hlt)
        obtain ⟨y, hyk⟩ := some_at (show k < ys.length by rw [← HN.out]; exact hlt)
        obtain ⟨b1, o1, rfl, _, hc1⟩ := (at_drewE H1.out HQ.out) k _ (ivs_at hxk)
        obtain ⟨b2, o2, rfl, _, hc2⟩ := (at_drewE H2.out HQ.out) k _ (ivs_at hyk)
        have HE := Lib.hid (ext_take HEQ.out hxk hyk)
        have HX := Lib.hid hxk
        have HY := Lib.hid hyk
        clear hxk hyk
        by_cases hxy : x = y
        · have ht : (x != y) = false := by simp [hxy]
          have HT := Lib.hid hxy
          clear hxy
          go_wp2_with fail
          go_quiet (fail)
          go_wp2
          go_roundw
          case rel => exact ⟨k + 1, by go_num, by omega, HE.out.2 HT.out, drewE HQ.out _⟩
          case measure => simp only [intOf]; omega
        · have ht : (x != y) = true := by simpa using hxy
          have HT := Lib.hid hxy
          clear hxy
          go_wp2_with fail
          go_quiet (fail)
          go_wp2
          go_ret
          refine ⟨ret_bool ?_, drewE HQ.out _⟩
          have : ¬ xs = ys := fun e => HT.out (HE.out.1 (by rw [e]))
          simp [this]
      · obtain rfl : k = n := by omega
        go_wp2_with fail
        go_ret
        refine ⟨ret_bool ?_, HQ.out⟩
        have h := HEQ.out
        rw [List.take_of_length_le (by rw [HN1.out]; exact Nat.le_refl _), List.take_of_length_le (by rw [← HN.out]; exact Nat.le_refl _)] at h
        simp [h]
  · have HL := Lib.hid hl
    have ht : ((xs.length : Int) != (ys.length : Int)) = true := by simp only [bne_iff_ne, ne_eq]; omega
    clear hl
    go_enter Try.func27, Try.ntmps27
    go_wp2_with fail
    go_ret
    refine ⟨ret_bool ?_, 0, rfl⟩
    have : ¬ xs = ys := fun e => HL.out (by rw [e])
    simp [this]
theorem same5_c (A1 A2 : Option Addr) (c1 c2 : Nat) (xs ys : List Int) (hx : xs.length ≤ maxLen) (hy : ys.length ≤ maxLen) (w : World) (h1 : At w w.heap.size A1 (ivs xs)) (h2 : At w w.heap.size A2 (ivs ys)) :
    Calls Try.prog 27 #[.slice A1 xs.length c1, .slice A2 ys.length c2] w fun e w' => e = .returned (.bool (decide (xs = ys))) ∧ Below w.heap.size w w' := by
  refine (same5_q A1 A2 c1 c2 xs ys hx hy w h1 h2).mono ?_
  rintro e w' ⟨rfl, q, rfl⟩
  exact ⟨rfl, below_drewN (Below.refl _ _) q⟩
end Go.Proofs.Ytnkckoilhhbllaa
