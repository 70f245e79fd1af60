/-
  Spoilt bytes: the list behind k rounds; bytes of a new block.
-/
import Derived.Test.YtcbkggjphoeceaaKc
import Derived.Test.YtcbkggjphoeceaaVg
namespace Go.Proofs.Ytcbkggjphoeceaa
open Go.RowKit
open Cr
set_option maxRecDepth 100000

/-- the mask at place i, behind k rounds -/
def ekf (a : Nat) (ms : List UInt8) (k i : Nat) : UInt8 := if a ≤ i ∧ i < a + k then ms.getD (i - a) 0 else 0
/-- the bytes behind k rounds -/
def spl (l ms : List UInt8) (a k : Nat) : List UInt8 := l.mapIdx fun i b => b ^^^ ekf a ms k i
def chg (ms : List UInt8) (k : Nat) : Bool := (ms.take k).any (· != 0)
theorem spl_len (l ms : List UInt8) (a k : Nat) : (spl l ms a k).length = l.length := by simp [spl]
theorem spl_zero (l ms : List UInt8) (a : Nat) : spl l ms a 0 = l := by
  apply List.ext_getElem
  · rw [spl_len]
  · intro i h1 h2
    have : ¬ (a ≤ i ∧ i < a) := by omega
    simp [spl, ekf, this]
theorem spl_at {l ms : List UInt8} {a k : Nat} (h : a + k < l.length) : (spl l ms a k)[a + k]? = some l[a + k] := by
  simp [spl, ekf, h]
theorem spl_set {l ms : List UInt8} {a k : Nat} {m b : UInt8} (hb : l[a + k]? = some b) (hm : ms[k]? = some m) : (spl l ms a k).set (a + k) (b ^^^ m) = spl l ms a (k + 1) := by
  obtain ⟨h1, rfl⟩ := List.getElem?_eq_some_iff.1 hb
  apply List.ext_getElem
  · simp [spl]
  · intro i h3 h4
    rw [List.getElem_set]
    split
    · rename_i e
      subst e
      have : a ≤ a + k ∧ a + k < a + (k + 1) := by omega
      simp [spl, ekf, this, hm]
    · rename_i e
      have : (a ≤ i ∧ i < a + k) ↔ (a ≤ i ∧ i < a + (k + 1)) := by omega
      simp [spl, ekf, this]
theorem chg_next {ms : List UInt8} {k : Nat} {m : UInt8} (hm : ms[k]? = some m) : chg ms (k + 1) = (chg ms k || m != 0) := by
  obtain ⟨h1, rfl⟩ := List.getElem?_eq_some_iff.1 hm
  unfold chg
  rw [List.take_succ_eq_append_getElem h1, List.any_append]
  simp
theorem spl_mask (l ms : List UInt8) (a k : Nat) (hk : k ≤ ms.length) (h : a + k ≤ l.length) : bn (spl l ms a k) = List.zipWith (· ^^^ ·) (bn l) (mask a (bn (ms.take k)) (l.length - (a + k))) := by
  apply List.ext_getElem
  · simp [bn, spl, mask]; omega
  · intro i h1 h2
    have hi : i < l.length := by simpa [bn, spl] using h1
    rw [List.getElem_zipWith]
    have e1 : (bn (spl l ms a k))[i] = l[i].toNat ^^^ (ekf a ms k i).toNat := by simp [bn, spl]
    have e2 : (bn l)[i]'(by simpa [bn] using hi) = l[i].toNat := by simp [bn]
    rw [e1, e2]
    congr 1
    unfold ekf mask
    by_cases h3 : a ≤ i
    · by_cases h4 : i < a + k
      · rw [if_pos ⟨h3, h4⟩]
        rw [List.getElem_append_left (by simp [bn]; omega), List.getElem_append_right (by simp; omega)]
        simp [bn, List.getD, show i - a < ms.length by omega]
      · rw [if_neg (by omega)]
        rw [List.getElem_append_right (by simp [bn]; omega)]
        simp
    · rw [if_neg (by omega)]
      rw [List.getElem_append_left (by simp [bn]; omega), List.getElem_append_left (by simp; omega)]
      simp
/-- the sums are unlike just where a mask is not nought -/
theorem spl_sum (l ms : List UInt8) (a k : Nat) (hk : k ≤ ms.length) (h4 : k ≤ 4) (h : a + k ≤ l.length) : ((more 0 (bn l) : Nat) != more 0 (bn (spl l ms a k))) = chg ms k := by
  have hs := spoilt (bn l) a (l.length - (a + k)) (bn (ms.take k)) (by rw [bn_len, bn_len, List.length_take]; omega) (by rw [bn_len, List.length_take]; omega) (bn_lt _)
  rw [← spl_mask l ms a k hk h] at hs
  have hc : chg ms k = false ↔ ∀ b ∈ bn (ms.take k), b = 0 := by
    unfold chg
    rw [List.any_eq_false]
    constructor
    · intro h b hb
      simp only [bn, List.mem_map] at hb
      obtain ⟨x, hx, rfl⟩ := hb
      have := h x hx
      simp at this
      rw [this]; rfl
    · intro h b hb
      have := h b.toNat (by simp only [bn, List.mem_map]; exact ⟨b, hb, rfl⟩)
      have : b = 0 := UInt8.toNat_inj.1 this
      simp [this]
  cases hg : chg ms k
  · rw [bne_eq_false_iff_eq]; exact hs.2 (hc.1 hg)
  · rw [bne_iff_ne]; intro he
    have := hc.2 (hs.1 he)
    rw [hg] at this
    cases this

/-- block G holds bytes from its begin on -/
def ByteRow (w : World) (G : Nat) (xs : List UInt8) : Prop := G < w.heap.size ∧ (∀ (i : Nat) (b : UInt8), xs[i]? = some b → w.cell? ⟨G, i, none⟩ = some (bc b)) ∧ ∀ i, i < xs.length → w.frozen? ⟨G, i, none⟩ = false
theorem byteRow_drew {w : World} {G : Nat} {xs : List UInt8} (h : ByteRow w G xs) : ByteRow w.drew G xs := h
theorem byteRow_set {w : World} {G i : Nat} {xs : List UInt8} (h : ByteRow w G xs) (hi : i < xs.length) (b : UInt8) : ByteRow (w.setCell ⟨G, i, none⟩ (bc b)) G (xs.set i b) := by
  obtain ⟨h1, h2, h3⟩ := h
  refine ⟨by simpa [World.setCell] using h1, fun j c hj => ?_, fun j hj => ?_⟩
  · by_cases e : j = i
    · subst e
      rw [List.getElem?_set_self hi] at hj
      cases hj
      exact World.cell?_setCell_same w _ _ (h2 j xs[j] (by simp [hi]))
    · rw [List.getElem?_set_ne (fun k => e k.symm)] at hj
      rw [World.cell?_setCell_other _ _ _ _ (by simp)]
      exact h2 j c hj
  · rw [List.length_set] at hj
    rw [← h3 j hj]
    exact World.frozen?_setCell _ _ _ _
theorem byteRow_conv {w : World} {G cap : Nat} {xs : List UInt8} {n : Nat} (hn : n = xs.length) (h : ByteRow w G xs) : (convert 42 9 (.slice (some ⟨G, 0, none⟩) n cap)).run Try.prog w = .ok (.string (ba xs)) w := by
  subst hn
  refine run_convert_bytes_back w 42 9 5 ⟨G, 0, none⟩ cap xs Try.underlying42 Try.underlying5 Try.underlying9 fun j hj => ?_
  rw [add_head]
  exact h.2.1 j xs[j] (by simp [hj])
theorem byteRow_new (w : World) (l : List UInt8) (cap : Nat) : ByteRow (w.alloc (.cells (bytesRow (ba l) cap) 5 ((bytesRow (ba l) cap).size, (bytesRow (ba l) cap).size + 1))) w.heap.size l := by
  have hh := heap_alloc_new w (.cells (bytesRow (ba l) cap) 5 ((bytesRow (ba l) cap).size, (bytesRow (ba l) cap).size + 1))
  have hsz : l.length ≤ (bytesRow (ba l) cap).size := by simp [bytesRow, ba]
  refine ⟨by simp, fun i b hb => ?_, fun i hi => ?_⟩
  · rw [cell_of_row _ _ i _ _ _ hh]
    have hi := (List.getElem?_eq_some_iff.1 hb).1
    unfold bytesRow
    rw [Array.getElem?_append_left (by simpa [ba] using hi)]
    simp [ba, hb, bc]
  · rw [World.frozen?_alloc_mark]
    simp
    omega
end Go.Proofs.Ytcbkggjphoeceaa
