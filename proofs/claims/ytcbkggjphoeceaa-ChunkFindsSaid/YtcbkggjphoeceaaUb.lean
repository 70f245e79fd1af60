/-
  What stands ahead of a chunk's body; its sum; a chunk as bytes: the program's.
-/
import Derived.Test.YtcbkggjphoeceaaUa
import Derived.Test.YtcbkggjphoeceaaRb
import Derived.Test.YtcbkggjphoeceaaBb
import Derived.Test.YtcbkggjphoeceaaBc
namespace Go.Proofs.Ytcbkggjphoeceaa
open Go.RowKit
open Pk Cr Ck
set_option maxRecDepth 100000

/-- one byte of a new block, as a string -/
theorem conv1 {w : World} {G : Nat} {b : UInt8} (h : w.cell? ⟨G, 0, none⟩ = some (.int .u8 (b.toNat : Int))) :
    (convert 42 9 (.slice (some ⟨G, 0, none⟩) 1 1)).run Try.prog w = .ok (.string (ba [b])) w := by
  refine run_convert_bytes_back _ 42 9 5 ⟨G, 0, none⟩ 1 [b] Try.underlying42 Try.underlying5 Try.underlying9 fun j hj => ?_
  match j, hj with
  | 0, _ => rw [Addr.add_lit]; exact h
theorem add_ba (a b : List UInt8) (h : a.length + b.length ≤ 9223372036854775807) (w : World) : (Op.stringOp .add (ba a) (ba b)).run Try.prog w = .ok (.string (ba (a ++ b))) w := by
  have e : ba a ++ ba b = ba (a ++ b) := by
    apply ByteArray.ext
    simp [ba]
  rw [run_string_add_sum w (ba a) (ba b) (by rw [ba_size, ba_size]; exact h), e]
theorem pair_new (w : World) (u v : Value) (t : TypeId) :
    (w.alloc (.cells #[u, v] t)).cell? ⟨w.heap.size, 0, none⟩ = some u ∧ (w.alloc (.cells #[u, v] t)).cell? ⟨w.heap.size, 1, none⟩ = some v ∧ w.heap.size < (w.alloc (.cells #[u, v] t)).heap.size ∧ Below w.heap.size w (w.alloc (.cells #[u, v] t)) :=
  ⟨by rw [World.cell?_alloc_at _ _ _ _ rfl]; rfl, by rw [World.cell?_alloc_at _ _ _ _ rfl]; rfl, by simp, (Below.refl _ _).alloc (Nat.le_refl _) _⟩

theorem keep_cell {X w' : World} {p : Addr} {v : Value} (hb : Below X.heap.size X w') (h : X.cell? p = some v) : w'.cell? p = some v := (hb.cell (lt_of_cell h)).trans h

theorem pair_go {B : Nat} {u v : Value} {w w1 w2 : World} (h : w1.cell? ⟨B, 0, none⟩ = some u ∧ w1.cell? ⟨B, 1, none⟩ = some v ∧ B < w1.heap.size ∧ Below w.heap.size w w1) (hb : Below w1.heap.size w1 w2) :
    w2.cell? ⟨B, 0, none⟩ = some u ∧ w2.cell? ⟨B, 1, none⟩ = some v ∧ B < w2.heap.size ∧ Below w.heap.size w w2 := by
  obtain ⟨h0, h1, hs, hw⟩ := h
  exact ⟨(hb.cell (p := ⟨B, 0, none⟩) hs).trans h0, (hb.cell (p := ⟨B, 1, none⟩) hs).trans h1, Nat.lt_of_lt_of_le hs hb.size, hw.trans (hb.mono hw.size)⟩
theorem pair_below {B : Nat} {u v : Value} {w w1 : World} (h : w1.cell? ⟨B, 0, none⟩ = some u ∧ w1.cell? ⟨B, 1, none⟩ = some v ∧ B < w1.heap.size ∧ Below w.heap.size w w1) : Below w.heap.size w w1 := h.2.2.2
set_option maxHeartbeats 4000000 in
theorem lead_c (k : Int) (b : List UInt8) (hb : b.length ≤ 140737488351232) (w : World) :
    Calls Try.prog 24 #[.agg #[.int .i64 k, .string (ba b)]] w fun e w' => e = .returned (.string (ba (front (k, b)))) ∧ Below w.heap.size w w' := by
  have hs := ba_size b
  have hp := put_len10 (n := b.length) (by omega)
  have hk := byt8_int k
  obtain ⟨kb, hkb⟩ : ∃ kb, kb = byt8 k := ⟨_, rfl⟩
  obtain ⟨n, hn⟩ : ∃ n, n = b.length := ⟨_, rfl⟩
  have hw : IntKind.u64.wrap (n : Int) = (n : Int) := by rw [IntKind.wrap_u64]; omega
  have hadd := add_ba [kb] (put n) (by simp; rw [hn]; omega)
  obtain ⟨c0, c1, c2, c3⟩ := pair_new w (.int .i64 k) (.string (ba b)) 32
  rw [← hkb] at hk
  rw [← hn] at hs
  have HN := Lib.hid hn
  have HK := Lib.hid hkb
  have hn2 : n < 18446744073709551616 := by omega
  have hkw : IntKind.u8.wrap k = (kb.toNat : Int) := by rw [IntKind.wrap_u8]; exact hk.symm
  have hcv : ∀ (W : World) (G : Nat), W.cell? ⟨G, 0, none⟩ = some (.int .u8 (kb.toNat : Int)) → (convert 42 9 (.slice (some ⟨G, 0, none⟩) 1 1)).run Try.prog W = .ok (.string (ba [kb])) W := fun W G h => conv1 h
  clear hn hkb hp hk
  go_enter Try.func24, Try.ntmps24
  go_wp2_with fail
  go_region_held (fun w' => w'.cell? ⟨w.heap.size, 0, none⟩ = some (.int .i64 k) ∧ w'.cell? ⟨w.heap.size, 1, none⟩ = some (.string (ba b)) ∧ w.heap.size < w'.heap.size ∧ Below w.heap.size w w')
    (first
      | assumption
      | (exact pair_go (by assumption) hbn)
      | (exact pair_go (by assumption) (Below.refl _ _).drew)
      | (exact pair_go ⟨c0, c1, c2, c3⟩ (Below.refl _ _).drew)
      | (exact pair_go ⟨c0, c1, c2, c3⟩ ((Below.refl _ _).alloc (Nat.le_refl _) _).drew)
      | (exact pair_go (by assumption) ((Below.refl _ _).alloc (Nat.le_refl _) _))
      | (exact pair_go (by assumption) ((Below.refl _ _).alloc (Nat.le_refl _) _).drew)
      | go_keep)
    (first
      | (go_at_call 37; refine (put_c n hn2 _).mono ?_; rintro e w2 ⟨rfl, hbn⟩; have kk := fun (p : Addr) (h : p.block < _) => hbn.cell (p := p) h))
  all_goals
    have hbe := pair_below (B := w.heap.size) (w := w) (u := .int .i64 k) (v := .string (ba b)) (by assumption)
    clear hcv
    go_wp2
    go_ret
    exact ⟨ret_str (by rw [HN.out, HK.out]; rfl), hbe⟩
end Go.Proofs.Ytcbkggjphoeceaa
