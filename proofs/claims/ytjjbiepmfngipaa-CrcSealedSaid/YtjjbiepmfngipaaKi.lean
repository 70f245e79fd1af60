/-
  The walk of CrcSealed.
-/
import Derived.Test.YtjjbiepmfngipaaKh
import Derived.Test.YtjjbiepmfngipaaBd
namespace Go.Proofs.Ytjjbiepmfngipaa
open Go.RowKit
open Cr
set_option maxRecDepth 100000

/-- four bytes of a new block, as a string -/
theorem conv4 (w : World) (b0 b1 b2 b3 : UInt8) :
    (convert 46 9 (.slice (some ⟨w.heap.size, 0, none⟩) 4 4)).run Try.prog (w.alloc (.cells #[.int .u8 (b0.toNat : Int), .int .u8 (b1.toNat : Int), .int .u8 (b2.toNat : Int), .int .u8 (b3.toNat : Int)] 5)) =
      .ok (.string (ba [b0, b1, b2, b3])) (w.alloc (.cells #[.int .u8 (b0.toNat : Int), .int .u8 (b1.toNat : Int), .int .u8 (b2.toNat : Int), .int .u8 (b3.toNat : Int)] 5)) := by
  refine run_convert_bytes_back _ 46 9 5 ⟨w.heap.size, 0, none⟩ 4 [b0, b1, b2, b3] Try.underlying46 Try.underlying5 Try.underlying9 fun j hj => ?_
  match j, hj with
  | 0, _ => rw [Addr.add_lit, World.cell?_alloc_at _ _ _ _ rfl]; rfl
  | 1, _ => rw [Addr.add_lit, World.cell?_alloc_at _ _ _ _ rfl]; rfl
  | 2, _ => rw [Addr.add_lit, World.cell?_alloc_at _ _ _ _ rfl]; rfl
  | 3, _ => rw [Addr.add_lit, World.cell?_alloc_at _ _ _ _ rfl]; rfl

/-- a number's byte -/
def byt (c k : Nat) : UInt8 := UInt8.ofNat (c / 256 ^ k % 256)
theorem byt_nat (c k : Nat) : (byt c k).toNat = c / 256 ^ k % 256 := Pk.ofNat_toNat_lt (by omega)
theorem byt0 (c : Nat) : (c : Int) % 256 = ((byt c 0).toNat : Int) := by rw [byt_nat]; simp
theorem byt1 (c : Nat) : (c : Int) / 256 % 256 = ((byt c 1).toNat : Int) := by rw [byt_nat]; simp
theorem byt2 (c : Nat) : (c : Int) / 65536 % 256 = ((byt c 2).toNat : Int) := by rw [byt_nat]; simp
theorem byt3 (c : Nat) (hc : c < 4294967296) : (c : Int) / 16777216 = ((byt c 3).toNat : Int) := by rw [byt_nat, show (256 : Nat) ^ 3 = 16777216 by decide]; omega
theorem byts (c : Nat) (hc : c < 4294967296) : bn [byt c 0, byt c 1, byt c 2, byt c 3] = [c % 256, c / 256 % 256, c / 65536 % 256, c / 16777216] := by
  simp only [bn, List.map_cons, List.map_nil, byt_nat]
  simp
  omega
theorem seal1 (l : List UInt8) (c : Nat) (h : c = more 0 (bn l)) : more 0 (bn (l ++ [byt c 0, byt c 1, byt c 2, byt c 3])) = 558161692 := by
  have hc : c < 4294967296 := by rw [h]; exact m0_lt l
  rw [bn_append, byts c hc, h]
  exact sealed _ (m0_lt l)
theorem seal2 (c : Nat) (hc : c < 4294967296) : more c (bn [byt c 0, byt c 1, byt c 2, byt c 3]) = 558161692 := by
  rw [byts c hc]
  exact sealed_more c hc

namespace crcSealed
set_option maxHeartbeats 4000000 in
theorem walk (l : List UInt8) (hz : l.length ≤ maxLen) (w : World) :
    Calls Try.prog 12 #[.string (ba l)] w fun e w' => e = .returned (.bool true) ∧ Below w.heap.size w w' := by
  unfold maxLen at hz
  have hs := ba_size l
  by_cases h : 500 < l.length
  · go_enter Try.func12, Try.ntmps12
    go_wp2_with fail
    refine (live10_c _).mono ?_
    rintro e w1 ⟨rfl, hb1⟩
    go_wp2
    go_ret
    exact ⟨rfl, hb1⟩
  · have hl : l.length ≤ 9223372036854775807 := by omega
    obtain ⟨c, hc⟩ : ∃ c, c = more 0 (bn l) := ⟨_, rfl⟩
    have hlt : c < 4294967296 := by rw [hc]; exact m0_lt l
    have b0 := byt0 c
    have b1 := byt1 c
    have b2 := byt2 c
    have b3 := byt3 c hlt
    have hcv := conv4 w (byt c 0) (byt c 1) (byt c 2) (byt c 3)
    have s1 := Lib.hid (seal1 l c hc)
    have s2 := Lib.hid (seal2 c hlt)
    have HC := Lib.hid hc
    clear hc
    obtain ⟨q, hq⟩ : ∃ q, q = [byt c 0, byt c 1, byt c 2, byt c 3] := ⟨_, rfl⟩
    rw [← hq] at hcv s1 s2
    have hql : q.length = 4 := by rw [hq]; rfl
    have hadd := add_ba l q (by omega)
    have hal : (l ++ q).length ≤ 9223372036854775807 := by rw [List.length_append]; omega
    have hext : (ba (l ++ q)).extract l.length (l.length + 4) = ba q := by
      have := extract_drop (l ++ q) l.length
      rw [List.drop_left, List.length_append, hql] at this
      exact this
    have hsz : (ba (l ++ q)).size = l.length + 4 := by rw [ba_size, List.length_append, hql]
    have HQL := Lib.hid hql
    clear hql hq
    go_enter Try.func12, Try.ntmps12
    go_wp2_with fail
    refine (sum_c l hl _).mono ?_
    rintro e w1 ⟨rfl, rfl⟩
    rw [← HC.out]
    go_wp2_with fail
    refine (sum_c (l ++ q) hal _).mono ?_
    rintro e w2 ⟨rfl, rfl⟩
    rw [s1.out]
    clear hcv
    go_wp2_with fail
    refine (more_c c q hlt (by have := HQL.out; omega) _).mono ?_
    rintro e w2 ⟨rfl, rfl⟩
    rw [s2.out]
    go_wp2_with fail
    refine (live10_c _).mono ?_
    rintro e w4 ⟨rfl, hm4⟩
    go_wp2
    go_ret
    have hb0 := (Below.refl w.heap.size w).alloc (Nat.le_refl _) (.cells #[.int .u8 ((byt c 0).toNat : Int), .int .u8 ((byt c 1).toNat : Int), .int .u8 ((byt c 2).toNat : Int), .int .u8 ((byt c 3).toNat : Int)] 5)
    exact ⟨rfl, hb0.trans (hm4.mono hb0.size)⟩
end crcSealed
end Go.Proofs.Ytjjbiepmfngipaa
