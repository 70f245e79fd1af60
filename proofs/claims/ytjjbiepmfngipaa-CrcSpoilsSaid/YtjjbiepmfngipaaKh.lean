/-
  The walks of CrcSealed and CrcJoins.
-/
import Derived.Test.YtjjbiepmfngipaaKf
import Derived.Deep.QuietTactic
import Derived.BigQuiet
namespace Go.Proofs.Ytjjbiepmfngipaa
open Go.RowKit
open Cr
set_option maxRecDepth 100000

theorem m0_lt (l : List UInt8) : more 0 (bn l) < 4294967296 := more_lt (by decide) (bn_lt l)
theorem combine_t (l m : List UInt8) (n : Int) (hn : n = (m.length : Int)) (hm : m.length ≤ 9223372036854775807) (w : World) :
    Calls Try.prog 30 #[.int .u32 (more 0 (bn l) : Nat), .int .u32 (more 0 (bn m) : Nat), .int .i64 n] w fun e w' => e = .returned (.int .u32 (more 0 (bn (l ++ m)) : Nat)) ∧ Below w.heap.size w w' := by
  subst hn
  have := combine_c (more 0 (bn l)) (more 0 (bn m)) (m.length : Int) (m0_lt l) (m0_lt m) (by omega) w
  rw [show zr ((m.length : Int)).toNat (more 0 (bn l)) ^^^ more 0 (bn m) = more 0 (bn (l ++ m)) by rw [bn_append, more_combine, bn_len, Int.toNat_natCast]] at this
  exact this
theorem more_t (l m : List UInt8) (hm : m.length ≤ 9223372036854775807) (w : World) :
    Calls Try.prog 26 #[.int .u32 (more 0 (bn l) : Nat), .string (ba m)] w fun e w' => e = .returned (.int .u32 (more 0 (bn (l ++ m)) : Nat)) ∧ w = w' := by
  have := more_c (more 0 (bn l)) m (m0_lt l) hm w
  rw [more_more, ← bn_append] at this
  exact this
theorem add_ba (a b : List UInt8) (h : a.length + b.length ≤ 9223372036854775807) (w : World) : (Op.stringOp .add (ba a) (ba b)).run Try.prog w = .ok (.string (ba (a ++ b))) w := by
  have e : ba a ++ ba b = ba (a ++ b) := by
    apply ByteArray.ext
    simp [ba]
  rw [run_string_add_sum w (ba a) (ba b) (by rw [ba_size, ba_size]; exact h), e]
theorem ne_self (n : Nat) : ((n : Int) != (n : Int)) = false := by simp
namespace crcJoins
theorem live (l m n : List UInt8) (hz : l.length ≤ 9223372036854775807) (hz1 : m.length ≤ 9223372036854775807) (hz2 : n.length ≤ 9223372036854775807) (h : 500 < l.length ∨ 500 < m.length ∨ 500 < n.length) (w : World) :
    Calls Try.prog 9 #[.string (ba l), .string (ba m), .string (ba n)] w fun e w' => e = .returned (.bool true) ∧ Below w.heap.size w w' := by
  have hs := ba_size l
  have hs1 := ba_size m
  have hs2 := ba_size n
  by_cases h1 : 500 < l.length
  · clear h
    go_enter Try.func9, Try.ntmps9
    go_wp2_with fail
    refine (live10_c _).mono ?_
    rintro e w1 ⟨rfl, hb1⟩
    go_wp2
    go_ret
    exact ⟨rfl, hb1⟩
  · by_cases h2 : 500 < m.length
    · clear h
      go_enter Try.func9, Try.ntmps9
      go_wp2_with fail
      refine (live10_c _).mono ?_
      rintro e w1 ⟨rfl, hb1⟩
      go_wp2
      go_ret
      exact ⟨rfl, hb1⟩
    · have h3 : 500 < n.length := by omega
      clear h
      go_enter Try.func9, Try.ntmps9
      go_wp2_with fail
      refine (live10_c _).mono ?_
      rintro e w1 ⟨rfl, hb1⟩
      go_wp2
      go_ret
      exact ⟨rfl, hb1⟩

set_option maxHeartbeats 4000000 in
theorem walk (l m n : List UInt8) (hz : l.length ≤ maxLen) (hz1 : m.length ≤ maxLen) (hz2 : n.length ≤ maxLen) (w : World) :
    Calls Try.prog 9 #[.string (ba l), .string (ba m), .string (ba n)] w fun e w' => e = .returned (.bool true) ∧ Below w.heap.size w w' := by
  unfold maxLen at hz hz1 hz2
  by_cases h : 500 < l.length ∨ 500 < m.length ∨ 500 < n.length
  · exact live l m n (by omega) (by omega) (by omega) h w
  · have hs := ba_size l
    have hs1 := ba_size m
    have hs2 := ba_size n
    have hadd1 := add_ba l m (by omega)
    have hadd2 := add_ba (l ++ m) n (by rw [List.length_append]; omega)
    have hadd3 := add_ba m n (by omega)
    have hl1 : (l ++ m).length ≤ 9223372036854775807 := by rw [List.length_append]; omega
    have hl2 : (l ++ (m ++ n)).length ≤ 9223372036854775807 := by rw [List.length_append, List.length_append]; omega
    have hl3 : (m ++ n).length ≤ 9223372036854775807 := by rw [List.length_append]; omega
    have hl4 : ((m.length : Int) + (n.length : Int)) = ((m ++ n).length : Int) := by rw [List.length_append]; omega
    have hl5 : l ++ m ++ n = l ++ (m ++ n) := List.append_assoc _ _ _
    have hll : l.length ≤ 9223372036854775807 := by omega
    have hlm : m.length ≤ 9223372036854775807 := by omega
    have hln : n.length ≤ 9223372036854775807 := by omega
    have hn1 := ne_self (more 0 (bn (l ++ m)))
    have H4 := Lib.hid hl4
    have H5 := Lib.hid hl5
    clear hl4 hl5 hz hz1 hz2
    go_enter Try.func9, Try.ntmps9
    go_wp2_with fail
    refine (sum_c (l ++ m) hl1 _).mono ?_
    rintro e w1 ⟨rfl, rfl⟩
    go_wp2_with fail
    refine (sum_c (l ++ (m ++ n)) hl2 _).mono ?_
    rintro e w1 ⟨rfl, rfl⟩
    go_wp2_with fail
    refine (sum_c l hll _).mono ?_
    rintro e w1 ⟨rfl, rfl⟩
    go_wp2_with fail
    refine (more_t l m hlm _).mono ?_
    rintro e w1 ⟨rfl, rfl⟩
    go_wp2_with fail
    refine (sum_c l hll _).mono ?_
    rintro e w1 ⟨rfl, rfl⟩
    go_wp2_with fail
    refine (sum_c m hlm _).mono ?_
    rintro e w1 ⟨rfl, rfl⟩
    go_wp2_with fail
    refine (combine_t l m _ rfl hlm _).mono ?_
    rintro e w1 ⟨rfl, hb1⟩
    go_wp2_with fail
    refine (sum_c n hln _).mono ?_
    rintro e w2 ⟨rfl, rfl⟩
    go_wp2_with fail
    refine (combine_t (l ++ m) n _ rfl hln _).mono ?_
    rintro e w2 ⟨rfl, hm⟩
    rw [H5.out]
    have hb2 := hb1.trans (hm.mono hb1.size)
    go_wp2_with fail
    refine (sum_c l hll _).mono ?_
    rintro e w3 ⟨rfl, rfl⟩
    go_wp2_with fail
    refine (sum_c (m ++ n) hl3 _).mono ?_
    rintro e w3 ⟨rfl, rfl⟩
    go_wp2_with fail
    refine (combine_t l (m ++ n) _ H4.out hl3 _).mono ?_
    rintro e w3 ⟨rfl, hm3⟩
    have hb3 := hb2.trans (hm3.mono hb2.size)
    go_wp2_with fail
    refine (live10_c _).mono ?_
    rintro e w4 ⟨rfl, hm4⟩
    go_wp2
    go_ret
    exact ⟨rfl, hb3.trans (hm4.mono hb3.size)⟩
end crcJoins
end Go.Proofs.Ytjjbiepmfngipaa
