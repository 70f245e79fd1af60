/-
  Contracts of a text's sum: More and Sum, the program's and the document's.
-/
import Derived.Test.YtcbkggjphoeceaaKb
namespace Go.Proofs.Ytcbkggjphoeceaa
open Go.RowKit
open Cr
set_option maxRecDepth 100000

/-- bytes as numbers -/
def bn (l : List UInt8) : List Nat := l.map UInt8.toNat
theorem bn_lt (l : List UInt8) : ∀ b ∈ bn l, b < 256 := by
  intro b hb
  simp only [bn, List.mem_map] at hb
  obtain ⟨x, _, rfl⟩ := hb
  exact x.toNat_lt
theorem bn_append (l m : List UInt8) : bn (l ++ m) = bn l ++ bn m := by simp [bn]
theorem bn_len (l : List UInt8) : (bn l).length = l.length := by simp [bn]
theorem bn_take (l : List UInt8) (k : Nat) (b : UInt8) (h : l[k]? = some b) : bn (l.drop k) = b.toNat :: bn (l.drop (k + 1)) := by
  obtain ⟨hk, rfl⟩ := List.getElem?_eq_some_iff.1 h
  rw [List.drop_eq_getElem_cons hk]; rfl
theorem u32_not (a : Nat) (ha : a < 4294967296) : bits .xor .u32 IntKind.u32.max (a : Int) = ((a ^^^ M32 : Nat) : Int) := by
  have e : IntKind.u32.max = ((4294967295 : Nat) : Int) := by decide
  rw [e]
  have := u32_xor_nat 4294967295 a (by decide) ha
  rw [Nat.xor_comm] at this
  exact this
theorem u32_not' (a : Nat) (ha : a < 4294967296) : bits .xor .u32 (a : Int) 4294967295 = ((a ^^^ M32 : Nat) : Int) := u32_xor_nat a 4294967295 ha (by decide)
theorem m32_lt {a : Nat} (h : a < 4294967296) : a ^^^ M32 < 4294967296 := xor_lt h (by decide)

theorem more_c (a : Nat) (l : List UInt8) (ha : a < 4294967296) (hl : l.length ≤ 9223372036854775807) (w : World) :
    Calls Try.prog 38 #[.int .u32 (a : Int), .string (ba l)] w fun e w' => e = .returned (.int .u32 (more a (bn l) : Nat)) ∧ w = w' := by
  have h1 := u32_not a ha
  have hsz := ba_size l
  go_enter Try.func38, Try.ntmps38
  go_wp2
  go_loop [5, 6, 11] (fun x _ i => ∃ (k y : Nat), k ≤ l.length ∧ i = .int .i64 (k : Int) ∧ x = .int .u32 (y : Int) ∧ y < 4294967296 ∧ mr y (bn (l.drop k)) = mr (a ^^^ M32) (bn l)) (fun _ _ i => l.length - (intOf i).toNat)
  case atStart => exact ⟨0, a ^^^ M32, by omega, rfl, rfl, m32_lt ha, rfl⟩
  case round =>
    obtain ⟨k, y, hk, rfl, rfl, hy, hrun⟩ := hrel
    clear h1
    by_cases hlt : k < l.length
    · obtain ⟨b, hb⟩ : ∃ b, l[k]? = some b := ⟨l[k], by simp [hlt]⟩
      have hidx := index_ba hb (k : Int) rfl
      rw [bn_take l k b hb] at hrun
      have H := Lib.hid hrun
      clear hrun hb
      go_wp2_with fail
      refine (step_c y b.toNat hy b.toNat_lt _).mono ?_
      rintro e w2 ⟨rfl, rfl⟩
      clear hidx
      go_wp2
      go_round
      case rel => exact ⟨k + 1, st y b.toNat, by omega, by go_num, rfl, st_lt hy b.toNat_lt, H.out⟩
      case measure => simp [intOf]; omega
    · obtain rfl : k = l.length := by omega
      rw [List.drop_length] at hrun
      have h2 := u32_not y hy
      go_wp2
      go_ret
      exact ⟨ret_int (by unfold more; rw [← hrun]; rfl), rfl⟩

theorem rmore_c (a : Nat) (l : List UInt8) (ha : a < 4294967296) (hl : l.length ≤ 9223372036854775807) (w : World) :
    Calls Try.prog 41 #[.int .u32 (a : Int), .string (ba l)] w fun e w' => e = .returned (.int .u32 (more a (bn l) : Nat)) ∧ w = w' := by
  have h1 := u32_not' a ha
  have hsz := ba_size l
  go_enter Try.func41, Try.ntmps41
  go_wp2
  go_loop [5, 6] (fun x i => ∃ (k y : Nat), k ≤ l.length ∧ i = .int .i64 (k : Int) ∧ x = .int .u32 (y : Int) ∧ y < 4294967296 ∧ mr y (bn (l.drop k)) = mr (a ^^^ M32) (bn l)) (fun _ i => l.length - (intOf i).toNat)
  case atStart => exact ⟨0, a ^^^ M32, by omega, rfl, rfl, m32_lt ha, rfl⟩
  case round =>
    obtain ⟨k, y, hk, rfl, rfl, hy, hrun⟩ := hrel
    clear h1
    by_cases hlt : k < l.length
    · obtain ⟨b, hb⟩ : ∃ b, l[k]? = some b := ⟨l[k], by simp [hlt]⟩
      have hidx := index_ba hb (k : Int) rfl
      rw [bn_take l k b hb] at hrun
      have H := Lib.hid hrun
      clear hrun hb
      go_wp2_with fail
      refine (rstep_c y b.toNat hy b.toNat_lt _).mono ?_
      rintro e w2 ⟨rfl, rfl⟩
      clear hidx
      go_wp2
      go_round
      case rel => exact ⟨k + 1, st y b.toNat, by omega, by go_num, rfl, st_lt hy b.toNat_lt, H.out⟩
      case measure => simp [intOf]; omega
    · obtain rfl : k = l.length := by omega
      rw [List.drop_length] at hrun
      have h2 := u32_not' y hy
      go_wp2
      go_ret
      exact ⟨ret_int (by unfold more; rw [← hrun]; rfl), rfl⟩

theorem sum_c (l : List UInt8) (hl : l.length ≤ 9223372036854775807) (w : World) :
    Calls Try.prog 39 #[.string (ba l)] w fun e w' => e = .returned (.int .u32 (more 0 (bn l) : Nat)) ∧ w = w' := by
  go_enter Try.func39, Try.ntmps39
  go_wp2_with fail
  refine (more_c 0 l (by decide) hl _).mono ?_
  rintro e w2 ⟨rfl, rfl⟩
  go_wp2
  go_ret
  exact ⟨rfl, rfl⟩
theorem rsum_c (l : List UInt8) (hl : l.length ≤ 9223372036854775807) (w : World) :
    Calls Try.prog 28 #[.string (ba l)] w fun e w' => e = .returned (.int .u32 (more 0 (bn l) : Nat)) ∧ w = w' := by
  go_enter Try.func28, Try.ntmps28
  go_wp2_with fail
  refine (rmore_c 0 l (by decide) hl _).mono ?_
  rintro e w2 ⟨rfl, rfl⟩
  go_wp2
  go_ret
  exact ⟨rfl, rfl⟩

end Go.Proofs.Ytcbkggjphoeceaa
