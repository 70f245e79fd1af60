/-
  The walk of PackSizes.
-/
import Derived.Test.YtgdmlpndkojfeaaWa
import Derived.Test.YtgdmlpndkojfeaaMc
namespace Go.Proofs.Ytgdmlpndkojfeaa
open Go.RowKit
open Pk
set_option maxRecDepth 100000

namespace packSizes
theorem walk_out (n : Int) (l : List UInt8) (hz : l.length ≤ maxLen) (h : 100 < l.length) (w : World) :
    Calls Try.prog 8 #[.int .u64 n, .string (ba l)] w fun e w' => e = .returned (.bool true) ∧ Below w.heap.size w w' := by
  have hs := ba_size l
  unfold maxLen at hz
  go_enter Try.func8, Try.ntmps8
  go_wp2_with (go_at_call 23; refine (live3_c _).mono ?_; rintro e w5 ⟨rfl, hb5⟩)
  go_ret
  exact ⟨rfl, hb5⟩

set_option maxHeartbeats 2000000 in
theorem walk_in (n : Nat) (hn : n < 18446744073709551616) (l : List UInt8) (hl : l.length ≤ 100) (w : World) :
    Calls Try.prog 8 #[.int .u64 (n : Int), .string (ba l)] w fun e w' => e = .returned (.bool true) ∧ Below w.heap.size w w' := by
  have hs := ba_size l
  obtain ⟨t, ht⟩ : ∃ t, t = put n := ⟨_, rfl⟩
  obtain ⟨m, hm⟩ : ∃ m, m = t.length := ⟨_, rfl⟩
  have htl : m ≤ 10 := by rw [hm, ht]; exact put_len10 hn
  have htp : 0 < m := by rw [hm, ht]; exact put_len_pos n
  obtain ⟨bz, hbz, hbz2⟩ := put_last n
  rw [← ht, ← hm] at hbz
  have HM := Lib.hid hm
  have hst : (ba t).size = m := by rw [ba_size, hm]
  have hsf : (ba (fixed 8 n)).size = 8 := by rw [ba_size, fixed_len]
  have HT := Lib.hid ht
  have HBZ := Lib.hid hbz
  clear ht hm hbz
  go_enter Try.func8, Try.ntmps8
  go_wp2_with fail
  go_loop [5, 6] (fun c k => ∃ a b : Nat, c = .int .i64 (a : Int) ∧ k = .int .u64 (b : Int) ∧ b ≤ n ∧ 1 ≤ a ∧ a + (put b).length = m + 1)
    (fun _ k => (intOf k).toNat)
  case atStart => exact ⟨1, n, rfl, rfl, Nat.le_refl _, Nat.le_refl _, by rw [HM.out, HT.out]; omega⟩
  case round =>
    obtain ⟨a, b, rfl, rfl, hbn, ha, hab⟩ := hrel
    have hpos := put_len_pos b
    have ha10 : a ≤ 10 := by omega
    have HAB := Lib.hid hab
    clear hab hpos
    by_cases hb : 127 < b
    · go_wp2_with fail
      go_round
      case rel =>
        have := HAB.out
        rw [put_hi (n := b) (by omega), List.length_cons] at this
        exact ⟨a + 1, b / 128, by go_num, by go_num, by omega, by omega, by omega⟩
      case measure => simp only [intOf]; omega
    · have ham : a = m := by
        have := HAB.out
        rw [put_lo (n := b) (by omega)] at this
        simpa using this
      subst ham
      have hix := index_ba HBZ.out ((a : Int) - 1) (by omega)
      go_wp2_with fail
      refine (put_c n hn _).mono ?_
      rintro e w1 ⟨rfl, hb1⟩
      rw [← HT.out]
      go_wp2_with fail
      refine (fixed_c n hn _).mono ?_
      rintro e w2 ⟨rfl, hb2⟩
      have c2 := hb1.trans (hb2.mono hb1.size)
      go_wp2_with fail
      clear hix
      go_loop [8] (fun i => ∃ j : Nat, i = .int .i64 (j : Int) ∧ j < a) (fun i => a - (intOf i).toNat)
      case atStart => exact ⟨0, rfl, htp⟩
      case round =>
        obtain ⟨j, rfl, hj⟩ := hrel
        by_cases hja : j + 1 < a
        · obtain ⟨bj, hbj, hbj2⟩ := put_init n j (by rw [← HT.out, ← HM.out]; exact hja)
          rw [← HT.out] at hbj
          have hix := index_ba hbj (j : Int) rfl
          clear hbj
          go_wp2_with fail
          go_round
          case rel => exact ⟨j + 1, by go_num, hja⟩
          case measure => simp only [intOf]; omega
        · go_wp2_with fail
          refine (new_c l _).mono ?_
          rintro e w3 ⟨rfl, hr3, hw3⟩
          have c3 : Below w.heap.size w w3 := by rw [hw3]; exact c2.alloc c2.size _
          clear hw3
          go_wp2_with fail
          refine (num_m _ ⟨l, 0⟩ _ hr3).mono ?_
          rintro e w4 ⟨rfl, hr4, ho4⟩
          have c4 := below_only c3 ho4 c3.size c2.size
          clear ho4
          have hle := numS_len ⟨l, 0⟩
          have hlt := numV_lt ⟨l, 0⟩
          have hcase : (((numS ⟨l, 0⟩).e != 0) = true) ∨ (((numS ⟨l, 0⟩).e != 0) = false ∧ (((numV ⟨l, 0⟩ : Nat) : Int) != (n : Int)) = true) ∨
              (((numS ⟨l, 0⟩).e != 0) = false ∧ (((numV ⟨l, 0⟩ : Nat) : Int) != (n : Int)) = false ∧ ((l.length : Int) - ((numS ⟨l, 0⟩).l.length : Int) == (a : Int)) = true) := by
            by_cases h1 : (numS ⟨l, 0⟩).e = 0
            · right
              have e1 : ((numS ⟨l, 0⟩).e != 0) = false := by rw [h1]; rfl
              by_cases h2 : numV ⟨l, 0⟩ = n
              · right
                refine ⟨e1, by rw [h2]; simp, ?_⟩
                have h3 := (num_read h1).2.1
                rw [h2, ← HT.out, ← HM.out] at h3
                simp only at hle
                simp only [beq_iff_eq]
                omega
              · left
                exact ⟨e1, by simp only [bne_iff_ne, ne_eq]; omega⟩
            · left
              simpa using h1
          obtain ⟨x, hx⟩ : ∃ x, x = numS ⟨l, 0⟩ := ⟨_, rfl⟩
          obtain ⟨y, hy⟩ : ∃ y, y = numV ⟨l, 0⟩ := ⟨_, rfl⟩
          rw [← hx] at hcase hr4 hle
          rw [← hy] at hcase hlt ⊢
          clear hx hy hr3
          have hxl : x.l.length ≤ l.length := hle
          clear hle
          rcases hcase with h1 | ⟨h1, h2⟩ | ⟨h1, h2, h3⟩
          all_goals
            go_wp2_with (first | (go_at_call 35; refine (err_c _ x _ hr4).mono ?_; rintro e wz ⟨rfl, rfl⟩) | (go_at_call 33; refine (left_c _ x _ hr4).mono ?_; rintro e wz ⟨rfl, rfl⟩) | (go_at_call 23; refine (live3_c _).mono ?_; rintro e w5 ⟨rfl, hb5⟩))
            go_ret
            exact ⟨rfl, c4.trans (hb5.mono c4.size)⟩

theorem walk (n : Int) (l : List UInt8) (wn : (Lit.int .u64 n).wf = true) (hz : l.length ≤ maxLen) (w : World) :
    Calls Try.prog 8 #[.int .u64 n, .string (ba l)] w fun e w' => e = .returned (.bool true) ∧ Below w.heap.size w w' := by
  obtain ⟨u, rfl, hu⟩ := u64_of wn
  rcases Nat.lt_or_ge 100 l.length with h | h
  · exact walk_out _ l hz h w
  · exact walk_in u hu l h w
end packSizes
end Go.Proofs.Ytgdmlpndkojfeaa
