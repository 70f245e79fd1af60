/-
  The contract of bits.times: a number times a power of two, where the format holds what comes of it and what lies between.
-/
import Derived.Test.YtjjbiepmfngipaaNb
import Derived.Test.YtjjbiepmfngipaaFc
import Derived.Deep.QuietTactic
import Derived.BigQuiet
namespace Go.Proofs.Ytjjbiepmfngipaa
open Go.RowKit
open Fl
set_option maxRecDepth 100000

theorem index_row (k : Nat) (hk : k < 10) (w : World) : (Instr.index 94 powRows (.int .i64 (k : Int))).run Try.prog w = .ok (.agg #[.int .i64 (pw k), .float .f64 (pUp k), .float .f64 (pDn k)]) w := by
  have h : k = 0 ∨ k = 1 ∨ k = 2 ∨ k = 3 ∨ k = 4 ∨ k = 5 ∨ k = 6 ∨ k = 7 ∨ k = 8 ∨ k = 9 := by omega
  rcases h with rfl | rfl | rfl | rfl | rfl | rfl | rfl | rfl | rfl | rfl
  all_goals (refine Eq.trans (b := .ok _ w) ?_ rfl; kernel_rfl)

/-- block B holds row k -/
def HasRow (B k : Nat) (w : World) : Prop := w.cell? ⟨B, 0, none⟩ = some (.int .i64 (pw k)) ∧ w.cell? ⟨B, 1, none⟩ = some (.float .f64 (pUp k)) ∧ w.cell? ⟨B, 2, none⟩ = some (.float .f64 (pDn k))

theorem hasRow_drewN {B k : Nat} {w : World} (h : HasRow B k w) (n : Nat) : HasRow B k (w.drewN n) := h

theorem hasRow_new (w : World) (k : Nat) : HasRow w.heap.size k (w.alloc (.cells #[.int .i64 (pw k), .float .f64 (pUp k), .float .f64 (pDn k)] 93)) :=
  ⟨by rw [World.cell?_alloc_at _ _ _ _ rfl]; rfl, by rw [World.cell?_alloc_at _ _ _ _ rfl]; rfl, by rw [World.cell?_alloc_at _ _ _ _ rfl]; rfl⟩

set_option maxHeartbeats 1000000 in
theorem times_c (m t t' : Nat) (x : Int) (hm : m < 9007199254740992) (ht : t ≤ 2045) (ht' : t' ≤ 2045) (hx1 : (t : Int) + x ≤ t') (hx2 : (t' : Int) ≤ t + x) (w : World) :
    Calls Try.prog 61 #[.float .f64 (en m t), .int .i64 x] w fun e w' => e = .returned (.float .f64 (en m t')) ∧ Below w.heap.size w w' := by
  go_enter Try.func61, Try.ntmps61
  go_wp2_with fail
  refine (powers_c _).mono ?_
  rintro e w1 ⟨rfl, hb1⟩
  go_wp2_with fail
  go_loopw [0, 1, 8] (fun f x i wr => ∃ (k s : Nat) (y : Int), k ≤ 10 ∧ i = .int .i64 k ∧ f = .float .f64 (en m s) ∧ x = .int .i64 y ∧ s ≤ 2045 ∧ (s : Int) + y ≤ t' ∧ (t' : Int) ≤ s + y ∧ -(bd k) < y ∧ y < bd k ∧ Below w.heap.size w wr)
    (fun _ _ i _ => 10 - (intOf i).toNat)
  case atStart => exact ⟨0, t, x, by omega, rfl, rfl, rfl, ht, hx1, hx2, by rw [bd_zero]; omega, by rw [bd_zero]; omega, hb1⟩
  case round =>
    obtain ⟨k, s, y, hk, rfl, rfl, rfl, hs, hy1, hy2, hb3, hb4, hb⟩ := hrel
    obtain ⟨wo, rfl⟩ : ∃ wo : World, wo = wr := ⟨_, rfl⟩
    by_cases hlt : k < 10
    · have hp := pw_bd k
      have hidx := index_row k hlt
      go_wp2_with fail
      clear hidx
      go_loopw [0, 1] (fun f x wi => ∃ (s1 : Nat) (y1 : Int), f = .float .f64 (en m s1) ∧ x = .int .i64 y1 ∧ s1 ≤ 2045 ∧ (s1 : Int) + y1 ≤ t' ∧ (t' : Int) ≤ s1 + y1 ∧ -(bd k) < y1 ∧ HasRow wo.heap.size k wi ∧ Below w.heap.size w wi)
        (fun _ x _ => (intOf x).toNat)
      case atStart => exact ⟨s, y, rfl, rfl, hs, hy1, hy2, hb3, hasRow_new _ _, hb.alloc hb.size _⟩
      case round =>
        obtain ⟨s1, y1, rfl, rfl, hs1, hz1, hz2, hz3, hrow, hbi⟩ := hrel
        obtain ⟨c0, c1, c2⟩ := id hrow
        by_cases hge : pw k ≤ y1
        · have hmul := fun wx => run_float_arith (P := Try.prog) wx .mul 33 .f64 _ _ _ (mul_up m s1 k hm (by omega))
          go_wp2_with fail
          go_quiet (fail)
          go_wp2
          go_roundw
          case rel => exact ⟨s1 + (pw k).toNat, y1 - pw k, rfl, rfl, by omega, by omega, by omega, by omega, hasRow_drewN hrow _, below_drewN hbi _⟩
          case measure => simp only [intOf]; omega
        · clear hs hy1 hy2 hb3 hb4
          go_wp2_with fail
          clear c0 c1 c2
          go_loopw [0, 1] (fun f x wi => ∃ (s2 : Nat) (y2 : Int), f = .float .f64 (en m s2) ∧ x = .int .i64 y2 ∧ s2 ≤ 2045 ∧ (s2 : Int) + y2 ≤ t' ∧ (t' : Int) ≤ s2 + y2 ∧ y2 < pw k ∧ HasRow wo.heap.size k wi ∧ Below w.heap.size w wi)
            (fun _ x _ => (-(intOf x)).toNat)
          case atStart => exact ⟨s1, y1, rfl, rfl, hs1, hz1, hz2, by omega, hrow, hbi⟩
          case round =>
            clear hs1 hz1 hz2 hz3 hge hrow hbi
            obtain ⟨s2, y2, rfl, rfl, hs2, hz1, hz2, hz3, hrow, hbi⟩ := hrel
            obtain ⟨c0, c1, c2⟩ := id hrow
            by_cases hle : y2 ≤ -(pw k)
            · have hmul := fun wx => run_float_arith (P := Try.prog) wx .mul 33 .f64 _ _ _ (mul_dn m s2 k hm hs2 (by omega))
              go_wp2_with fail
              go_quiet (fail)
              go_wp2
              go_roundw
              case rel => exact ⟨s2 - (pw k).toNat, y2 + pw k, rfl, rfl, by omega, by omega, by omega, by omega, hasRow_drewN hrow _, below_drewN hbi _⟩
              case measure => simp only [intOf]; omega
            · go_wp2
              go_roundw
              case rel => exact ⟨k + 1, s2, y2, by omega, by go_num, rfl, rfl, hs2, hz1, hz2, by rw [bd_succ]; omega, by rw [bd_succ]; omega, hbi⟩
              case measure => simp only [intOf]; omega
    · obtain rfl : k = 10 := by omega
      rw [bd_ten] at hb3 hb4
      obtain rfl : s = t' := by omega
      go_wp2
      go_ret
      exact ⟨rfl, hb⟩
end Go.Proofs.Ytjjbiepmfngipaa
