/-
  Spread, the program's.
-/
import Derived.Test.YtacnbgfddidfiaaQe
namespace Go.Proofs.Ytacnbgfddidfiaa
open Go.RowKit Go.IntWalk
open Pk
set_option maxRecDepth 100000
attribute [local go_sem] Oper.semAt_some

/-- a list and one value more, as the answer of a call -/
def LstEnd (l : List Nat) (t : Value) (w : World) (e : Ending) (w' : World) : Prop :=
  ∃ A cap, e = .returned (.tuple #[.slice A l.length cap, t]) ∧ l.length ≤ cap ∧ Fresh w.heap.size A ∧ At w' w'.heap.size A (uvs l) ∧ Below w.heap.size w w'
theorem lstEnd_nil {t : Value} {w w' : World} (hb : Below w.heap.size w w') : LstEnd [] t w (.returned (.tuple #[.slice none 0 0, t])) w' :=
  ⟨none, 0, rfl, Nat.le_refl _, fun a ha => (by cases ha), At.nil _ _ _, hb⟩

set_option maxHeartbeats 4000000 in
theorem spread_c (A : Option Addr) (cap : Nat) (r : List Run) (most : Int) (hr : r.length ≤ 100000) (hm1 : -9223372036854775808 ≤ most) (hm2 : most ≤ 100000) (hri : ∀ x ∈ r, In64 x.2) (w : World) (hc : At w w.heap.size A (rvs r)) :
    Calls Try.prog 28 #[.slice A r.length cap, .int .i64 most] w (LstEnd (sprV r most).1 (.bool (sprV r most).2) w) := by
  obtain ⟨i0, hi, hz0, hz1, hz2⟩ := info_parts Try.info34
  have HC := Lib.hid hc
  have HRI := Lib.hid hri
  clear hc hri
  obtain ⟨res, hres⟩ : ∃ res, res = sprV r most := ⟨_, rfl⟩
  have HR := Lib.hid hres
  rw [← hres]
  clear hres
  go_enter Try.func28, Try.ntmps28
  go_wp2_with fail
  refine (may_c A cap r hr w HC.out).mono ?_
  rintro e w1 ⟨rfl, hb1⟩
  by_cases hmay : mayP none r = true
  · rw [hmay]
    have HM := Lib.hid hmay
    clear hmay
    go_wp2_with fail
    have hsz := size_c A cap r most hr hm1 hm2 HRI.out HM.out w1 (HC.out.keep hb1)
    by_cases hin : ((spr r).length : Int) ≤ most
    · rw [szV_ok hin] at hsz
      have HIN := Lib.hid hin
      obtain ⟨N, hN⟩ : ∃ N, N = (spr r).length := ⟨_, rfl⟩
      rw [← hN] at hsz hin
      have HN := Lib.hid hN
      have hNl : N ≤ 100000 := by omega
      clear hin hN
      refine hsz.mono ?_
      rintro e w2 ⟨rfl, hb2'⟩
      have hb2 := hb1.trans (hb2'.mono hb1.size)
      clear hsz hb1 hb2'
      have hbx : i0.bytes * N ≤ 281474976710656 := by rw [hz2]; omega
      have hmx : N ≤ maxLen := by unfold maxLen; omega
      have hb20 := hb2.size
      go_wp2_with (at_make; refine wpList_make_own _ rfl _ _ 37 rfl w.heap.size 34 i0 (.int .u64 0) 1 Try.underlying37 hi hz0 hz1 .i64 .i64 _ N rfl rfl rfl hbx hmx hb20 ?_; intro w3 hown3 hgrow3)
      have hb3 := hb2.grown hgrow3 hb20 (fun k hk => by cases hk)
      obtain ⟨g, hg⟩ : ∃ g, g = w2.heap.size := ⟨_, rfl⟩
      rw [← hg] at hown3 ⊢
      clear hg hgrow3 hb2 hb20 hbx
      go_loopw [8, 27] (fun s i wr => ∃ k : Nat, s = .slice (some ⟨g, 0, none⟩) (spr (r.take k)).length N ∧ i = .int .i64 (k : Int) ∧ k ≤ r.length ∧ wr.ownsRow w.heap.size 34 1 (.slice (some ⟨g, 0, none⟩) (spr (r.take k)).length N) (spr (r.take k)).length (uvs (spr (r.take k))) ∧ Below w.heap.size w wr)
        (fun _ i _ => r.length - (intOf i).toNat)
      case atStart => exact ⟨0, rfl, rfl, Nat.zero_le _, hown3, hb3⟩
      case round =>
        clear hown3 hb3
        obtain ⟨k, rfl, rfl, hk, hown, hb⟩ := hrel
        have hb0 := hb.size
        by_cases hlt : k < r.length
        · obtain ⟨⟨v, c⟩, hxk⟩ := some_at hlt
          have hc1 := may_pos HM.out (mem_at hxk)
          obtain ⟨m, rfl⟩ := Int.eq_ofNat_of_zero_le (show 0 ≤ c by dsimp only at hc1; omega)
          obtain ⟨b, off, rfl, hbl, hcv, hcc⟩ := run_cells (HC.out.below hb) hxk
          dsimp only at hcv hcc
          have hst := spr_take_step hxk
          rw [Int.toNat_natCast] at hst
          have hsl := congrArg List.length hst
          rw [List.length_append, List.length_replicate] at hsl
          have hle2 := spr_take_le r (k + 1)
          rw [← HN.out] at hle2
          have HST := Lib.hid hst
          have HSL := Lib.hid hsl
          obtain ⟨n, hn⟩ : ∃ n, n = (spr (r.take k)).length := ⟨_, rfl⟩
          rw [← hn] at hown hsl ⊢
          have HNN := Lib.hid hn
          have hnm : n + m ≤ N := by omega
          have hnl : n ≤ 100000 := by omega
          have hml : m ≤ 100000 := by omega
          have hglt := (hown.lt g rfl).2
          clear hst hsl hn hle2 hxk hc1
          go_wp2_with fail
          refine (lay_c w.heap.size g n N v m (spr (r.take k)) hml hnl hnm _ (by simp; omega) (hown.alloc _)).mono ?_
          rintro e w4 ⟨rfl, hown4, hgr4⟩
          have hb4 := (hb.alloc hb0 (.cells #[.int .u64 (v : Int), .int .i64 (m : Int)] 51)).grown hgr4 (by simp; omega) (fun j hj => by cases hj; exact (hown.lt g rfl).1)
          clear hown hb hgr4 hcv hcc
          go_wp2_with fail
          go_roundw
          case rel =>
            refine ⟨k + 1, by rw [HSL.out, ← HNN.out], by go_num, by omega, ?_, hb4⟩
            rw [HST.out, List.length_append, List.length_replicate, ← HNN.out]
            exact hown4
          case measure => simp only [intOf]; omega
        · obtain rfl : k = r.length := by omega
          rw [List.take_length] at hown
          obtain ⟨A', cap', hA, ha, hfr, hcp⟩ := own_at hown
          cases hA
          rw [List.take_length]
          go_wp2_with fail
          go_ret2
          rw [HR.out, sprV_ok HM.out HIN.out]
          exact ⟨_, _, rfl, hcp, hfr, ha, hb⟩
    · rw [szV_far (by omega)] at hsz
      have HIN := Lib.hid hin
      clear hin
      refine hsz.mono ?_
      rintro e w2 ⟨rfl, hb2'⟩
      have hb2 := hb1.trans (hb2'.mono hb1.size)
      clear hsz hb1 hb2'
      go_wp2_with fail
      go_ret2
      rw [HR.out, sprV_far (by have := HIN.out; omega)]
      exact lstEnd_nil hb2
  · have hmf : mayP none r = false := by simpa using hmay
    rw [hmf]
    have HM := Lib.hid hmf
    clear hmay hmf
    go_wp2_with fail
    go_ret2
    rw [HR.out, sprV_may HM.out]
    exact lstEnd_nil hb1
end Go.Proofs.Ytacnbgfddidfiaa
