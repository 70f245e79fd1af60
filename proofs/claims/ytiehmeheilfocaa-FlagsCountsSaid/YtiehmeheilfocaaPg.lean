/-
  Spread of flags, the program's.
-/
import Derived.Test.YtiehmeheilfocaaPf
import Derived.Test.YtiehmeheilfocaaRi
namespace Go.Proofs.Ytiehmeheilfocaa
open Go.RowKit Go.IntWalk
open Pk
set_option maxRecDepth 100000
attribute [local go_sem] Oper.semAt_some

/-- a list of flags and one value more, as the answer of a call -/
def BEnd (l : List Bool) (t : Value) (w : World) (e : Ending) (w' : World) : Prop :=
  ∃ A cap, e = .returned (.tuple #[.slice A l.length cap, t]) ∧ l.length ≤ cap ∧ Fresh w.heap.size A ∧ At w' w'.heap.size A (bvs l) ∧ Below w.heap.size w w'
theorem bEnd_nil {t : Value} {w w' : World} (hb : Below w.heap.size w w') : BEnd [] t w (.returned (.tuple #[.slice none 0 0, t])) w' :=
  ⟨none, 0, rfl, Nat.le_refl _, fun a ha => (by cases ha), At.nil _ _ _, hb⟩
theorem own_one {w w' : World} {base g q size n k cap : Nat} {e : TypeId} {xs : List Value} (h : w.ownsRow base e size (.slice (some ⟨g, 0, none⟩) k cap) n xs) (ho : w.grownBy w' (some q)) (hq : g ≠ q) : w'.ownsRow base e size (.slice (some ⟨g, 0, none⟩) k cap) n xs :=
  h.kept ho (.inr (by simpa [Value.ownBlock] using hq))

set_option maxHeartbeats 8000000 in
theorem spreadF_c (A : Option Addr) (cap : Nat) (r : List Int) (most : Int) (hr : r.length ≤ 100000) (hm1 : -9223372036854775808 ≤ most) (hm2 : most ≤ 100000) (hri : ∀ x ∈ r, In64 x) (w : World) (hc : At w w.heap.size A (ivs r)) :
    Calls Try.prog 14 #[.slice A r.length cap, .int .i64 most] w (BEnd (sprF r most).1 (.bool (sprF r most).2) w) := by
  obtain ⟨i0, hi, hz0, hz1, hz2⟩ := info_parts Try.info4
  have HC := Lib.hid hc
  have HRI := Lib.hid hri
  clear hc hri
  have hmin : min most 2147483647 = most := by omega
  cases hZ : szR 0 (decide (r.length = 1)) r most with
  | none =>
    rw [sprF_none hZ]
    have HZ := Lib.hid (szF_none hZ)
    clear hZ
    go_enter Try.func14, Try.ntmps14
    go_wp2_with fail
    refine (sizeF_c A cap r most hr hm1 hm2 HRI.out w HC.out).mono ?_
    rintro e w1 ⟨rfl, q1, rfl⟩
    rw [HZ.out]
    go_wp2_with fail
    go_ret2
    exact bEnd_nil (below_drewN (Below.refl _ _) q1)
  | some z =>
    rw [sprF_some hZ]
    obtain ⟨hx0, hz9, hlen⟩ := szR_some _ _ _ _ _ hZ
    have hlen2 : ((sprI r).length : Int) = most - z := hlen false
    have HX0 := Lib.hid hx0
    have HZ := Lib.hid (szF_some hZ)
    clear hZ hx0 hlen
    obtain ⟨N, hN⟩ : ∃ N, N = (sprI r).length := ⟨_, rfl⟩
    have hNz : most - z = (N : Int) := by omega
    have hN1 : N ≤ 100000 := by omega
    rw [hNz] at HZ
    have HN := Lib.hid hN
    clear hlen2 hz9 hN hNz
    go_enter Try.func14, Try.ntmps14
    go_wp2_with fail
    refine (sizeF_c A cap r most hr hm1 hm2 HRI.out w HC.out).mono ?_
    rintro e w1 ⟨rfl, q1, rfl⟩
    rw [HZ.out]
    have hb1 : Below w.heap.size w (w.drewN q1) := below_drewN (Below.refl _ _) q1
    have hbx : i0.bytes * N ≤ 281474976710656 := by rw [hz2]; omega
    have hmx : N ≤ maxLen := by unfold maxLen; omega
    have hb10 : w.heap.size ≤ (w.drewN q1).heap.size := hb1.size
    go_wp2_with (at_make; refine wpList_make_own _ rfl _ _ 22 rfl w.heap.size 4 i0 (.bool false) 1 Try.underlying22 hi hz0 hz1 .i64 .i64 _ N rfl rfl rfl hbx hmx hb10 ?_; intro w2 hown2 hgrow2)
    have hb2 := hb1.grown hgrow2 hb10 (fun k hk => by cases hk)
    have hown2 : w2.ownsRow w.heap.size 4 1 (.slice (some ⟨w.heap.size, 0, none⟩) 0 N) 0 [] := hown2
    have hgl := (hown2.lt w.heap.size rfl).2
    refine (turns_c w2).mono ?_
    rintro e w3 ⟨rfl, rfl⟩
    obtain ⟨q, hq⟩ : ∃ q, q = w2.heap.size := ⟨_, rfl⟩
    have hgq : w.heap.size ≠ q := by omega
    have hwq : w.heap.size ≤ q := by omega
    have his3 : Is (w2.alloc (.cells #[.bool true] 4)) q 4 [.bool (!par 0)] := by rw [hq]; exact is_new w2 _ _
    have hown3 := hown2.alloc (.cells #[.bool true] 4)
    have hb3 := hb2.alloc hb2.size (.cells #[.bool true] 4)
    rw [← hq]
    obtain ⟨W, hW⟩ : ∃ W, W = w2.alloc (.cells #[.bool true] 4) := ⟨_, rfl⟩
    rw [← hW] at his3 hown3 hb3 ⊢
    clear hq hW hown2 hb2 hgrow2 hb1 hb10 hbx hmx hgl
    go_wp2_with fail
    go_loopw [8, 26] (fun s i wr => ∃ k : Nat, s = .slice (some ⟨w.heap.size, 0, none⟩) (sprI (r.take k)).length N ∧ i = .int .i64 (k : Int) ∧ k ≤ r.length ∧ wr.ownsRow w.heap.size 4 1 (.slice (some ⟨w.heap.size, 0, none⟩) (sprI (r.take k)).length N) (sprI (r.take k)).length (bvs (sprI (r.take k))) ∧ Is wr q 4 [.bool (!par k)] ∧ Below w.heap.size w wr)
      (fun _ i _ => r.length - (intOf i).toNat)
    case atStart => exact ⟨0, rfl, rfl, Nat.zero_le _, hown3, his3, hb3⟩
    case round =>
      clear his3 hown3 hb3
      obtain ⟨k, rfl, rfl, hk, hown, his, hb⟩ := hrel
      by_cases hlt : k < r.length
      · obtain ⟨x, hxk⟩ := some_at hlt
        obtain ⟨b, off, rfl, hbl, hcell⟩ := (HC.out.below hb) k _ (ivs_at hxk)
        obtain ⟨m, rfl⟩ := Int.eq_ofNat_of_zero_le (HX0.out x (mem_at hxk))
        have hst := sprI_take hxk
        rw [Int.toNat_natCast] at hst
        have hsl := congrArg List.length hst
        rw [List.length_append, List.length_replicate] at hsl
        have hle2 := sprI_take_le r (k + 1)
        rw [← HN.out] at hle2
        have HST := Lib.hid hst
        have HSL := Lib.hid hsl
        obtain ⟨n, hn⟩ : ∃ n, n = (sprI (r.take k)).length := ⟨_, rfl⟩
        rw [← hn] at hown hsl ⊢
        have HNN := Lib.hid hn
        have hnm : n + m ≤ N := by omega
        have hml : m ≤ 100000 := by omega
        have hnl : n ≤ 100000 := by omega
        clear hst hsl hn hle2 hxk
        go_wp2_with fail
        refine (flip_c q (!par k) _ his).mono ?_
        rintro e w4 ⟨rfl, his4, hg4⟩
        have hown4 := own_one hown hg4 hgq
        have hb4 := below_only hb hg4 hb.size hwq
        rw [Bool.not_not] at his4 ⊢
        clear his hown hb hg4 hcell
        go_wp2_with fail
        refine (layF_c w.heap.size w.heap.size n N m (par k) (sprI (r.take k)) hml hnl hnm _ hown4).mono ?_
        rintro e w5 ⟨rfl, hown5, hgr5⟩
        have his5 := is_grown his4 hgr5 (fun e => hgq (by injection e with e; exact e.symm))
        have hb5 := below_only hb4 hgr5 hb4.size (by omega)
        clear his4 hown4 hb4 hgr5
        go_wp2_with fail
        go_roundw
        case rel =>
          refine ⟨k + 1, by rw [HSL.out, ← HNN.out], by go_num, by omega, ?_, by rw [par_succ, Bool.not_not]; exact his5, hb5⟩
          rw [HST.out, List.length_append, List.length_replicate, ← HNN.out]
          exact hown5
        case measure => simp only [intOf]; omega
      · obtain rfl : k = r.length := by omega
        rw [List.take_length] at hown
        obtain ⟨A', cap', hA, ha, hfr, hcp⟩ := own_at hown
        cases hA
        rw [List.take_length]
        go_wp2_with fail
        go_ret2
        exact ⟨_, _, rfl, hcp, hfr, ha, hb⟩
end Go.Proofs.Ytiehmeheilfocaa
