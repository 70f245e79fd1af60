/-
  The walk of RealsBack.
-/
import Derived.Test.YtjjbiepmfngipaaLh
import Derived.Test.YtjjbiepmfngipaaVh
import Derived.Deep.QuietTactic
import Derived.BigQuiet
namespace Go.Proofs.Ytjjbiepmfngipaa
open Go.RowKit Go.IntWalk
open Pk Fl Re
set_option maxRecDepth 100000
attribute [local go_sem] Oper.semAt_some

theorem good_cbs {xs : List Nat} (h : Words xs) : Re.Good (cbs xs) := fun u hu => by
  simp only [cbs, List.mem_map] at hu
  obtain ⟨x, hx, rfl⟩ := hu
  exact ⟨cb_lt x (h x hx), cn_cb (h x hx)⟩
/-- two cells, and that all that was there is as it was -/
theorem two_keep {p q : Addr} {u v : Value} {w w1 w2 : World} (h : w1.cell? p = some u ∧ w1.cell? q = some v ∧ Below w.heap.size w w1) (hb : Below w1.heap.size w1 w2) : w2.cell? p = some u ∧ w2.cell? q = some v ∧ Below w.heap.size w w2 :=
  ⟨(hb.cell (World.block_lt_of_cell? _ _ h.1)).trans h.1, (hb.cell (World.block_lt_of_cell? _ _ h.2.1)).trans h.2.1, h.2.2.trans (hb.mono h.2.2.size)⟩
theorem two_below {p q : Addr} {u v : Value} {w w1 : World} (h : w1.cell? p = some u ∧ w1.cell? q = some v ∧ Below w.heap.size w w1) : Below w.heap.size w w1 := h.2.2

/-- a region that only reads but for calls that keep C -/
theorem quiet_held {P : Program} {id : Nat} {Q : Exit → Act → World → Prop} {a : Act} {w : World} {l : List Oper} (C : World → Prop) (hm : P.follows .mixedOrders = true) (hB : Region.lexB .any l.toArray = true) (hC : C w.drew)
    (h : wpQuiet P l.toArray C (fun a' => ∀ w', C w' → Q .normal a' w') l a) : (Code.region id l.toArray true).wp P Q a w :=
  wp_region_quiet (C := C) hm hB hC (by simpa using h)

namespace realsBack
theorem live (A : Option Addr) (cap : Nat) (xs : List Nat) (l : List UInt8) (n : Int) (hz : xs.length ≤ 9223372036854775807) (hz1 : l.length ≤ 9223372036854775807) (h : 100 < xs.length ∨ 500 < l.length) (w : World) :
    Calls Try.prog 5 #[.slice A xs.length cap, .string (ba l), .int .i64 n] w fun e w' => e = .returned (.bool true) ∧ Below w.heap.size w w' := by
  have hs := ba_size l
  by_cases h1 : 100 < xs.length
  · clear h
    go_enter Try.func5, Try.ntmps5
    go_wp2_with fail
    refine (live9_c _).mono ?_
    rintro e w1 ⟨rfl, hb1⟩
    go_wp2
    go_ret
    exact ⟨rfl, hb1⟩
  · have h2 : 500 < l.length := by omega
    clear h
    go_enter Try.func5, Try.ntmps5
    go_wp2_with fail
    refine (live9_c _).mono ?_
    rintro e w1 ⟨rfl, hb1⟩
    go_wp2
    go_ret
    exact ⟨rfl, hb1⟩
/-- a number that has come back -/
theorem back_cases {x y : Nat} (hx : x < 18446744073709551616) (h : cb y = cb x) : (nn x = true ∧ nn y = true) ∨ (y = x ∧ nn x = false ∧ ((FloatKind.f64.format.order x 0 == some Ordering.eq) = false ∨ x = 0 ∨ x = 9223372036854775808)) := by
  have nan_cb : ∀ {z : Nat}, nn (cb z) = nn z := by
    intro z
    cases hz : nn z
    · rw [cb_num hz, hz]
    · rw [cb_nan hz]; decide
  cases hn : nn x
  · right
    have hny : nn y = false := by rw [← nan_cb (z := y), h, nan_cb, hn]
    rw [cb_num hny, cb_num hn] at h
    refine ⟨h, rfl, ?_⟩
    by_cases h0 : mg x = 0
    · right
      rcases nought_of x hx h0 with ⟨_, h1⟩ | ⟨_, h1⟩
      · exact .inr h1
      · exact .inl h1
    · left; rw [o_zero x hx hn, decide_eq_false h0]
  · left
    exact ⟨rfl, by rw [← nan_cb (z := y), h, nan_cb, hn]⟩
set_option maxHeartbeats 64000000 in
theorem walk (A : Option Addr) (cap : Nat) (xs : List Nat) (l : List UInt8) (n : Int) (_hn : A = none → cap = 0) (_hk : xs.length ≤ cap) (hz : xs.length ≤ maxLen) (hw : Words xs) (hz1 : l.length ≤ maxLen) (hwf : (Lit.int .i64 n).wf = true) (w : World) (hc : At w w.heap.size A (fvs xs)) :
    Calls Try.prog 5 #[.slice A xs.length cap, .string (ba l), .int .i64 n] w fun e w' => e = .returned (.bool true) ∧ Below w.heap.size w w' := by
  have HN := Lib.hid (i64_in hwf)
  have HZ := Lib.hid hz
  unfold maxLen at hz hz1
  by_cases h : 100 < xs.length ∨ 500 < l.length
  · exact live A cap xs l n (by omega) (by omega) h w
  · have HC := Lib.hid hc
    have HW := Lib.hid hw
    have hs := ba_size l
    clear hwf hc hw
    have h1 : xs.length ≤ 100 := by omega
    have h2 : l.length ≤ 500 := by omega
    have hx : xs.length ≤ 100000 := by omega
    have hl : l.length ≤ 100000 := by omega
    obtain ⟨T, hT⟩ : ∃ T, T = encR (cbs xs) := ⟨_, rfl⟩
    have hTl : T.length ≤ 100000 := by
      have := (encR_len (cbs xs)).2
      rw [← hT, cbs_len] at this
      omega
    have HT := Lib.hid hT
    have HD := Lib.hid (show decR T (xs.length : Int) = (cbs xs, 0) by have := decR_enc (cbs xs) (good_cbs HW.out); rwa [cbs_len, ← hT] at this)
    obtain ⟨u, hu⟩ : ∃ u : Nat, u = (n % 18446744073709551616).toNat := ⟨_, rfl⟩
    have hul : u < 18446744073709551616 := by omega
    have hwr : IntKind.u64.wrap n = (u : Int) := by rw [IntKind.wrap_u64]; omega
    have hss := sw_sw u hul
    have hun : ((u : Int) != (u : Int)) = false := by simp
    obtain ⟨r, hr⟩ : ∃ r, r = decR l n := ⟨_, rfl⟩
    have HR := Lib.hid hr
    clear hT hu h hr
    go_enter Try.func5, Try.ntmps5
    go_wp2_with fail
    refine (encodeR_c A cap xs hx HW.out _ HC.out).mono ?_
    rintro e w1 ⟨rfl, hb1⟩
    rw [← HT.out]
    go_wp2_with fail
    refine (decodeR_c T (xs.length : Int) (by omega) (by omega) hTl _).mono ?_
    rintro e w2 ⟨A1, k1, ys, rfl, q1, g1, a1, hm⟩
    rw [HD.out] at q1 ⊢
    have hyl : ys.length = xs.length := by have := congrArg List.length q1; rwa [cbs_len, cbs_len] at this
    have hb2 := hb1.trans (hm.mono hb1.size)
    have HA := Lib.hid a1
    have HG := Lib.hid g1
    have HQ := Lib.hid (show cbs ys = cbs xs from q1)
    have HYL := Lib.hid hyl
    clear hm a1 g1 q1 hb1
    rw [hyl]
    clear hyl
    go_wp2_with fail
    refine ((HYL.out ▸ same9_c A1 A k1 cap ys xs (by rw [HYL.out]; exact HZ.out) HZ.out HG.out HW.out _ HA.out (HC.out.keep hb2) : Calls _ _ #[.slice A1 xs.length k1, _] _ _)).mono ?_
    rintro e w3 ⟨rfl, hm⟩
    rw [show decide (cbs ys = cbs xs) = true by rw [HQ.out]; simp]
    have hb3 := hb2.trans (hm.mono hb2.size)
    have HA := Lib.hid (HA.out.keep hm)
    have HC3 := Lib.hid (HC.out.keep hb3)
    clear hm hb2
    go_wp2_with fail
    go_loopw [10] (fun i wr => ∃ k : Nat, i = .int .i64 (k : Int) ∧ k ≤ xs.length ∧ Below w3.heap.size w3 wr) (fun i _ => xs.length - (intOf i).toNat)
    case atStart => exact ⟨0, rfl, Nat.zero_le _, Below.refl _ _⟩
    case round =>
      obtain ⟨k, rfl, hk, hb⟩ := hrel
      by_cases hlt : k < xs.length
      · obtain ⟨x, hxk⟩ := some_at hlt
        obtain ⟨y, hyk⟩ := some_at (show k < ys.length by rw [HYL.out]; exact hlt)
        obtain ⟨b2, o2, rfl, hl2, hc2⟩ := HC3.out k _ (fvs_at hxk)
        obtain ⟨b1, o1, rfl, hl1, hc1⟩ := HA.out k _ (fvs_at hyk)
        have d1 := cell_below hc1 hb hl1
        have d2 := cell_below hc2 hb hl2
        have hx64 := words_at HW.out hxk
        have hy64 := words_at HG.out hyk
        have hcb : cb y = cb x := by
          have h1 := cbs_at hxk
          have h2 := cbs_at hyk
          rw [HQ.out, h1] at h2
          injection h2 with h2
          exact h2.symm
        have hcq := eq_int hcb
        clear hc1 hc2 hxk hyk hl1 hl2
        have hkx : (k : Int) < (xs.length : Int) := by omega
        have hk0 : (0 : Int) ≤ (k : Int) := by omega
        rcases back_cases hx64 hcb with ⟨hnx, hny⟩ | ⟨rfl, hnx, hcs⟩
        · have e1 := o_self' x hx64
          have e2 := o_self' y hy64
          rw [hnx] at e1
          rw [hny] at e2
          clear hcb hnx hny
          go_wp2_with fail
          dsimp only [List.append]
          refine quiet_held (fun w' => w'.cell? ⟨b1, o1 + k, none⟩ = some (.float .f64 y) ∧ w'.cell? ⟨b2, o2 + k, none⟩ = some (.float .f64 x) ∧ Below wr.heap.size wr w') (by kernel_rfl) (by kernel_rfl) ⟨d1, d2, (Below.refl _ _).drew⟩ ?_
          repeat (first
            | go_big_quiet_skip
            | (go_big_quiet_want; go_big_quiet_op; go_big_quiet_on)
            | (go_big_quiet_want; apply Exists.intro; refine ⟨fun wq hq => ?_, ?_⟩; (focus (obtain ⟨g1, g2, g3⟩ := hq; unfold Oper.quietAt; go_simp; all_goals (first | rfl | (refine (same_c y x hy64 hx64 _).mono ?_; rintro e w5 ⟨rfl, hbn⟩; rw [hcq]; exact ⟨rfl, two_keep ⟨g1, g2, g3⟩ hbn⟩)))); simp only [Act.put, List.setIfInBounds_toArray, List.set_cons_zero, List.set_cons_succ]; go_big_quiet_on))
          refine wpQuiet_nil ?_
          intro wq hq
          obtain ⟨-, -, hwq⟩ := hq
          have hb' := hb.trans (hwq.mono hb.size)
          clear hwq hb
          go_wp2_with fail
          go_roundw
          case rel => exact ⟨k + 1, by go_num, by omega, hb'⟩
          case measure => simp only [intOf]; omega
        · have hnb : (FloatKind.f64.format.order y y == some Ordering.eq) = true := by rw [o_self' y hy64, hnx]; rfl
          have hnc : (FloatKind.f64.format.order y y != some Ordering.eq) = false := by rw [o_self y hy64, hnx]
          clear hcb hnx
          rcases hcs with hz0 | rfl | rfl
          · skip
            go_wp2_with fail
            dsimp only [List.append]
            refine quiet_held (fun w' => w'.cell? ⟨b1, o1 + k, none⟩ = some (.float .f64 y) ∧ w'.cell? ⟨b2, o2 + k, none⟩ = some (.float .f64 y) ∧ Below wr.heap.size wr w') (by kernel_rfl) (by kernel_rfl) ⟨d1, d2, (Below.refl _ _).drew⟩ ?_
            repeat (first
              | go_big_quiet_skip
              | (go_big_quiet_want; go_big_quiet_op; go_big_quiet_on)
              | (go_big_quiet_want; apply Exists.intro; refine ⟨fun wq hq => ?_, ?_⟩; (focus (obtain ⟨g1, g2, g3⟩ := hq; unfold Oper.quietAt; go_simp; all_goals (first | rfl | (refine (same_c y y hy64 hy64 _).mono ?_; rintro e w5 ⟨rfl, hbn⟩; rw [hcq]; exact ⟨rfl, two_keep ⟨g1, g2, g3⟩ hbn⟩)))); simp only [Act.put, List.setIfInBounds_toArray, List.set_cons_zero, List.set_cons_succ]; go_big_quiet_on))
            refine wpQuiet_nil ?_
            intro wq hq
            obtain ⟨-, -, hwq⟩ := hq
            have hb' := hb.trans (hwq.mono hb.size)
            clear hwq hb
            go_wp2_with fail
            go_roundw
            case rel => exact ⟨k + 1, by go_num, by omega, hb'⟩
            case measure => simp only [intOf]; omega
          · have hz0 : (FloatKind.f64.format.order 0 0 == some Ordering.eq) = true := by decide
            have hz4 := fun wx => run_float_arith (P := Try.prog) wx .quo 33 .f64 _ _ _ inv_pos
            have hz5 : (FloatKind.f64.format.order 9218868437227405312 9218868437227405312 != some Ordering.eq) = false := by decide
            go_wp2_with fail
            dsimp only [List.append]
            refine quiet_held (fun w' => w'.cell? ⟨b1, o1 + k, none⟩ = some (.float .f64 0) ∧ w'.cell? ⟨b2, o2 + k, none⟩ = some (.float .f64 0) ∧ Below wr.heap.size wr w') (by kernel_rfl) (by kernel_rfl) ⟨d1, d2, (Below.refl _ _).drew⟩ ?_
            repeat (first
              | go_big_quiet_skip
              | (go_big_quiet_want; go_big_quiet_op; go_big_quiet_on)
              | (go_big_quiet_want; apply Exists.intro; refine ⟨fun wq hq => ?_, ?_⟩; (focus (obtain ⟨g1, g2, g3⟩ := hq; unfold Oper.quietAt; go_simp; all_goals (first | rfl | (refine (same_c 0 0 hy64 hy64 _).mono ?_; rintro e w5 ⟨rfl, hbn⟩; rw [hcq]; exact ⟨rfl, two_keep ⟨g1, g2, g3⟩ hbn⟩)))); simp only [Act.put, List.setIfInBounds_toArray, List.set_cons_zero, List.set_cons_succ]; go_big_quiet_on))
            refine wpQuiet_nil ?_
            intro wq hq
            obtain ⟨-, -, hwq⟩ := hq
            have hb' := hb.trans (hwq.mono hb.size)
            clear hwq hb
            go_wp2_with fail
            go_roundw
            case rel => exact ⟨k + 1, by go_num, by omega, hb'⟩
            case measure => simp only [intOf]; omega
          · have hz0 : (FloatKind.f64.format.order 9223372036854775808 0 == some Ordering.eq) = true := by decide
            have hz4 := fun wx => run_float_arith (P := Try.prog) wx .quo 33 .f64 _ _ _ inv_neg
            have hz5 : (FloatKind.f64.format.order 18442240474082181120 18442240474082181120 != some Ordering.eq) = false := by decide
            go_wp2_with fail
            dsimp only [List.append]
            refine quiet_held (fun w' => w'.cell? ⟨b1, o1 + k, none⟩ = some (.float .f64 9223372036854775808) ∧ w'.cell? ⟨b2, o2 + k, none⟩ = some (.float .f64 9223372036854775808) ∧ Below wr.heap.size wr w') (by kernel_rfl) (by kernel_rfl) ⟨d1, d2, (Below.refl _ _).drew⟩ ?_
            repeat (first
              | go_big_quiet_skip
              | (go_big_quiet_want; go_big_quiet_op; go_big_quiet_on)
              | (go_big_quiet_want; apply Exists.intro; refine ⟨fun wq hq => ?_, ?_⟩; (focus (obtain ⟨g1, g2, g3⟩ := hq; unfold Oper.quietAt; go_simp; all_goals (first | rfl | (refine (same_c 9223372036854775808 9223372036854775808 hy64 hy64 _).mono ?_; rintro e w5 ⟨rfl, hbn⟩; rw [hcq]; exact ⟨rfl, two_keep ⟨g1, g2, g3⟩ hbn⟩)))); simp only [Act.put, List.setIfInBounds_toArray, List.set_cons_zero, List.set_cons_succ]; go_big_quiet_on))
            refine wpQuiet_nil ?_
            intro wq hq
            obtain ⟨-, -, hwq⟩ := hq
            have hb' := hb.trans (hwq.mono hb.size)
            clear hwq hb
            go_wp2_with fail
            go_roundw
            case rel => exact ⟨k + 1, by go_num, by omega, hb'⟩
            case measure => simp only [intOf]; omega
      · obtain rfl : k = xs.length := by omega
        have hb4 := hb3.trans (hb.mono hb3.size)
        clear hb
        go_wp2_with fail
        refine (swap_c u hul _).mono ?_
        rintro e wz ⟨rfl, rfl⟩
        go_wp2_with fail
        refine (swap_c (sw u) (sw_lt _) _).mono ?_
        rintro e wz ⟨rfl, rfl⟩
        rw [hss]
        go_wp2_with fail
        refine (decodeR_c l n HN.out.1 HN.out.2 hl _).mono ?_
        rintro e w5 ⟨A5, k5, zs, rfl, q5, g5, a5, hm⟩
        rw [← HR.out] at q5 ⊢
        have hb5 := hb4.trans (hm.mono hb4.size)
        have hzl : zs.length = r.1.length := by rw [← q5, cbs_len]
        clear hm hb4
        by_cases hf : r.2 = 0
        · have hne : (r.2 != 0) = false := by rw [hf]; rfl
          have hed := enc_decR (l := l) (n := n) (by rw [← HR.out]; exact hf)
          rw [← HR.out] at hed
          have hln : ((zs.length : Int) == n) = true := by rw [hzl, hed.1]; simp
          have HE := Lib.hid (show encR (cbs zs) = l by rw [q5]; exact hed.2)
          have hzx : zs.length ≤ 100000 := by
            have := decR_len l n
            rw [← HR.out] at this
            omega
          have hbl : ((ba l).toList == (ba l).toList) = true := by simp
          clear hf hed hzl q5
          go_wp2_with fail
          refine (encodeR_c A5 k5 zs hzx g5 _ a5).mono ?_
          rintro e w6 ⟨rfl, hm⟩
          rw [HE.out]
          have hb6 := hb5.trans (hm.mono hb5.size)
          clear hm hb5
          go_wp2_with fail
          refine (live9_c _).mono ?_
          rintro e w7 ⟨rfl, hm7⟩
          go_wp2
          go_ret
          exact ⟨rfl, hb6.trans (hm7.mono hb6.size)⟩
        · have hne : (r.2 != 0) = true := by simpa using hf
          have hz0 : zs.length = 0 := by
            have := decR_none (l := l) (n := n) (by rw [← HR.out]; exact hf)
            rw [← HR.out] at this
            rw [hzl, this]; rfl
          have hzb : ((zs.length : Int) == 0) = true := by rw [hz0]; rfl
          clear hf hzl hz0 q5
          go_wp2_with fail
          refine (live9_c _).mono ?_
          rintro e w7 ⟨rfl, hm7⟩
          go_wp2
          go_ret
          exact ⟨rfl, hb5.trans (hm7.mono hb5.size)⟩
end realsBack
end Go.Proofs.Ytjjbiepmfngipaa
