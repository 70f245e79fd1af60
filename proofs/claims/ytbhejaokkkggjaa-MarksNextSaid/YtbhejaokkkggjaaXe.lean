/-
  The walk of MarksNext.
-/
import Derived.Test.YtbhejaokkkggjaaXs
import Derived.Test.YtbhejaokkkggjaaAp
import Derived.Test.YtbhejaokkkggjaaUl
import Derived.Test.YtbhejaokkkggjaaUh
import Derived.Deep.RegionHeld3
namespace Go.Proofs.Ytbhejaokkkggjaa
open Go.RowKit Go.IntWalk
set_option maxRecDepth 100000
attribute [local go_sem] Oper.semAt_some

def timeNe (a b c d : Int) : Bool := !(a == c && b == d)
theorem neq_times (a b c d : Int) (w : World) : (binOp .neq 35 (.agg #[.int .i64 a, .int .i64 b]) (.agg #[.int .i64 c, .int .i64 d])).run Try.prog w = .ok (.bool (timeNe a b c d)) w := by
  unfold timeNe
  rw [run_neq_struct, show (10000 : Nat) = 9999 + 1 from rfl, run_equalIn_agg w 9999 _ _ _ time_under time_stood]
  simp only [Program.fieldsOf, Try.underlying35]
  simp [Op.eqFields, go_sem, run_equalIn_int _ 9998 _ _ _ _ _ Try.underlying3]
  by_cases h1 : a = c <;> by_cases h2 : b = d <;> simp [h1, h2]
attribute [-go_sem] run_eql_struct run_neq_struct
attribute [local go_sem] time_guard eql_times neq_times

theorem hold4K {T G1 : Nat} {f g x r : Int} {wk W W' : World} (h : W.cell? ⟨T, 0, none⟩ = some (.int .i64 f) ∧ W.cell? ⟨T, 1, none⟩ = some (.int .i64 g) ∧ W.cell? ⟨G1, 0, none⟩ = some (.int .i64 x) ∧ W.cell? ⟨G1, 1, none⟩ = some (.int .i64 r) ∧ Below wk.heap.size wk W) (hb : Below W.heap.size W W') : W'.cell? ⟨T, 0, none⟩ = some (.int .i64 f) ∧ W'.cell? ⟨T, 1, none⟩ = some (.int .i64 g) ∧ W'.cell? ⟨G1, 0, none⟩ = some (.int .i64 x) ∧ W'.cell? ⟨G1, 1, none⟩ = some (.int .i64 r) ∧ Below wk.heap.size wk W' := by
  obtain ⟨h0, h1, h2, h3, hB⟩ := h
  exact ⟨keep_cell hb h0, keep_cell hb h1, keep_cell hb h2, keep_cell hb h3, hB.trans (hb.mono hB.size)⟩
theorem hold4dK {T G1 : Nat} {f g x r : Int} {wk W : World} (h : W.cell? ⟨T, 0, none⟩ = some (.int .i64 f) ∧ W.cell? ⟨T, 1, none⟩ = some (.int .i64 g) ∧ W.cell? ⟨G1, 0, none⟩ = some (.int .i64 x) ∧ W.cell? ⟨G1, 1, none⟩ = some (.int .i64 r) ∧ Below wk.heap.size wk W) : W.drew.cell? ⟨T, 0, none⟩ = some (.int .i64 f) ∧ W.drew.cell? ⟨T, 1, none⟩ = some (.int .i64 g) ∧ W.drew.cell? ⟨G1, 0, none⟩ = some (.int .i64 x) ∧ W.drew.cell? ⟨G1, 1, none⟩ = some (.int .i64 r) ∧ Below wk.heap.size wk W.drew := by
  obtain ⟨h0, h1, h2, h3, hB⟩ := h
  exact ⟨h0, h1, h2, h3, hB.drew⟩
theorem hold4bK {T G1 : Nat} {f g x r : Int} {wk W : World} (h : W.cell? ⟨T, 0, none⟩ = some (.int .i64 f) ∧ W.cell? ⟨T, 1, none⟩ = some (.int .i64 g) ∧ W.cell? ⟨G1, 0, none⟩ = some (.int .i64 x) ∧ W.cell? ⟨G1, 1, none⟩ = some (.int .i64 r) ∧ Below wk.heap.size wk W) : Below wk.heap.size wk W := h.2.2.2.2
theorem timeNe_zero : timeNe 0 0 0 0 = false := rfl
theorem next_facts {l : List Mv} {v : List Mk} {f n : Int} (r : Int) (hv : ofK l = v) (hn : nextN v f = n) :
    (∀ m ∈ l, mc m < n + 1) ∧ f < n + 1 ∧ getK (raiseK v (n + 1) r) r = n + 1 := by
  have hg : ∀ q, getK v q ≤ n := fun q => by
    rcases getK_get (l := v) (r := q) with h | ⟨m, hm, -, h⟩
    · rw [h, ← hn]; exact topI_ge _ 0
    · rw [h, ← hn]; exact topI_mem (List.mem_append_left _ (List.mem_map_of_mem hm)) 0
  refine ⟨fun m hm => ?_, ?_, ?_⟩
  · have h1 := topM_le hm
    rw [← getK_of, hv] at h1
    have := hg (mr m)
    omega
  · have : f ≤ n := by rw [← hn]; exact topI_mem (List.mem_append_right _ (List.mem_singleton.2 rfl)) 0
    omega
  · rw [getK_raise, if_pos rfl]
    have := hg r
    omega
theorem kof_k {A : Option Addr} {cap : Nat} {l : List Mv} {v : List Mk} (h : ofK l = v) (hl : l.length ≤ 40000) {w : World} (hc : At w w.heap.size A (mvs l)) :
    Calls Try.prog 51 #[.slice A l.length cap] w (FreshK v w) := by
  subst h; exact kof_c A cap l hl w hc
theorem rbef_t {c1 r1 c2 r2 : Int} (h : c1 < c2) (w : World) :
    Calls Try.prog 31 #[.agg #[.int .i64 c1, .int .i64 r1], .agg #[.int .i64 c2, .int .i64 r2]] w fun e w' => e = .returned (.bool true) ∧ Below w.heap.size w w' :=
  (rbef_c c1 r1 c2 r2 w).mono fun _ _ h2 => ⟨by rw [h2.1]; unfold befT; rw [decide_eq_true h, Bool.true_or], h2.2⟩
namespace marksNext
set_option maxHeartbeats 16000000 in
theorem walk (A : Option Addr) (cap : Nat) (l : List Mv) (hl : l.length ≤ maxLen) (hw : Moves_ l) (f g r : Int) (w : World) (hc : At w w.heap.size A (mvs l)) :
    Calls Try.prog 11 #[.slice A l.length cap, .agg #[.int .i64 f, .int .i64 g], .int .i64 r] w fun e w' => e = .returned (.bool true) ∧ Below w.heap.size w w' := by
  obtain ⟨w0, hw0⟩ : ∃ w0, w0 = w.alloc (.cells #[.int .i64 f, .int .i64 g] 35) := ⟨_, rfl⟩
  have hb0 : Below w.heap.size w w0 := by rw [hw0]; exact (Below.refl _ _).alloc (Nat.le_refl _) _
  have hI0 : Is w0 w.heap.size 35 [.int .i64 f, .int .i64 g] := by rw [hw0]; exact is_new w 35 _
  obtain ⟨T, hT⟩ : ∃ T, T = w.heap.size := ⟨_, rfl⟩
  rw [← hT] at hI0
  have HT := Lib.hid hT
  have HW := Lib.hid hw0
  have h00 := Lib.hid hb0
  have KC := Lib.hid (hc.keep hb0)
  have IC := Lib.hid hI0
  have HLL := Lib.hid hl
  have HN := Lib.hid (fun m h => (hw m h).2)
  have HBz := Lib.hid (Below.refl w0.heap.size w0)
  clear hc hw0 hb0 hI0 hT hl hw
  go_enter Try.func11, Try.ntmps11
  go_wp2_with fail
  rw [← HW.out, ← HT.out]
  refine (rmfew_c A cap l 60 HLL.out (by decide) _ KC.out).mono ?_
  rintro e w1 ⟨rfl, rfl⟩
  cases hf : fewM l 60 with
  | false =>
    clear hf
    go_wp2_with fail
    refine (live17_c _).mono ?_
    rintro e wz ⟨rfl, hbz⟩
    go_wp2_with fail
    go_ret
    exact ⟨rfl, h00.out.trans (hbz.mono h00.out.size)⟩
  | true =>
    obtain ⟨hl60, -⟩ := fewM_in hf
    clear hf
    go_wp2_with fail
    refine (rmmay_c A cap l HLL.out HN.out _ KC.out).mono ?_
    rintro e w1 ⟨rfl, hb1⟩
    have HB1 := Lib.hid hb1
    have I1 := Lib.hid (is_below IC.out hb1 (is_lt IC.out))
    clear hb1
    cases hm : mayM l with
    | false =>
      clear hm
      have hzz := h00.out.trans (HB1.out.mono h00.out.size)
      have HZZ := Lib.hid hzz
      clear hzz
      go_wp2_with fail
      refine (live17_c _).mono ?_
      rintro e wz ⟨rfl, hbz⟩
      go_wp2_with fail
      go_ret
      exact ⟨rfl, HZZ.out.trans (hbz.mono HZZ.out.size)⟩
    | true =>
      obtain ⟨v, hv⟩ : ∃ v, ofK l = v := ⟨_, rfl⟩
      have hvl := ofK_len l
      rw [hv] at hvl
      have HV := Lib.hid hv
      have HVL := Lib.hid (show v.length ≤ 50000 by omega)
      clear hm hv hvl
      obtain ⟨t0, t1⟩ := box2K I1.out
      by_cases hfg : f = 0 ∧ g = 0
      · have hne : timeNe f g 0 0 = false := by rw [hfg.1, hfg.2]; rfl
        clear hfg
        have HBc := Lib.hid HB1.out
        go_wp2_with fail
        refine (kof_k HV.out (by omega) (KC.out.keep HBc.out)).mono ?_
        rintro e w3 ⟨A2, c2, rfl, ho3, hb3⟩
        have N3 := Lib.hid (own_noneK ho3)
        have KV3 := Lib.hid (own_atK ho3)
        have I3 := Lib.hid (is_below IC.out (HBc.out.trans (hb3.mono HBc.out.size)) (is_lt IC.out))
        have HB3 := Lib.hid (HBc.out.trans (hb3.mono HBc.out.size))
        clear ho3 hb3 t0 t1
        obtain ⟨t0, t1⟩ := box2K I3.out
        by_cases hz : 4611686018427387903 ≤ nextN v f ∨ r < 1 ∨ 255 < r
        · have HZ := Lib.hid (show nextV (nextN v f) r = .tuple #[.agg #[.int .i64 0, .int .i64 0], .bool false] by unfold nextV; rw [if_pos hz])
          clear hz
          go_wp2_with fail
          refine (knext_k HZ.out HVL.out KV3.out).mono ?_
          rintro e w4 ⟨rfl, hb4⟩
          have HB4 := Lib.hid (HB3.out.trans (hb4.mono HB3.out.size))
          clear hb4 t0 t1
          have J := is_new w4 35 [.int .i64 0, .int .i64 0]
          have HJB := Lib.hid (show Below w4.heap.size w4 (w4.alloc (.cells #[.int .i64 0, .int .i64 0] 35)) from (Below.refl _ _).alloc (Nat.le_refl _) _)
          obtain ⟨p0, p1⟩ := box2K J
          clear J
          go_wp2_with fail
          refine (live17_c _).mono ?_
          rintro e wz ⟨rfl, hbz⟩
          go_wp2_with fail
          go_ret
          have h4 := HB4.out.trans (HJB.out.mono HB4.out.size)
          exact ⟨rfl, h00.out.trans ((h4.trans (hbz.mono h4.size)).mono h00.out.size)⟩
        have HZ := Lib.hid (show nextV (nextN v f) r = .tuple #[.agg #[.int .i64 (nextN v f + 1), .int .i64 r], .bool true] by unfold nextV; rw [if_neg hz])
        clear hz
        have hfa := next_facts r HV.out (rfl : nextN v f = nextN v f)
        obtain ⟨x, hx⟩ : ∃ x, nextN v f + 1 = x := ⟨_, rfl⟩
        rw [hx] at HZ hfa
        have HFA := Lib.hid hfa
        clear hfa hx
        go_wp2_with fail
        refine (knext_k HZ.out HVL.out KV3.out).mono ?_
        rintro e w4 ⟨rfl, hb4⟩
        have I4 := Lib.hid (is_below I3.out hb4 (is_lt I3.out))
        have KV4 := Lib.hid (KV3.out.keep hb4)
        have HB4 := Lib.hid (HB3.out.trans (hb4.mono HB3.out.size))
        clear hb4 t0 t1
        obtain ⟨wk, hw5⟩ : ∃ wk, wk = w4.alloc (.cells #[.int .i64 x, .int .i64 r] 35) := ⟨_, rfl⟩
        have hb5 : Below w4.heap.size w4 wk := by rw [hw5]; exact (Below.refl _ _).alloc (Nat.le_refl _) _
        obtain ⟨G1, hG1⟩ : ∃ G1, G1 = w4.heap.size := ⟨_, rfl⟩
        have J5 := Lib.hid (show Is wk G1 35 [.int .i64 x, .int .i64 r] by rw [hG1, hw5]; exact is_new w4 35 _)
        have I5 := Lib.hid (is_below I4.out hb5 (is_lt I4.out))
        have QV := Lib.hid (KV4.out.keep hb5)
        have HBk := Lib.hid (HB4.out.trans (hb5.mono HB4.out.size))
        have HW5 := Lib.hid hw5
        have HG1 := Lib.hid hG1
        clear hb5 hw5 hG1 I3 I4 KV3 KV4 HB3 HB4
        go_wp2_with fail
        rw [← HW5.out, ← HG1.out]
        go_loopw [10] (fun i wr => ∃ k : Nat, i = .int .i64 (k : Int) ∧ k ≤ l.length ∧ Below wk.heap.size wk wr) (fun i _ => l.length - (intOf i).toNat)
        case atStart => exact ⟨0, rfl, Nat.zero_le _, Below.refl _ _⟩
        case round =>
          obtain ⟨k, rfl, hk, hbw⟩ := hrel
          by_cases hlt : k < l.length
          · obtain ⟨m, hm⟩ := some_at hlt
            have hcw := (KC.out.keep HBk.out).keep hbw
            obtain ⟨b0, o0, rfl, hb0, c0, c1, -⟩ := move_cells hcw hm
            obtain ⟨p0, p1⟩ := box2K (is_below J5.out hbw (is_lt J5.out))
            have hki : (0 : Int) ≤ (k : Int) := by omega
            have hkl : (k : Int) < (l.length : Int) := by omega
            have HM := Lib.hid (HFA.out.1 m (mem_at hm))
            clear hcw hm
            go_wp2_with fail
            refine quiet_held (fun w' => Below wr.heap.size wr w') (by kernel_rfl) (by kernel_rfl) (Below.refl _ _).drew ?_
            repeat (first
              | go_big_quiet_skip
              | (go_big_quiet_want; go_big_quiet_op; go_big_quiet_on)
              | (go_big_quiet_want; apply Exists.intro; refine ⟨fun wq hq => ?_, ?_⟩; (focus (have q0 := keep_cell hq c0; have q1 := keep_cell hq c1; have q2 := keep_cell hq p0; have q3 := keep_cell hq p1; unfold Oper.quietAt; go_simp; all_goals (first | rfl | exact ⟨rfl, rfl⟩ | (with_reducible refine (rbef_t HM.out wq).mono ?_; rintro e w5 ⟨rfl, hbn⟩; exact ⟨rfl, hq.trans (hbn.mono hq.size)⟩)))); simp only [Act.put, List.setIfInBounds_toArray, List.set_cons_zero, List.set_cons_succ]; go_big_quiet_on))
            refine wpQuiet_nil ?_
            intro wq hq
            have hbz := hbw.trans (hq.mono hbw.size)
            go_wp2_with fail
            go_roundw
            case rel => exact ⟨k + 1, by go_num, by omega, hbz⟩
            case measure => simp only [intOf]; omega
          · obtain rfl : k = l.length := by omega
            have HF1 := Lib.hid HFA.out.2.1
            obtain ⟨R, hR⟩ : ∃ R, raiseK v x r = R := ⟨_, rfl⟩
            have hg := HFA.out.2.2
            have hrl := raiseK_len v x r
            rw [hR] at hg hrl
            have HR := Lib.hid hR
            have HG := Lib.hid hg
            have HRL := Lib.hid (show R.length ≤ maxLen by have := HVL.out; unfold maxLen; omega)
            obtain ⟨p0, p1⟩ := box2K (is_below I5.out hbw (is_lt I5.out))
            obtain ⟨p2, p3⟩ := box2K (is_below J5.out hbw (is_lt J5.out))
            have QW := Lib.hid (QV.out.keep hbw)
            have HBw := Lib.hid (HBk.out.trans (hbw.mono HBk.out.size))
            clear hR hg hrl hbw hlt hk HZ I5 J5 HFA QV HBk HW5 KC
            go_wp2_with fail
            go_region_held3 (fun w' => w'.cell? ⟨T, 0, none⟩ = some (.int .i64 f) ∧ w'.cell? ⟨T, 1, none⟩ = some (.int .i64 g) ∧ w'.cell? ⟨G1, 0, none⟩ = some (.int .i64 x) ∧ w'.cell? ⟨G1, 1, none⟩ = some (.int .i64 r) ∧ Below wr.heap.size wr w')
              (first
                | (exact hold4K (by assumption) hbn)
                | (exact hold4dK (by assumption))
                | (exact ⟨p0, p1, p2, p3, (Below.refl _ _).drew⟩)
                | go_keep)
              (first
                | (go_at_call 31; refine (rbef_t HF1.out _).mono ?_; rintro e wa ⟨rfl, hbn⟩)
                | (go_at_call 45; refine (kRaise_k HR.out HVL.out N3.out (QW.out.keep (hold4bK (by assumption)))).mono ?_; rintro e wa ⟨E1, f1, rfl, hown1, hbn⟩; have hr1 := own_atK hown1)
                | (go_at_call 42; refine (kget_k HG.out HRL.out _ (by exact hr1)).mono ?_; rintro e wa ⟨rfl, hbn⟩)
                | (go_at_call 37; refine (live17_c _).mono ?_; rintro e wa ⟨rfl, hbn⟩))
            have HZZ := Lib.hid (HBw.out.trans ((hold4bK (by assumption) : Below wr.heap.size wr wa).mono HBw.out.size))
            go_wp2_with fail
            go_ret
            exact ⟨rfl, h00.out.trans (HZZ.out.mono h00.out.size)⟩
      · have hne : timeNe f g 0 0 = true := by
          unfold timeNe
          by_cases h : f = 0
          · have : g ≠ 0 := fun h2 => hfg ⟨h, h2⟩
            simp [this]
          · simp [h]
        clear hfg
        go_wp2_with fail
        refine (rtime_k rfl _).mono ?_
        rintro e w2 ⟨rfl, hb2⟩
        have HB2 := Lib.hid (HB1.out.trans (hb2.mono HB1.out.size))
        clear hb2
        cases ht : (decide (1 ≤ f) && (decide (f ≤ 4611686018427387903) && (decide (1 ≤ g) && decide (g ≤ 255)))) with
        | false =>
          clear ht
          have hzz := h00.out.trans (HB2.out.mono h00.out.size)
          have HZZ := Lib.hid hzz
          clear hzz
          go_wp2_with fail
          refine (live17_c _).mono ?_
          rintro e wz ⟨rfl, hbz⟩
          go_wp2_with fail
          go_ret
          exact ⟨rfl, HZZ.out.trans (hbz.mono HZZ.out.size)⟩
        | true =>
          clear ht
          have HBc := Lib.hid HB2.out
          go_wp2_with fail
          refine (kof_k HV.out (by omega) (KC.out.keep HBc.out)).mono ?_
          rintro e w3 ⟨A2, c2, rfl, ho3, hb3⟩
          have N3 := Lib.hid (own_noneK ho3)
          have KV3 := Lib.hid (own_atK ho3)
          have I3 := Lib.hid (is_below IC.out (HBc.out.trans (hb3.mono HBc.out.size)) (is_lt IC.out))
          have HB3 := Lib.hid (HBc.out.trans (hb3.mono HBc.out.size))
          clear ho3 hb3 t0 t1
          obtain ⟨t0, t1⟩ := box2K I3.out
          by_cases hz : 4611686018427387903 ≤ nextN v f ∨ r < 1 ∨ 255 < r
          · have HZ := Lib.hid (show nextV (nextN v f) r = .tuple #[.agg #[.int .i64 0, .int .i64 0], .bool false] by unfold nextV; rw [if_pos hz])
            clear hz
            go_wp2_with fail
            refine (knext_k HZ.out HVL.out KV3.out).mono ?_
            rintro e w4 ⟨rfl, hb4⟩
            have HB4 := Lib.hid (HB3.out.trans (hb4.mono HB3.out.size))
            clear hb4 t0 t1
            have J := is_new w4 35 [.int .i64 0, .int .i64 0]
            have HJB := Lib.hid (show Below w4.heap.size w4 (w4.alloc (.cells #[.int .i64 0, .int .i64 0] 35)) from (Below.refl _ _).alloc (Nat.le_refl _) _)
            obtain ⟨p0, p1⟩ := box2K J
            clear J
            go_wp2_with fail
            refine (live17_c _).mono ?_
            rintro e wz ⟨rfl, hbz⟩
            go_wp2_with fail
            go_ret
            have h4 := HB4.out.trans (HJB.out.mono HB4.out.size)
            exact ⟨rfl, h00.out.trans ((h4.trans (hbz.mono h4.size)).mono h00.out.size)⟩
          have HZ := Lib.hid (show nextV (nextN v f) r = .tuple #[.agg #[.int .i64 (nextN v f + 1), .int .i64 r], .bool true] by unfold nextV; rw [if_neg hz])
          clear hz
          have hfa := next_facts r HV.out (rfl : nextN v f = nextN v f)
          obtain ⟨x, hx⟩ : ∃ x, nextN v f + 1 = x := ⟨_, rfl⟩
          rw [hx] at HZ hfa
          have HFA := Lib.hid hfa
          clear hfa hx
          go_wp2_with fail
          refine (knext_k HZ.out HVL.out KV3.out).mono ?_
          rintro e w4 ⟨rfl, hb4⟩
          have I4 := Lib.hid (is_below I3.out hb4 (is_lt I3.out))
          have KV4 := Lib.hid (KV3.out.keep hb4)
          have HB4 := Lib.hid (HB3.out.trans (hb4.mono HB3.out.size))
          clear hb4 t0 t1
          obtain ⟨wk, hw5⟩ : ∃ wk, wk = w4.alloc (.cells #[.int .i64 x, .int .i64 r] 35) := ⟨_, rfl⟩
          have hb5 : Below w4.heap.size w4 wk := by rw [hw5]; exact (Below.refl _ _).alloc (Nat.le_refl _) _
          obtain ⟨G1, hG1⟩ : ∃ G1, G1 = w4.heap.size := ⟨_, rfl⟩
          have J5 := Lib.hid (show Is wk G1 35 [.int .i64 x, .int .i64 r] by rw [hG1, hw5]; exact is_new w4 35 _)
          have I5 := Lib.hid (is_below I4.out hb5 (is_lt I4.out))
          have QV := Lib.hid (KV4.out.keep hb5)
          have HBk := Lib.hid (HB4.out.trans (hb5.mono HB4.out.size))
          have HW5 := Lib.hid hw5
          have HG1 := Lib.hid hG1
          clear hb5 hw5 hG1 I3 I4 KV3 KV4 HB3 HB4
          go_wp2_with fail
          rw [← HW5.out, ← HG1.out]
          go_loopw [10] (fun i wr => ∃ k : Nat, i = .int .i64 (k : Int) ∧ k ≤ l.length ∧ Below wk.heap.size wk wr) (fun i _ => l.length - (intOf i).toNat)
          case atStart => exact ⟨0, rfl, Nat.zero_le _, Below.refl _ _⟩
          case round =>
            obtain ⟨k, rfl, hk, hbw⟩ := hrel
            by_cases hlt : k < l.length
            · obtain ⟨m, hm⟩ := some_at hlt
              have hcw := (KC.out.keep HBk.out).keep hbw
              obtain ⟨b0, o0, rfl, hb0, c0, c1, -⟩ := move_cells hcw hm
              obtain ⟨p0, p1⟩ := box2K (is_below J5.out hbw (is_lt J5.out))
              have hki : (0 : Int) ≤ (k : Int) := by omega
              have hkl : (k : Int) < (l.length : Int) := by omega
              have HM := Lib.hid (HFA.out.1 m (mem_at hm))
              clear hcw hm
              go_wp2_with fail
              refine quiet_held (fun w' => Below wr.heap.size wr w') (by kernel_rfl) (by kernel_rfl) (Below.refl _ _).drew ?_
              repeat (first
                | go_big_quiet_skip
                | (go_big_quiet_want; go_big_quiet_op; go_big_quiet_on)
                | (go_big_quiet_want; apply Exists.intro; refine ⟨fun wq hq => ?_, ?_⟩; (focus (have q0 := keep_cell hq c0; have q1 := keep_cell hq c1; have q2 := keep_cell hq p0; have q3 := keep_cell hq p1; unfold Oper.quietAt; go_simp; all_goals (first | rfl | exact ⟨rfl, rfl⟩ | (with_reducible refine (rbef_t HM.out wq).mono ?_; rintro e w5 ⟨rfl, hbn⟩; exact ⟨rfl, hq.trans (hbn.mono hq.size)⟩)))); simp only [Act.put, List.setIfInBounds_toArray, List.set_cons_zero, List.set_cons_succ]; go_big_quiet_on))
              refine wpQuiet_nil ?_
              intro wq hq
              have hbz := hbw.trans (hq.mono hbw.size)
              go_wp2_with fail
              go_roundw
              case rel => exact ⟨k + 1, by go_num, by omega, hbz⟩
              case measure => simp only [intOf]; omega
            · obtain rfl : k = l.length := by omega
              have HF1 := Lib.hid HFA.out.2.1
              obtain ⟨R, hR⟩ : ∃ R, raiseK v x r = R := ⟨_, rfl⟩
              have hg := HFA.out.2.2
              have hrl := raiseK_len v x r
              rw [hR] at hg hrl
              have HR := Lib.hid hR
              have HG := Lib.hid hg
              have HRL := Lib.hid (show R.length ≤ maxLen by have := HVL.out; unfold maxLen; omega)
              obtain ⟨p0, p1⟩ := box2K (is_below I5.out hbw (is_lt I5.out))
              obtain ⟨p2, p3⟩ := box2K (is_below J5.out hbw (is_lt J5.out))
              have QW := Lib.hid (QV.out.keep hbw)
              have HBw := Lib.hid (HBk.out.trans (hbw.mono HBk.out.size))
              clear hR hg hrl hbw hlt hk HZ I5 J5 HFA QV HBk HW5 KC
              go_wp2_with fail
              go_region_held3 (fun w' => w'.cell? ⟨T, 0, none⟩ = some (.int .i64 f) ∧ w'.cell? ⟨T, 1, none⟩ = some (.int .i64 g) ∧ w'.cell? ⟨G1, 0, none⟩ = some (.int .i64 x) ∧ w'.cell? ⟨G1, 1, none⟩ = some (.int .i64 r) ∧ Below wr.heap.size wr w')
                (first
                  | (exact hold4K (by assumption) hbn)
                  | (exact hold4dK (by assumption))
                  | (exact ⟨p0, p1, p2, p3, (Below.refl _ _).drew⟩)
                  | go_keep)
                (first
                  | (go_at_call 31; refine (rbef_t HF1.out _).mono ?_; rintro e wa ⟨rfl, hbn⟩)
                  | (go_at_call 45; refine (kRaise_k HR.out HVL.out N3.out (QW.out.keep (hold4bK (by assumption)))).mono ?_; rintro e wa ⟨E1, f1, rfl, hown1, hbn⟩; have hr1 := own_atK hown1)
                  | (go_at_call 42; refine (kget_k HG.out HRL.out _ (by exact hr1)).mono ?_; rintro e wa ⟨rfl, hbn⟩)
                  | (go_at_call 37; refine (live17_c _).mono ?_; rintro e wa ⟨rfl, hbn⟩))
              have HZZ := Lib.hid (HBw.out.trans ((hold4bK (by assumption) : Below wr.heap.size wr wa).mono HBw.out.size))
              go_wp2_with fail
              go_ret
              exact ⟨rfl, h00.out.trans (HZZ.out.mono h00.out.size)⟩
end marksNext
end Go.Proofs.Ytbhejaokkkggjaa
