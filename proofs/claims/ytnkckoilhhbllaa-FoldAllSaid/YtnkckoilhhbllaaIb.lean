/-
  All nodes: the document's.
-/
import Derived.Test.YtnkckoilhhbllaaIa
namespace Go.Proofs.Ytnkckoilhhbllaa
open Go.RowKit Go.IntWalk
set_option maxRecDepth 100000
attribute [local go_sem] Oper.semAt_some

theorem hold2 {N : World} {W W' : World} {p q : Addr} {u v : Value} (h : W.cell? p = some u ∧ W.cell? q = some v ∧ Below N.heap.size N W) (hb : Below W.heap.size W W') : W'.cell? p = some u ∧ W'.cell? q = some v ∧ Below N.heap.size N W' :=
  ⟨keep_cell hb h.1, keep_cell hb h.2.1, h.2.2.trans (hb.mono h.2.2.size)⟩
theorem hold2d {N : World} {W : World} {p q : Addr} {u v : Value} (h : W.cell? p = some u ∧ W.cell? q = some v ∧ Below N.heap.size N W) : W.drew.cell? p = some u ∧ W.drew.cell? q = some v ∧ Below N.heap.size N W.drew := ⟨h.1, h.2.1, h.2.2.drew⟩
theorem hold2b {N : World} {W : World} {p q : Addr} {u v : Value} (h : W.cell? p = some u ∧ W.cell? q = some v ∧ Below N.heap.size N W) : Below N.heap.size N W := h.2.2
theorem puts_two (o l : List Int) (x y : Int) : putsI o (l ++ [x] ++ [y]) = insI (insI (putsI o l) x) y := by unfold putsI; rw [List.foldl_append, List.foldl_append]; rfl

set_option maxHeartbeats 8000000 in
theorem rnodes_c (A A2 : Option Addr) (cap cap2 : Nat) (l : List Rw) (ms : List Mv) (hl : l.length ≤ 1000) (hm : ms.length ≤ 1000) (w : World) (hc : At w w.heap.size A (tvs l)) (hc2 : At w w.heap.size A2 (mvs ms)) :
    Calls Try.prog 29 #[.slice A l.length cap, .slice A2 ms.length cap2] w (ToldI (nodP l ms) w) := by
  have HC := Lib.hid hc
  have HC2 := Lib.hid hc2
  clear hc hc2
  go_enter Try.func29, Try.ntmps29
  go_wp2_with fail
  go_loopw [5, 6] (fun x i wr => ∃ (k : Nat) (B : Option Addr) (cb : Nat) (O : List Int), i = .int .i64 (k : Int) ∧ k ≤ l.length ∧ x = .slice B O.length cb ∧ O = putsI [0] (namR (l.take k)) ∧ O.length ≤ 1 + 2 * k ∧ At wr wr.heap.size B (ivs O) ∧ (B = none → cb = 0) ∧ O.length ≤ cb ∧ Below w.heap.size w wr)
    (fun _ i _ => l.length - (intOf i).toNat)
  case atStart => exact ⟨0, _, 1, [0], rfl, Nat.zero_le _, rfl, rfl, by simp, (at_oneI w 0).mono (by simp), (fun h => by cases h), by simp, (Below.refl _ _).alloc (Nat.le_refl _) _⟩
  case round =>
    rename World => wr
    obtain ⟨k, B, cb, O, rfl, hk, rfl, hO, hOl, hb, hn, hcb, hbw⟩ := hrel
    have HBW := Lib.hid hbw
    have HB := Lib.hid hb
    have HN := Lib.hid hn
    have HO := Lib.hid hO
    clear hb hn hbw hO
    by_cases hlt : k < l.length
    · obtain ⟨r, hr⟩ := some_at hlt
      obtain ⟨b0, o0, rfl, -, e0, e1, -, -⟩ := row_cells (HC.out.keep HBW.out) hr
      have hk0 : (0 : Int) ≤ (k : Int) := by omega
      have hkl : (k : Int) < (l.length : Int) := by omega
      have HR := Lib.hid hr
      have hi1 := insI_len (ch r) O
      have hi2 := insI_len (pa r) (insI O (ch r))
      clear hr
      go_wp2_with fail
      go_region_held3 (fun w' => w'.cell? ⟨b0, o0 + k * 4, none⟩ = some (.int .i64 (ch r)) ∧ w'.cell? ⟨b0, o0 + k * 4 + 1, none⟩ = some (.int .i64 (pa r)) ∧ Below wr.heap.size wr w')
        (first
          | (exact hold2 (by assumption) hbn)
          | (exact hold2d (by assumption))
          | (exact ⟨e0, e1, (Below.refl _ _).drew⟩)
          | go_keep)
        (first
          | (go_at_call 74; (with_reducible refine (rput_c B cb O (ch r) (by omega) HN.out hcb _ (HB.out.keep (hold2b (by assumption)))).mono ?_); rintro e wa ⟨E1, f1, rfl, t1, n1, k1, hbn⟩)
          | (go_at_call 74; refine (rput_c E1 f1 (insI O (ch r)) (pa r) (by omega) n1 k1 _ t1).mono ?_; rintro e wb ⟨E2, f2, rfl, t2, n2, k2, hbn⟩))
      have hbz : Below wr.heap.size wr wb := hold2b (by assumption)
      have HBZ := Lib.hid (HBW.out.trans (hbz.mono HBW.out.size))
      go_wp2_with fail
      go_roundw
      case rel => exact ⟨k + 1, E2, f2, insI (insI O (ch r)) (pa r), by go_num, by omega, rfl, by rw [namR_take HR.out, puts_two, ← HO.out], by omega, t2, n2, k2, HBZ.out⟩
      case measure => simp only [intOf]; omega
    · obtain rfl : k = l.length := by omega
      have hlz : ¬ (l.length : Int) < (l.length : Int) := by omega
      have hO := HO.out
      rw [List.take_length] at hO
      have HO1 := Lib.hid hO
      clear hO HO
      go_wp2_with fail
      go_loopw [5, 7] (fun x i wr => ∃ (k : Nat) (B : Option Addr) (cb : Nat) (O : List Int), i = .int .i64 (k : Int) ∧ k ≤ ms.length ∧ x = .slice B O.length cb ∧ O = putsI [0] (namR l ++ namM (ms.take k)) ∧ O.length ≤ 1 + 2 * l.length + 2 * k ∧ At wr wr.heap.size B (ivs O) ∧ (B = none → cb = 0) ∧ O.length ≤ cb ∧ Below w.heap.size w wr)
        (fun _ i _ => ms.length - (intOf i).toNat)
      case atStart => exact ⟨0, B, cb, O, rfl, Nat.zero_le _, rfl, by rw [show namM (ms.take 0) = [] from rfl, List.append_nil]; exact HO1.out, by omega, HB.out, HN.out, hcb, HBW.out⟩
      case round =>
        clear HB HN HO1 HBW hOl hcb
        rename World => wr
        obtain ⟨k, B, cb, O, rfl, hk, rfl, hO, hOl, hb, hn, hcb, hbw⟩ := hrel
        have HBW := Lib.hid hbw
        have HB := Lib.hid hb
        have HN := Lib.hid hn
        have HO := Lib.hid hO
        clear hb hn hbw hO
        by_cases hlt : k < ms.length
        · obtain ⟨m, hr⟩ := some_at hlt
          obtain ⟨b0, o0, rfl, -, -, -, e0, e1, -, -⟩ := move_cells (HC2.out.keep HBW.out) hr
          have hk0 : (0 : Int) ≤ (k : Int) := by omega
          have hkl : (k : Int) < (ms.length : Int) := by omega
          have HR := Lib.hid hr
          have hi1 := insI_len (ch (mw m)) O
          have hi2 := insI_len (pa (mw m)) (insI O (ch (mw m)))
          clear hr
          go_wp2_with fail
          go_region_held3 (fun w' => w'.cell? ⟨b0, o0 + k * 6 + 2, none⟩ = some (.int .i64 (pa (mw m))) ∧ w'.cell? ⟨b0, o0 + k * 6 + 3, none⟩ = some (.int .i64 (ch (mw m))) ∧ Below wr.heap.size wr w')
            (first
              | (exact hold2 (by assumption) hbn)
              | (exact hold2d (by assumption))
              | (exact ⟨e0, e1, (Below.refl _ _).drew⟩)
              | go_keep)
            (first
              | (go_at_call 74; (with_reducible refine (rput_c B cb O (ch (mw m)) (by omega) HN.out hcb _ (HB.out.keep (hold2b (by assumption)))).mono ?_); rintro e wa ⟨E1, f1, rfl, t1, n1, k1, hbn⟩)
              | (go_at_call 74; refine (rput_c E1 f1 (insI O (ch (mw m))) (pa (mw m)) (by omega) n1 k1 _ t1).mono ?_; rintro e wb ⟨E2, f2, rfl, t2, n2, k2, hbn⟩))
          have hbz : Below wr.heap.size wr wb := hold2b (by assumption)
          have HBZ := Lib.hid (HBW.out.trans (hbz.mono HBW.out.size))
          go_wp2_with fail
          go_roundw
          case rel => exact ⟨k + 1, E2, f2, insI (insI O (ch (mw m))) (pa (mw m)), by go_num, by omega, rfl, by rw [namM_take HR.out, ← List.append_assoc, ← List.append_assoc, puts_two, ← HO.out], by omega, t2, n2, k2, HBZ.out⟩
          case measure => simp only [intOf]; omega
        · obtain rfl : k = ms.length := by omega
          have hlz2 : ¬ (ms.length : Int) < (ms.length : Int) := by omega
          have hO := HO.out
          rw [List.take_length] at hO
          have hO2 : O = nodP l ms := hO
          subst hO2
          clear hO HO
          go_wp2_with fail
          go_ret
          exact ⟨B, cb, rfl, HB.out, HN.out, hcb, HBW.out⟩
end Go.Proofs.Ytnkckoilhhbllaa
