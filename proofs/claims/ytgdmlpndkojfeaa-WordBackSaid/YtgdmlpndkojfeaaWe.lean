/-
  The walk of PackReads.
-/
import Derived.Test.YtgdmlpndkojfeaaWa
import Derived.Test.YtgdmlpndkojfeaaVa
import Derived.Test.YtgdmlpndkojfeaaMc
import Derived.Test.YtgdmlpndkojfeaaBk
import Derived.Deep.RegionHeld3
namespace Go.Proofs.Ytgdmlpndkojfeaa
open Go.RowKit
open Pk
set_option maxRecDepth 100000

theorem q_same {P : Program} {f : FuncId} {args : Array Value} {w : World} {n : Nat} {v : Value} (h : Calls P f args (w.drewN n) fun e w' => e = .returned v ∧ w.drewN n = w') :
    Calls P f args (w.drewN n) fun e w'' => e = .returned v ∧ ∃ m, w'' = w.drewN m := h.mono fun _ _ ⟨he, hm⟩ => ⟨he, n, hm.symm⟩
theorem q_drew {P : Program} {f : FuncId} {args : Array Value} {w : World} {n : Nat} {v : Value} (h : Calls P f args (w.drewN n) fun e w' => e = .returned v ∧ ∃ m, w' = (w.drewN n).drewN m) :
    Calls P f args (w.drewN n) fun e w'' => e = .returned v ∧ ∃ m, w'' = w.drewN m := h.mono fun _ _ ⟨he, m, hm⟩ => ⟨he, n + m, by rw [hm, World.drewN_drewN]⟩
theorem rdr_drewN {w : World} {g : Nat} {s : St} (h : Rdr w g s) (n : Nat) : Rdr (w.drewN n) g s := h
theorem rdr_drew {w : World} {g : Nat} {s : St} (h : Rdr w g s) : Rdr w.drew g s := h
theorem refS_drew {w : World} {g : Nat} {l : List UInt8} {s : St} (h : Ref w g l s) : Ref w.drew g l s := h
theorem refS_drewN {w : World} {g : Nat} {l : List UInt8} {s : St} (h : Ref w g l s) (n : Nat) : Ref (w.drewN n) g l s := h
theorem refS_grown {w w' : World} {g g' : Nat} {l : List UInt8} {s : St} (h : Ref w g l s) (ho : w.grownBy w' (some g')) (hne : g ≠ g') : Ref w' g l s := by
  obtain ⟨k, h1, h2, h3⟩ := h
  exact ⟨k, h1, h2, is_grown h3 ho (fun e => hne (by injection e))⟩
theorem rdr_grown {w w' : World} {g g' : Nat} {s : St} (h : Rdr w g s) (ho : w.grownBy w' (some g')) (hne : g ≠ g') : Rdr w' g s :=
  is_grown h ho (fun e => hne (by injection e))
theorem refS_err {w : World} {g : Nat} {l : List UInt8} {s : St} (h : Ref w g l s) : w.cell? ⟨g, 2, none⟩ = some (.int .i64 s.e) := by
  obtain ⟨k, h1, h2, h3⟩ := h
  exact ref_e h3

theorem s_keep {g b o : Nat} {v : Value} {w w' : World} (h0 : w.cell? ⟨b, o, none⟩ = some v) (hb : b < g) (h : Below g w w') : w'.cell? ⟨b, o, none⟩ = some v ∧ Below g w w' :=
  ⟨(h.cell (p := ⟨b, o, none⟩) hb).trans h0, h⟩

namespace packReads
theorem walk_out (l : List UInt8) (A : Option Addr) (cap len : Nat) (h : 500 < l.length ∨ (l.length ≤ 500 ∧ 60 < len)) (hz : l.length ≤ maxLen) (hz2 : len ≤ maxLen) (w : World) :
    Calls Try.prog 4 #[.string (ba l), .slice A len cap] w fun e w' => e = .returned (.bool true) ∧ Below w.heap.size w w' := by
  have hs := ba_size l
  unfold maxLen at hz hz2
  rcases h with h | ⟨h0, h⟩
  all_goals
    go_enter Try.func4, Try.ntmps4
    go_wp2_with (go_at_call 23; refine (live3_c _).mono ?_; rintro e w5 ⟨rfl, hb5⟩)
    go_ret
    exact ⟨rfl, hb5⟩

set_option maxHeartbeats 8000000 in
theorem walk_in (l : List UInt8) (A : Option Addr) (cap : Nat) (xs : List Int) (hl : l.length ≤ 500) (hx : xs.length ≤ 60) (w : World) (hc : Cells w A (xs.map (Value.int .i64))) :
    Calls Try.prog 4 #[.string (ba l), .slice A xs.length cap] w fun e w' => e = .returned (.bool true) ∧ Below w.heap.size w w' := by
  have hs := ba_size l
  have HC := Lib.hid hc
  clear hc
  obtain ⟨g, hg⟩ : ∃ g, g = w.heap.size := ⟨_, rfl⟩
  have HG := Lib.hid hg
  clear hg
  go_enter Try.func4, Try.ntmps4
  go_wp2_with fail
  refine (new_c l _).mono ?_
  rintro e w0 ⟨rfl, hr0, hw0⟩
  rw [← HG.out] at hr0 ⊢
  have hb0 : Below g w w0 := by rw [hw0, HG.out]; exact (Below.refl _ _).alloc (Nat.le_refl _) _
  have hsz0 : w0.heap.size = g + 1 := by rw [hw0, HG.out]; simp
  have hr1 : Rdr (w0.alloc (.cells #[.string (ba l), .int .i64 0, .int .i64 0] 34)) g ⟨l, 0⟩ := is_alloc hr0 _
  have hk1 : Ref (w0.alloc (.cells #[.string (ba l), .int .i64 0, .int .i64 0] 34)) (g + 1) l ⟨l, 0⟩ := ⟨0, Nat.zero_le _, rfl, by rw [← hsz0]; exact is_new w0 34 [.string (ba l), .int .i64 0, .int .i64 0]⟩
  have hb1 : Below g w (w0.alloc (.cells #[.string (ba l), .int .i64 0, .int .i64 0] 34)) := hb0.alloc (by rw [hsz0]; omega) _
  clear hw0 hs hr0 hb0
  go_wp2_with fail
  go_loopw [7, 8] (fun i _ wr => ∃ (k : Nat) (st : St), i = .int .i64 (k : Int) ∧ k ≤ xs.length ∧ Rdr wr g st ∧ Ref wr (g + 1) l st ∧ Below g w wr)
    (fun i _ _ => xs.length - (intOf i).toNat)
  case atStart => exact ⟨0, _, rfl, Nat.zero_le _, hr1, hk1, hb1⟩
  case round =>
    clear hr1 hk1 hb1
    obtain ⟨k, st, rfl, hk, hr, hf, hb⟩ := hrel
    have hl2 : l.length ≤ 140737488351232 := by omega
    have hgb : g + 1 ≤ wr.heap.size := by have := is_lt hr; omega
    have hgb0 : g ≤ wr.drew.heap.size := Nat.le_of_succ_le hgb
    by_cases hlt : k < xs.length
    · obtain ⟨x, hxk⟩ : ∃ x, xs[k]? = some x := ⟨_, List.getElem?_eq_getElem hlt⟩
      obtain ⟨b, off, rfl, hbl, hcell0⟩ := HC.out k (.int .i64 x) (by rw [List.getElem?_map, hxk]; rfl)
      rw [← HG.out] at hbl
      have hcell := (s_keep hcell0 hbl hb).1
      have HC0 := Lib.hid hcell0
      clear hxk hcell0
      have hway : (x == -1) = true ∨ ((x == -1) = false ∧ (x == -2) = true) ∨ ((x == -1) = false ∧ (x == -2) = false ∧ (x == -3) = true) ∨ ((x == -1) = false ∧ (x == -2) = false ∧ (x == -3) = false) := by
        cases (x == -1) <;> cases (x == -2) <;> cases (x == -3) <;> simp
      rcases hway with q1 | ⟨q1, q2⟩ | ⟨q1, q2, q3⟩ | ⟨q1, q2, q3⟩
      · go_wp2_with (first | (go_at_call 25; refine (num_m _ st _ hr).mono ?_; rintro e w1 ⟨rfl, hr1, ho1⟩; have hb1 := below_only hb ho1 (by omega) (Nat.le_refl _); have hk1 := refS_grown hf ho1 (by omega); have hz1 := ho1.size; clear ho1) | (go_at_call 26; refine (rnum_m _ l st hl2 _ hk1).mono ?_; rintro e w2 ⟨rfl, hk2, ho2⟩; have hb2 := below_only hb1 ho2 (by omega) (by omega); have hr2 := rdr_grown hr1 ho2 (by omega); clear ho2))
        have hce := refS_err hk2
        go_quiet ((first | (go_at_call 33; exact q_same (left_c _ _ _ (rdr_drewN hr2 _))) | (go_at_call 34; exact q_drew (rleft_m _ _ _ hl2 _ (refS_drewN hk2 _))) | (go_at_call 35; exact q_same (err_c _ _ _ (rdr_drewN hr2 _))) | (go_at_call 36; exact q_same (done_c _ _ _ (rdr_drewN hr2 _))) | (go_at_call 37; exact q_drew (rdone_m _ _ _ hl2 _ (refS_drewN hk2 _)))))
        go_wp2
        go_roundw
        case rel => exact ⟨k + 1, _, by go_num, by omega, rdr_drewN hr2 _, refS_drewN hk2 _, below_drewN hb2 _⟩
        case measure => simp only [intOf]; omega
      · go_wp2_with (first | (go_at_call 27; refine (int_m _ st _ hr).mono ?_; rintro e w1 ⟨rfl, hr1, ho1⟩; have hb1 := below_only hb ho1 (by omega) (Nat.le_refl _); have hk1 := refS_grown hf ho1 (by omega); have hz1 := ho1.size; clear ho1) | (go_at_call 28; refine (rint_m _ l st hl2 _ hk1).mono ?_; rintro e w2 ⟨rfl, hk2, ho2⟩; have hb2 := below_only hb1 ho2 (by omega) (by omega); have hr2 := rdr_grown hr1 ho2 (by omega); clear ho2))
        have hce := refS_err hk2
        go_quiet ((first | (go_at_call 33; exact q_same (left_c _ _ _ (rdr_drewN hr2 _))) | (go_at_call 34; exact q_drew (rleft_m _ _ _ hl2 _ (refS_drewN hk2 _))) | (go_at_call 35; exact q_same (err_c _ _ _ (rdr_drewN hr2 _))) | (go_at_call 36; exact q_same (done_c _ _ _ (rdr_drewN hr2 _))) | (go_at_call 37; exact q_drew (rdone_m _ _ _ hl2 _ (refS_drewN hk2 _)))))
        go_wp2
        go_roundw
        case rel => exact ⟨k + 1, _, by go_num, by omega, rdr_drewN hr2 _, refS_drewN hk2 _, below_drewN hb2 _⟩
        case measure => simp only [intOf]; omega
      · go_wp2_with (first | (go_at_call 29; refine (fix_m _ st _ hr).mono ?_; rintro e w1 ⟨rfl, hr1, ho1⟩; have hb1 := below_only hb ho1 (by omega) (Nat.le_refl _); have hk1 := refS_grown hf ho1 (by omega); have hz1 := ho1.size; clear ho1) | (go_at_call 30; refine (rfix_m _ l st hl2 _ hk1).mono ?_; rintro e w2 ⟨rfl, hk2, ho2⟩; have hb2 := below_only hb1 ho2 (by omega) (by omega); have hr2 := rdr_grown hr1 ho2 (by omega); clear ho2))
        have hce := refS_err hk2
        go_quiet ((first | (go_at_call 33; exact q_same (left_c _ _ _ (rdr_drewN hr2 _))) | (go_at_call 34; exact q_drew (rleft_m _ _ _ hl2 _ (refS_drewN hk2 _))) | (go_at_call 35; exact q_same (err_c _ _ _ (rdr_drewN hr2 _))) | (go_at_call 36; exact q_same (done_c _ _ _ (rdr_drewN hr2 _))) | (go_at_call 37; exact q_drew (rdone_m _ _ _ hl2 _ (refS_drewN hk2 _)))))
        go_wp2
        go_roundw
        case rel => exact ⟨k + 1, _, by go_num, by omega, rdr_drewN hr2 _, refS_drewN hk2 _, below_drewN hb2 _⟩
        case measure => simp only [intOf]; omega
      · go_wp2_with fail
        go_region_held3 (fun w' => w'.cell? ⟨b, off + k, none⟩ = some (.int .i64 x) ∧ Below g w w')
          (first
            | (exact s_keep HC0.out hbl hb.drew)
            | (exact s_keep HC0.out hbl hb1)
            | (exact s_keep HC0.out hbl hb1.drew)
            | (exact s_keep HC0.out hbl hb2)
            | (exact s_keep HC0.out hbl hb2.drew)
            | go_keep)
          (first
            | (go_at_call 31; refine (take_m _ x st _ (rdr_drew hr)).mono ?_; rintro e w1 ⟨rfl, hr1, ho1⟩; have hb1 := below_only hb.drew ho1 hgb0 (Nat.le_refl _); have hk1 := refS_grown (refS_drew hf) ho1 (by omega); have hz1 := ho1.size; clear ho1)
            | (go_at_call 32; refine (rtake_m _ x l st hl2 _ hk1).mono ?_; rintro e w2 ⟨rfl, hk2, ho2⟩; have hb2 := below_only hb1 ho2 (Nat.le_trans hgb0 hz1) (by omega); have hr2 := rdr_grown hr1 ho2 (by omega); clear ho2))
        have hce := refS_err hk2
        go_wp2
        go_quiet ((first | (go_at_call 33; exact q_same (left_c _ _ _ (rdr_drewN hr2 _))) | (go_at_call 34; exact q_drew (rleft_m _ _ _ hl2 _ (refS_drewN hk2 _))) | (go_at_call 35; exact q_same (err_c _ _ _ (rdr_drewN hr2 _))) | (go_at_call 36; exact q_same (done_c _ _ _ (rdr_drewN hr2 _))) | (go_at_call 37; exact q_drew (rdone_m _ _ _ hl2 _ (refS_drewN hk2 _)))))
        go_wp2
        go_roundw
        case rel => exact ⟨k + 1, _, by go_num, by omega, rdr_drewN hr2 _, refS_drewN hk2 _, below_drewN hb2 _⟩
        case measure => simp only [intOf]; omega
    · go_wp2_with (go_at_call 23; refine (live3_c _).mono ?_; rintro e w5 ⟨rfl, hb5⟩)
      go_ret
      rw [← HG.out]
      exact ⟨rfl, hb.trans (hb5.mono (by omega))⟩

theorem walk (l : List UInt8) (A : Option Addr) (cap : Nat) (xs : List Int) (hz : l.length ≤ maxLen) (hz2 : xs.length ≤ maxLen) (_hw : ∀ x ∈ xs, (Lit.int .i64 x).wf = true) (w : World) (hc : Cells w A (xs.map (Value.int .i64))) :
    Calls Try.prog 4 #[.string (ba l), .slice A xs.length cap] w fun e w' => e = .returned (.bool true) ∧ Below w.heap.size w w' := by
  rcases Nat.lt_or_ge 500 l.length with h | h
  · exact walk_out l A cap _ (.inl h) hz hz2 w
  · rcases Nat.lt_or_ge 60 xs.length with h2 | h2
    · exact walk_out l A cap _ (.inr ⟨h, h2⟩) hz hz2 w
    · exact walk_in l A cap xs h h2 w hc
end packReads
end Go.Proofs.Ytgdmlpndkojfeaa
