/-
  Steps held against each other, and few steps: the program's, and the document's.
  Steps held against each other: the document's.
-/
import Derived.Test.YtfeopchghpihoaaHf
import Derived.Test.YtfeopchghpihoaaHc
import Derived.Test.YtfeopchghpihoaaUk
section
namespace Go.Proofs.Ytfeopchghpihoaa
open Go.RowKit Go.IntWalk
open Wd Fl
set_option maxRecDepth 100000
attribute [local go_sem] Oper.semAt_some

/-- are two steps alike -/
def alikeS (a b : Sp) : Bool := alikeM (sm a) (sm b) && ((sd a == sd b) && ((sh a == sh b) && alikeP (so a) (so b)))
def sameS : List Sp → List Sp → Bool
  | [], [] => true
  | a :: l, b :: m => alikeS a b && sameS l m
  | _, _ => false
def wayS (a b : Sp) : Bool := (sd a == sd b) && (sh a == sh b)
def sameW : List Sp → List Sp → Bool
  | [], [] => true
  | a :: l, b :: m => wayS a b && sameW l m
  | _, _ => false
theorem alikeS_refl (a : Sp) : alikeS a a = true := by simp [alikeS, alikeM_refl, alikeP_refl]
theorem sameS_refl : ∀ l : List Sp, sameS l l = true
  | [] => rfl
  | a :: l => by rw [sameS, alikeS_refl, sameS_refl l]; rfl
theorem sameS_len : ∀ {l m : List Sp}, l.length ≠ m.length → sameS l m = false
  | [], [], h => by simp at h
  | [], _ :: _, _ => rfl
  | _ :: _, [], _ => rfl
  | a :: l, b :: m, h => by rw [sameS, sameS_len (l := l) (m := m) (by simpa using h), Bool.and_false]
theorem sameS_step {l m : List Sp} {k : Nat} {a b : Sp} (ha : l[k]? = some a) (hb : m[k]? = some b) : sameS (l.drop k) (m.drop k) = (alikeS a b && sameS (l.drop (k + 1)) (m.drop (k + 1))) := by
  have h1 := (List.getElem?_eq_some_iff.1 ha).1
  have h2 := (List.getElem?_eq_some_iff.1 ha).2
  have h3 := (List.getElem?_eq_some_iff.1 hb).1
  have h4 := (List.getElem?_eq_some_iff.1 hb).2
  rw [List.drop_eq_getElem_cons h1, List.drop_eq_getElem_cons h3, h2, h4, sameS]
theorem sameW_len : ∀ {l m : List Sp}, l.length ≠ m.length → sameW l m = false
  | [], [], h => by simp at h
  | [], _ :: _, _ => rfl
  | _ :: _, [], _ => rfl
  | a :: l, b :: m, h => by rw [sameW, sameW_len (l := l) (m := m) (by simpa using h), Bool.and_false]
theorem sameW_step {l m : List Sp} {k : Nat} {a b : Sp} (ha : l[k]? = some a) (hb : m[k]? = some b) : sameW (l.drop k) (m.drop k) = (wayS a b && sameW (l.drop (k + 1)) (m.drop (k + 1))) := by
  have h1 := (List.getElem?_eq_some_iff.1 ha).1
  have h2 := (List.getElem?_eq_some_iff.1 ha).2
  have h3 := (List.getElem?_eq_some_iff.1 hb).1
  have h4 := (List.getElem?_eq_some_iff.1 hb).2
  rw [List.drop_eq_getElem_cons h1, List.drop_eq_getElem_cons h3, h2, h4, sameW]
theorem sameS_parts : ∀ (a b : List Sp), sameS a b = (sameW a b && (sameM (a.map sm) (b.map sm) && sameP (a.map so) (b.map so)))
  | [], [] => rfl
  | [], _ :: _ => rfl
  | _ :: _, [] => rfl
  | a :: l, b :: m => by
    simp only [sameS, sameW, List.map_cons, sameM, sameP, sameS_parts l m, alikeS, wayS]
    cases alikeM (sm a) (sm b) <;> cases (sd a == sd b) <;> cases (sh a == sh b) <;> cases alikeP (so a) (so b) <;> simp

def fewS (l : List Sp) (n : Nat) : Bool := decide (l.length ≤ n) && l.all fun s => decide ((nm (mw (sm s))).length ≤ 100) && decide ((nm (so s)).length ≤ 100)
theorem fewS_step {l : List Sp} {i : Nat} {c : Sp} (h : l[i]? = some c) : ((l.drop i).all fun s => decide ((nm (mw (sm s))).length ≤ 100) && decide ((nm (so s)).length ≤ 100)) = ((decide ((nm (mw (sm c))).length ≤ 100) && decide ((nm (so c)).length ≤ 100)) && (l.drop (i + 1)).all fun s => decide ((nm (mw (sm s))).length ≤ 100) && decide ((nm (so s)).length ≤ 100)) := by
  have hk := (List.getElem?_eq_some_iff.1 h).1
  have hc := (List.getElem?_eq_some_iff.1 h).2
  rw [List.drop_eq_getElem_cons hk, hc, List.all_cons]
theorem fewS_in {l : List Sp} {n : Nat} (h : fewS l n = true) : l.length ≤ n ∧ ∀ s ∈ l, (nm (mw (sm s))).length ≤ 100 ∧ (nm (so s)).length ≤ 100 := by
  simp only [fewS, Bool.and_eq_true, decide_eq_true_eq, List.all_eq_true] at h
  exact h
theorem FreshM.at {l : List Mv} {w w' : World} {e : Ending} (h : FreshM l w e w') : ∃ A cap, e = .returned (.slice A l.length cap) ∧ At w' w'.heap.size A (mvs l) ∧ (A = none → cap = 0) ∧ l.length ≤ cap ∧ Below w.heap.size w w' := by
  obtain ⟨A, cap, rfl, hown, hb⟩ := h
  have hn : A = none → cap = 0 := fun hA => by
    subst hA
    rcases hown.2 with ⟨hz, _⟩ | ⟨g, c2, cur, hv, _⟩
    · exact (Value.slice.inj hz).2.2
    · cases hv
  obtain ⟨A', cap', he, ha, -, hc⟩ := own_at hown
  cases he
  exact ⟨A, cap, rfl, ha, hn, hc, hb⟩

end Go.Proofs.Ytfeopchghpihoaa
end

section
namespace Go.Proofs.Ytfeopchghpihoaa
open Go.RowKit Go.IntWalk
open Wd Fl
set_option maxRecDepth 100000
attribute [local go_sem] Oper.semAt_some

set_option maxHeartbeats 8000000 in
theorem rpalike_c (a b : Sp) (ha : rk (mw (sm a)) < 18446744073709551616) (hb : rk (mw (sm b)) < 18446744073709551616) (ha2 : rk (so a) < 18446744073709551616) (hb2 : rk (so b) < 18446744073709551616) (w : World) :
    Calls Try.prog 41 #[.agg #[.int .i64 (mc (sm a)), .int .i64 (mr (sm a)), .int .i64 (pa (mw (sm a))), .int .i64 (ch (mw (sm a))), .string (ba (nm (mw (sm a)))), .float .f64 (rk (mw (sm a))), .bool (sd a), .bool (sh a), .int .i64 (ch (so a)), .int .i64 (pa (so a)), .string (ba (nm (so a))), .float .f64 (rk (so a))], .agg #[.int .i64 (mc (sm b)), .int .i64 (mr (sm b)), .int .i64 (pa (mw (sm b))), .int .i64 (ch (mw (sm b))), .string (ba (nm (mw (sm b)))), .float .f64 (rk (mw (sm b))), .bool (sd b), .bool (sh b), .int .i64 (ch (so b)), .int .i64 (pa (so b)), .string (ba (nm (so b))), .float .f64 (rk (so b))]] w fun e w' => e = .returned (.bool (alikeS a b)) ∧ Below w.heap.size w w' := by
  obtain ⟨w0, hw0⟩ : ∃ w0, w0 = (w.alloc (.cells #[.int .i64 (mc (sm a)), .int .i64 (mr (sm a)), .int .i64 (pa (mw (sm a))), .int .i64 (ch (mw (sm a))), .string (ba (nm (mw (sm a)))), .float .f64 (rk (mw (sm a))), .bool (sd a), .bool (sh a), .int .i64 (ch (so a)), .int .i64 (pa (so a)), .string (ba (nm (so a))), .float .f64 (rk (so a))] 64)).alloc (.cells #[.int .i64 (mc (sm b)), .int .i64 (mr (sm b)), .int .i64 (pa (mw (sm b))), .int .i64 (ch (mw (sm b))), .string (ba (nm (mw (sm b)))), .float .f64 (rk (mw (sm b))), .bool (sd b), .bool (sh b), .int .i64 (ch (so b)), .int .i64 (pa (so b)), .string (ba (nm (so b))), .float .f64 (rk (so b))] 64) := ⟨_, rfl⟩
  have HB := Lib.hid (show Below w.heap.size w w0 by rw [hw0]; exact ((Below.refl w.heap.size w).alloc (Nat.le_refl _) _).alloc (by simp) _)
  have HI := Lib.hid (show Is w0 w.heap.size 64 [.int .i64 (mc (sm a)), .int .i64 (mr (sm a)), .int .i64 (pa (mw (sm a))), .int .i64 (ch (mw (sm a))), .string (ba (nm (mw (sm a)))), .float .f64 (rk (mw (sm a))), .bool (sd a), .bool (sh a), .int .i64 (ch (so a)), .int .i64 (pa (so a)), .string (ba (nm (so a))), .float .f64 (rk (so a))] by rw [hw0]; exact is_alloc (is_new w 64 [.int .i64 (mc (sm a)), .int .i64 (mr (sm a)), .int .i64 (pa (mw (sm a))), .int .i64 (ch (mw (sm a))), .string (ba (nm (mw (sm a)))), .float .f64 (rk (mw (sm a))), .bool (sd a), .bool (sh a), .int .i64 (ch (so a)), .int .i64 (pa (so a)), .string (ba (nm (so a))), .float .f64 (rk (so a))]) _)
  have HJ := Lib.hid (show Is w0 (w.heap.size + 1) 64 [.int .i64 (mc (sm b)), .int .i64 (mr (sm b)), .int .i64 (pa (mw (sm b))), .int .i64 (ch (mw (sm b))), .string (ba (nm (mw (sm b)))), .float .f64 (rk (mw (sm b))), .bool (sd b), .bool (sh b), .int .i64 (ch (so b)), .int .i64 (pa (so b)), .string (ba (nm (so b))), .float .f64 (rk (so b))] by rw [hw0]; exact is_newA w 64 [.int .i64 (mc (sm b)), .int .i64 (mr (sm b)), .int .i64 (pa (mw (sm b))), .int .i64 (ch (mw (sm b))), .string (ba (nm (mw (sm b)))), .float .f64 (rk (mw (sm b))), .bool (sd b), .bool (sh b), .int .i64 (ch (so b)), .int .i64 (pa (so b)), .string (ba (nm (so b))), .float .f64 (rk (so b))] _)
  have HW := Lib.hid hw0
  have HK := Lib.hid (fun W => alike_c (so a) (so b) ha2 hb2 W)
  have HM := Lib.hid (fun W => rmalike_c (sm a) (sm b) ha hb W)
  clear hw0 ha hb ha2 hb2
  have hv : alikeS a b = (alikeM (sm a) (sm b) && ((sd a == sd b) && ((sh a == sh b) && alikeP (so a) (so b)))) := rfl
  rw [hv]
  clear hv
  obtain ⟨q0, h0⟩ : ∃ q, alikeM (sm a) (sm b) = q := ⟨_, rfl⟩
  obtain ⟨q1, h1⟩ : ∃ q, (sd a == sd b) = q := ⟨_, rfl⟩
  obtain ⟨q2, h2⟩ : ∃ q, (sh a == sh b) = q := ⟨_, rfl⟩
  obtain ⟨q3, h3⟩ : ∃ q, alikeP (so a) (so b) = q := ⟨_, rfl⟩
  rw [h0] at HM
  rw [h3] at HK
  rw [h0, h1, h2, h3]
  clear h0 h3
  cases q0 with
  | false =>
    rw [Bool.false_and]
    clear h1 h2
    go_enter Try.func41, Try.ntmps41
    go_wp2_with fail
    rw [← HW.out]
    refine (HM.out _).mono ?_
    rintro e w1 ⟨rfl, hb1⟩
    go_wp2_with fail
    go_ret
    exact ⟨rfl, HB.out.trans (hb1.mono HB.out.size)⟩
  | true =>
    rw [Bool.true_and]
    go_enter Try.func41, Try.ntmps41
    go_wp2_with fail
    rw [← HW.out]
    refine (HM.out _).mono ?_
    rintro e w1 ⟨rfl, hb1⟩
    have HI1 := Lib.hid (is_below HI.out hb1 (is_lt HI.out))
    have HJ1 := Lib.hid (is_below HJ.out hb1 (is_lt HJ.out))
    have HB1 := Lib.hid (HB.out.trans (hb1.mono HB.out.size))
    clear hb1
    have x0 := is_cell HI1.out 0
    have x1 := is_cell HI1.out 1
    have x2 := is_cell HI1.out 2
    have x3 := is_cell HI1.out 3
    have x4 := is_cell HI1.out 4
    have x5 := is_cell HI1.out 5
    have x6 := is_cell HI1.out 6
    have x7 := is_cell HI1.out 7
    have x8 := is_cell HI1.out 8
    have x9 := is_cell HI1.out 9
    have x10 := is_cell HI1.out 10
    have x11 := is_cell HI1.out 11
    have y0 := is_cell HJ1.out 0
    have y1 := is_cell HJ1.out 1
    have y2 := is_cell HJ1.out 2
    have y3 := is_cell HJ1.out 3
    have y4 := is_cell HJ1.out 4
    have y5 := is_cell HJ1.out 5
    have y6 := is_cell HJ1.out 6
    have y7 := is_cell HJ1.out 7
    have y8 := is_cell HJ1.out 8
    have y9 := is_cell HJ1.out 9
    have y10 := is_cell HJ1.out 10
    have y11 := is_cell HJ1.out 11
    simp only [List.getElem?_cons_zero, List.getElem?_cons_succ] at x0 x1 x2 x3 x4 x5 x6 x7 x8 x9 x10 x11 y0 y1 y2 y3 y4 y5 y6 y7 y8 y9 y10 y11
    cases q1 with
    | false =>
      go_wp2_with fail
      go_ret
      exact ⟨rfl, HB1.out⟩
    | true =>
      cases q2 with
      | false =>
        go_wp2_with fail
        go_ret
        exact ⟨rfl, HB1.out⟩
      | true =>
        go_wp2_with fail
        refine (HK.out _).mono ?_
        rintro e w2 ⟨rfl, hb2⟩
        go_wp2_with fail
        go_ret
        exact ⟨rfl, HB1.out.trans (hb2.mono HB1.out.size)⟩

theorem rpalike_k {a b : Sp} {q : Bool} (h : alikeS a b = q) (ha : rk (mw (sm a)) < 18446744073709551616) (hb : rk (mw (sm b)) < 18446744073709551616) (ha2 : rk (so a) < 18446744073709551616) (hb2 : rk (so b) < 18446744073709551616) (w : World) :
    Calls Try.prog 41 #[.agg #[.int .i64 (mc (sm a)), .int .i64 (mr (sm a)), .int .i64 (pa (mw (sm a))), .int .i64 (ch (mw (sm a))), .string (ba (nm (mw (sm a)))), .float .f64 (rk (mw (sm a))), .bool (sd a), .bool (sh a), .int .i64 (ch (so a)), .int .i64 (pa (so a)), .string (ba (nm (so a))), .float .f64 (rk (so a))], .agg #[.int .i64 (mc (sm b)), .int .i64 (mr (sm b)), .int .i64 (pa (mw (sm b))), .int .i64 (ch (mw (sm b))), .string (ba (nm (mw (sm b)))), .float .f64 (rk (mw (sm b))), .bool (sd b), .bool (sh b), .int .i64 (ch (so b)), .int .i64 (pa (so b)), .string (ba (nm (so b))), .float .f64 (rk (so b))]] w fun e w' => e = .returned (.bool q) ∧ Below w.heap.size w w' := by
  subst h
  exact rpalike_c a b ha hb ha2 hb2 w

set_option maxHeartbeats 8000000 in
theorem rpsame_c (A1 A2 : Option Addr) (c1 c2 : Nat) (xs ys : List Sp) (hx : xs.length ≤ maxLen) (hy : ys.length ≤ maxLen) (hwx : Steps_ xs) (hwy : Steps_ ys) (w : World) (h1 : At w w.heap.size A1 (pvs xs)) (h2 : At w w.heap.size A2 (pvs ys)) :
    Calls Try.prog 19 #[.slice A1 xs.length c1, .slice A2 ys.length c2] w fun e w' => e = .returned (.bool (sameS xs ys)) ∧ Below w.heap.size w w' := by
  unfold maxLen at hx hy
  have H1 := Lib.hid h1
  have H2 := Lib.hid h2
  have WX := Lib.hid hwx
  have WY := Lib.hid hwy
  clear h1 h2 hwx hwy
  by_cases hl : xs.length = ys.length
  · obtain ⟨n, hn⟩ : ∃ n, n = ys.length := ⟨_, rfl⟩
    have hn1 : xs.length = n := by omega
    obtain ⟨R, hR⟩ : ∃ R, sameS xs ys = R := ⟨_, rfl⟩
    rw [hR]
    have HR := Lib.hid hR
    rw [← hn, hn1]
    rw [hn1] at hx hl
    rw [← hn] at hy hl
    have HN := Lib.hid hn
    have HN1 := Lib.hid hn1
    clear hn hn1 hR hl
    go_enter Try.func19, Try.ntmps19
    go_wp2_with fail
    go_loopw [5] (fun i wr => ∃ k : Nat, i = .int .i64 (k : Int) ∧ k ≤ n ∧ sameS (xs.drop k) (ys.drop k) = R ∧ Below w.heap.size w wr) (fun i _ => n - (intOf i).toNat)
    case atStart => exact ⟨0, rfl, Nat.zero_le _, HR.out, Below.refl _ _⟩
    case round =>
      obtain ⟨k, rfl, hk, heq, hb⟩ := hrel
      have hbs := hb.size
      have HE := Lib.hid heq
      clear heq
      by_cases hlt : k < n
      · obtain ⟨x, hxk⟩ := some_at (show k < xs.length by rw [HN1.out]; exact hlt)
        obtain ⟨y, hyk⟩ := some_at (show k < ys.length by rw [← HN.out]; exact hlt)
        have hax := H1.out.keep hb
        have hay := H2.out.keep hb
        obtain ⟨b1, o1, rfl, hb1, -⟩ := step_cells hax hxk
        obtain ⟨b2, o2, rfl, hb2, -⟩ := step_cells hay hyk
        have HAX := Lib.hid hax
        have HAY := Lib.hid hay
        have hst := sameS_step hxk hyk
        rw [HE.out] at hst
        have hx64 := (WX.out x (mem_at hxk)).1
        have hy64 := (WY.out y (mem_at hyk)).1
        have hx65 := (WX.out x (mem_at hxk)).2.2.1
        have hy65 := (WY.out y (mem_at hyk)).2.2.1
        have HST := Lib.hid hst
        have HX := Lib.hid hxk
        have HY := Lib.hid hyk
        obtain ⟨q, hq⟩ : ∃ q, alikeS x y = q := ⟨_, rfl⟩
        have HQ := Lib.hid hq
        have hki : (0 : Int) ≤ (k : Int) := by omega
        have hkn : (k : Int) < (n : Int) := by omega
        clear hst hxk hyk hq hax hay
        cases q
        · skip
          go_wp2_with fail
          refine quiet_held (fun w' => Below wr.heap.size wr w') (by kernel_rfl) (by kernel_rfl) (Below.refl _ _).drew ?_
          repeat (first
            | go_big_quiet_skip
            | (go_big_quiet_want; go_big_quiet_op; go_big_quiet_on)
            | (go_big_quiet_want; apply Exists.intro; refine ⟨fun wq hq => ?_, ?_⟩; (focus (obtain ⟨b9, o9, e9, -, d0, d1, d2, d3, d4, d5, d6, d7, d8, d9, d10, d11⟩ := step_cells (HAX.out.keep hq) HX.out; cases e9; obtain ⟨b9, o9, e9, -, g0, g1, g2, g3, g4, g5, g6, g7, g8, g9, g10, g11⟩ := step_cells (HAY.out.keep hq) HY.out; cases e9; unfold Oper.quietAt; go_simp; all_goals (first | rfl | (refine (rpalike_k HQ.out hx64 hy64 hx65 hy65 _).mono ?_; rintro e w5 ⟨rfl, hbn⟩; exact ⟨rfl, hq.trans (hbn.mono hq.size)⟩)))); simp only [Act.put, List.setIfInBounds_toArray, List.set_cons_zero, List.set_cons_succ]; go_big_quiet_on))
          refine wpQuiet_nil ?_
          intro wq hwq
          have hbe : Below w.heap.size w wq := hb.trans (hwq.mono hb.size)
          go_wp2_with fail
          go_ret
          refine ⟨ret_bool ?_, hbe⟩
          rw [HST.out, HQ.out]; rfl
        · skip
          go_wp2_with fail
          refine quiet_held (fun w' => Below wr.heap.size wr w') (by kernel_rfl) (by kernel_rfl) (Below.refl _ _).drew ?_
          repeat (first
            | go_big_quiet_skip
            | (go_big_quiet_want; go_big_quiet_op; go_big_quiet_on)
            | (go_big_quiet_want; apply Exists.intro; refine ⟨fun wq hq => ?_, ?_⟩; (focus (obtain ⟨b9, o9, e9, -, d0, d1, d2, d3, d4, d5, d6, d7, d8, d9, d10, d11⟩ := step_cells (HAX.out.keep hq) HX.out; cases e9; obtain ⟨b9, o9, e9, -, g0, g1, g2, g3, g4, g5, g6, g7, g8, g9, g10, g11⟩ := step_cells (HAY.out.keep hq) HY.out; cases e9; unfold Oper.quietAt; go_simp; all_goals (first | rfl | (refine (rpalike_k HQ.out hx64 hy64 hx65 hy65 _).mono ?_; rintro e w5 ⟨rfl, hbn⟩; exact ⟨rfl, hq.trans (hbn.mono hq.size)⟩)))); simp only [Act.put, List.setIfInBounds_toArray, List.set_cons_zero, List.set_cons_succ]; go_big_quiet_on))
          refine wpQuiet_nil ?_
          intro wq hwq
          have hbe : Below w.heap.size w wq := hb.trans (hwq.mono hb.size)
          go_wp2_with fail
          go_roundw
          case rel => exact ⟨k + 1, by go_num, by omega, by rw [HST.out, HQ.out]; rfl, hbe⟩
          case measure => simp only [intOf]; omega
      · obtain rfl : k = n := by omega
        have h := HE.out
        rw [List.drop_of_length_le (by rw [HN1.out]; exact Nat.le_refl _), List.drop_of_length_le (by rw [← HN.out]; exact Nat.le_refl _)] at h
        have HH := Lib.hid h
        clear h
        go_wp2_with fail
        go_ret
        exact ⟨ret_bool HH.out, hb⟩
  · have hs := sameS_len hl
    have ht : ((xs.length : Int) != (ys.length : Int)) = true := by simp only [bne_iff_ne, ne_eq]; omega
    have HS := Lib.hid hs
    clear hl hs
    go_enter Try.func19, Try.ntmps19
    go_wp2_with fail
    go_ret
    exact ⟨ret_bool HS.out.symm, Below.refl _ _⟩
end Go.Proofs.Ytfeopchghpihoaa
end
