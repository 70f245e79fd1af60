/-
  The walk of MovesMay.
-/
import Derived.Test.YtihaiabkjmmmoaaUr
import Derived.Deep.RegionLaw
namespace Go.Proofs.Ytihaiabkjmmmoaa
open Go.RowKit Go.IntWalk
open Wd Fl
set_option maxRecDepth 100000
attribute [local go_sem] Oper.semAt_some

/-- inserted again nothing changes -/
theorem insM_again {l L : List Mv} {m : Mv} {k : Nat} {b : Bool} (h : insM l m = (L, k, b)) : insM L m = (L, k, false) ∧ (∃ x, L[k]? = some x ∧ mc x = mc m ∧ mr x = mr m ∧ (b = true → x = m)) ∧ (b = false → L = l) ∧ (b = true → L.take k ++ L.drop (k + 1) = l) := by
  rcases insM_cases l m with ⟨j, x, hx, ht, hno, e, hj⟩ | ⟨h0, j, hj, hlo, hhi, e⟩
  · rw [e] at h
    cases h
    have ht2 := timeEq_iff.1 ht
    exact ⟨e, ⟨x, hx, ht2.1, ht2.2, fun h => by cases h⟩, fun _ => rfl, fun h => by cases h⟩
  · rw [e] at h
    simp only [Prod.mk.injEq] at h
    obtain ⟨rfl, rfl, rfl⟩ := h
    have htk : (l.take j).length = j := by rw [List.length_take]; omega
    have hm : (l.take j ++ m :: l.drop j)[j]? = some m := by
      rw [List.getElem?_append_right (by omega), htk, Nat.sub_self]; rfl
    have hpre : (l.take j ++ m :: l.drop j).take j = l.take j := by
      have h2 := List.take_left (l₁ := l.take j) (l₂ := m :: l.drop j)
      rw [htk] at h2
      exact h2
    have hpost : (l.take j ++ m :: l.drop j).drop (j + 1) = l.drop j := by
      have h2 := List.drop_left (l₁ := l.take j) (l₂ := m :: l.drop j)
      rw [htk] at h2
      rw [← List.drop_drop, h2]
      rfl
    refine ⟨insM_found hm (timeEq_iff.2 ⟨rfl, rfl⟩) (fun y hy => ?_), ⟨m, hm, rfl, rfl, fun _ => rfl⟩, (fun h => by cases h), fun _ => ?_⟩
    · rw [hpre] at hy
      exact h0 y (List.mem_of_mem_take hy)
    · rw [hpre, hpost, List.take_append_drop]
theorem own_head6 {w : World} {B : Nat} {e : TypeId} {v : Value} {n m : Nat} {xs ys : List Value} (h : w.ownsRow B e 6 v n xs) (hn : n = m) (hx : xs = ys) : w.ownsRow B e 6 v m ys := by subst hn; subst hx; exact h
theorem made6d (B : Nat) (w : World) (h : B ≤ w.heap.size) : (w.alloc (.cells #[] 30)).drew.ownsRow B 30 6 (.slice (some ⟨w.heap.size, 0, none⟩) 0 0) 0 [] := own_drew (made6 B w h)
theorem rone_kk {m : Mv} {b : Bool} (h : oneM m = b) (hn : (nm (mw m)).length ≤ maxLen) (w : World) :
    Calls Try.prog 17 #[.agg #[.int .i64 (mc m), .int .i64 (mr m), .int .i64 (pa (mw m)), .int .i64 (ch (mw m)), .string (ba (nm (mw m))), .float .f64 (rk (mw m))]] w fun e w' => e = .returned (.bool b) ∧ Below w.heap.size w w' := rmone_k h hn w

namespace movesMay
set_option maxHeartbeats 8000000 in
theorem live_in (A : Option Addr) (cap : Nat) (l : List Mv) (m : Mv) (_hA : A = none → cap = 0) (_hcap : l.length ≤ cap) (hl : l.length ≤ maxLen) (hM : Moves_ l) (hm1 : rk (mw m) < 18446744073709551616) (hm2 : (nm (mw m)).length ≤ maxLen) (h : (fewM l 60 && (decide ((nm (mw m)).length ≤ 100) && (mayM l && oneM m))) = false) (w : World) (hc : At w w.heap.size A (mvs l)) :
    Calls Try.prog 5 #[.slice A l.length cap, .agg #[.int .i64 (mc m), .int .i64 (mr m), .int .i64 (pa (mw m)), .int .i64 (ch (mw m)), .string (ba (nm (mw m))), .float .f64 (rk (mw m))]] w fun e w' => e = .returned (.bool true) ∧ Below w.heap.size w w' := by
  have hbx := (Below.refl w.heap.size w).alloc (Nat.le_refl _) (.cells #[.int .i64 (mc m), .int .i64 (mr m), .int .i64 (pa (mw m)), .int .i64 (ch (mw m)), .string (ba (nm (mw m))), .float .f64 (rk (mw m))] 30)
  have hI0 : Is (w.alloc (.cells #[.int .i64 (mc m), .int .i64 (mr m), .int .i64 (pa (mw m)), .int .i64 (ch (mw m)), .string (ba (nm (mw m))), .float .f64 (rk (mw m))] 30)) w.heap.size 30 [.int .i64 (mc m), .int .i64 (mr m), .int .i64 (pa (mw m)), .int .i64 (ch (mw m)), .string (ba (nm (mw m))), .float .f64 (rk (mw m))] := is_new w 30 [.int .i64 (mc m), .int .i64 (mr m), .int .i64 (pa (mw m)), .int .i64 (ch (mw m)), .string (ba (nm (mw m))), .float .f64 (rk (mw m))]
  have HI0 := Lib.hid hI0
  have HBX := Lib.hid hbx
  have HC := Lib.hid (hc.keep hbx)
  have HM := Lib.hid hM
  have HM2 := Lib.hid (And.intro hm1 hm2)
  have HL := Lib.hid hl
  have hsz := ba_size (nm (mw m))
  unfold maxLen at hm2
  clear hI0 hc hbx hl hM hm1
  cases g0 : fewM l 60 with
  | false =>
    have H0 := Lib.hid g0
    clear g0 h
    go_enter Try.func5, Try.ntmps5
    go_wp2_with fail
    refine (rmfew_k (b := false) 60 H0.out HL.out (by omega) HC.out _ rfl).mono ?_
    rintro e w1 ⟨rfl, rfl⟩
    go_wp2_with fail
    refine (live13_c _).mono ?_
    rintro e wz ⟨rfl, hbz⟩
    go_wp2_with fail
    go_ret
    exact ⟨rfl, bthen HBX.out hbz⟩
  | true =>
    have H0 := Lib.hid g0
    rw [g0, Bool.true_and] at h
    clear g0
    by_cases hlong : 100 < (nm (mw m)).length
    · clear h
      go_enter Try.func5, Try.ntmps5
      go_wp2_with fail
      refine (rmfew_k (b := true) 60 H0.out HL.out (by omega) HC.out _ rfl).mono ?_
      rintro e w1 ⟨rfl, rfl⟩
      obtain ⟨k0, k1, k2, k3, k4, k5⟩ := box6 (m := m) HI0.out
      go_wp2_with fail
      refine (live13_c _).mono ?_
      rintro e wz ⟨rfl, hbz⟩
      go_wp2_with fail
      go_ret
      exact ⟨rfl, bthen HBX.out hbz⟩
    · rw [decide_eq_true (show (nm (mw m)).length ≤ 100 by omega), Bool.true_and] at h
      cases g2 : mayM l with
      | false =>
        have H2 := Lib.hid g2
        clear g2 h
        go_enter Try.func5, Try.ntmps5
        go_wp2_with fail
        refine (rmfew_k (b := true) 60 H0.out HL.out (by omega) HC.out _ rfl).mono ?_
        rintro e w1 ⟨rfl, rfl⟩
        obtain ⟨k0, k1, k2, k3, k4, k5⟩ := box6 (m := m) HI0.out
        go_wp2_with fail
        refine (rmmay_k (b := false) H2.out HL.out HM.out HC.out).mono ?_
        rintro e w2 ⟨rfl, hb2⟩
        have hbw2 := bthen HBX.out hb2
        have HI2 := Lib.hid (is_below HI0.out hb2 (is_lt HI0.out))
        clear k0 k1 k2 k3 k4 k5
        obtain ⟨k0, k1, k2, k3, k4, k5⟩ := box6 (m := m) HI2.out
        go_wp2_with fail
        refine (live13_c _).mono ?_
        rintro e wz ⟨rfl, hbz⟩
        go_wp2_with fail
        go_ret
        exact ⟨rfl, bthen hbw2 hbz⟩
      | true =>
        have H2 := Lib.hid g2
        rw [g2, Bool.true_and] at h
        have H3 := Lib.hid h
        clear g2 h
        go_enter Try.func5, Try.ntmps5
        go_wp2_with fail
        refine (rmfew_k (b := true) 60 H0.out HL.out (by omega) HC.out _ rfl).mono ?_
        rintro e w1 ⟨rfl, rfl⟩
        obtain ⟨k0, k1, k2, k3, k4, k5⟩ := box6 (m := m) HI0.out
        go_wp2_with fail
        refine (rmmay_k (b := true) H2.out HL.out HM.out HC.out).mono ?_
        rintro e w2 ⟨rfl, hb2⟩
        have hbw2 := bthen HBX.out hb2
        have HI2 := Lib.hid (is_below HI0.out hb2 (is_lt HI0.out))
        clear k0 k1 k2 k3 k4 k5
        obtain ⟨k0, k1, k2, k3, k4, k5⟩ := box6 (m := m) HI2.out
        go_wp2_with fail
        refine (rone_kk (b := false) H3.out HM2.out.2 _).mono ?_
        rintro e w3 ⟨rfl, hb3⟩
        have hbw3 := bthen hbw2 hb3
        go_wp2_with fail
        refine (live13_c _).mono ?_
        rintro e wz ⟨rfl, hbz⟩
        go_wp2_with fail
        go_ret
        exact ⟨rfl, bthen hbw3 hbz⟩

set_option maxHeartbeats 16000000 in
theorem main (A : Option Addr) (cap : Nat) (l : List Mv) (m : Mv) (hA : A = none → cap = 0) (hcap : l.length ≤ cap) (hl : l.length ≤ maxLen) (hM : Moves_ l) (hm1 : rk (mw m) < 18446744073709551616) (hm2 : (nm (mw m)).length ≤ maxLen) (g0 : fewM l 60 = true) (g1 : (nm (mw m)).length ≤ 100) (g2 : mayM l = true) (g3 : oneM m = true) (w : World) (hc : At w w.heap.size A (mvs l)) :
    Calls Try.prog 5 #[.slice A l.length cap, .agg #[.int .i64 (mc m), .int .i64 (mr m), .int .i64 (pa (mw m)), .int .i64 (ch (mw m)), .string (ba (nm (mw m))), .float .f64 (rk (mw m))]] w fun e w' => e = .returned (.bool true) ∧ Below w.heap.size w w' := by
  have hbx := (Below.refl w.heap.size w).alloc (Nat.le_refl _) (.cells #[.int .i64 (mc m), .int .i64 (mr m), .int .i64 (pa (mw m)), .int .i64 (ch (mw m)), .string (ba (nm (mw m))), .float .f64 (rk (mw m))] 30)
  have hI0 : Is (w.alloc (.cells #[.int .i64 (mc m), .int .i64 (mr m), .int .i64 (pa (mw m)), .int .i64 (ch (mw m)), .string (ba (nm (mw m))), .float .f64 (rk (mw m))] 30)) w.heap.size 30 [.int .i64 (mc m), .int .i64 (mr m), .int .i64 (pa (mw m)), .int .i64 (ch (mw m)), .string (ba (nm (mw m))), .float .f64 (rk (mw m))] := is_new w 30 [.int .i64 (mc m), .int .i64 (mr m), .int .i64 (pa (mw m)), .int .i64 (ch (mw m)), .string (ba (nm (mw m))), .float .f64 (rk (mw m))]
  have HI0 := Lib.hid hI0
  have HBX := Lib.hid hbx
  have HC := Lib.hid (hc.keep hbx)
  have HM := Lib.hid hM
  have HM2 := Lib.hid (And.intro hm1 hm2)
  have HL := Lib.hid hl
  have hsz := ba_size (nm (mw m))
  unfold maxLen at hm2
  obtain ⟨i0, hi, hz0, hz1, hz2⟩ := info_parts Try.info30
  have H0 := Lib.hid g0
  have H2 := Lib.hid g2
  have H3 := Lib.hid g3
  obtain ⟨hl60, -⟩ := fewM_in g0
  have HA := Lib.hid hA
  have hins := insM_moves hM ⟨hm1, by unfold maxLen; exact hm2⟩
  have hlen := insM_len l m
  have hasc := insM_asc m (mayM_iff.1 g2).2.2
  have hmem : ∀ x ∈ (insM l m).1, oneM x = true := fun x hx => by
    rcases insM_mem hx with h | rfl
    · exact (mayM_iff.1 g2).2.1 x h
    · exact g3
  have H1 := Lib.hid fun (W : World) (h : At W W.heap.size A (mvs l)) => minsert_c A cap l m (by omega) hA hcap W h
  obtain ⟨⟨L, k, b⟩, ho⟩ : ∃ o, insM l m = o := ⟨_, rfl⟩
  obtain ⟨hag, ⟨x, hxL, hxc, hxr, hxm⟩, hLf, hLt⟩ := insM_again ho
  have h1 := H1.out
  rw [ho] at h1 hins hlen hasc hmem
  change L.length ≤ l.length + 1 at hlen
  have hkL := (List.getElem?_eq_some_iff.1 hxL).1
  have G1 := Lib.hid h1
  have HINS : Hid (Moves_ L) := Lib.hid hins
  have HMAY : Hid (mayM L = true) := Lib.hid (mayM_iff.2 ⟨by omega, hmem, hasc⟩)
  have HAG := Lib.hid hag
  have HX := Lib.hid hxL
  have HXC := Lib.hid hxc
  have HXR := Lib.hid hxr
  have HXM := Lib.hid hxm
  have HLF := Lib.hid hLf
  have HLT := Lib.hid hLt
  clear hI0 hc hbx hl hM hm1 hA g0 g2 g3 hins hasc hmem H1 ho hag hxL hxc hxr hxm hLf hLt h1
  go_enter Try.func5, Try.ntmps5
  go_wp2_with fail
  refine (rmfew_k (b := true) 60 H0.out HL.out (by omega) HC.out _ rfl).mono ?_
  rintro e w1 ⟨rfl, rfl⟩
  obtain ⟨k0, k1, k2, k3, k4, k5⟩ := box6 (m := m) HI0.out
  go_wp2_with fail
  refine (rmmay_k (b := true) H2.out HL.out HM.out HC.out).mono ?_
  rintro e w2 ⟨rfl, hb2⟩
  have hbw2 := bthen HBX.out hb2
  have HI2 := Lib.hid (is_below HI0.out hb2 (is_lt HI0.out))
  clear k0 k1 k2 k3 k4 k5
  obtain ⟨k0, k1, k2, k3, k4, k5⟩ := box6 (m := m) HI2.out
  go_wp2_with fail
  refine (rone_kk (b := true) H3.out HM2.out.2 _).mono ?_
  rintro e w3 ⟨rfl, hb3⟩
  have hbw3 := bthen hbw2 hb3
  have HI3 := Lib.hid (is_below HI2.out hb3 (is_lt HI2.out))
  have HC3 := Lib.hid ((HC.out.keep hb2).keep hb3)
  clear k0 k1 k2 k3 k4 k5 hb2 hb3 hbw2
  obtain ⟨k0, k1, k2, k3, k4, k5⟩ := box6 (m := m) HI3.out
  go_wp2_with fail
  refine (G1.out _ HC3.out).mono ?_
  rintro e w4 ⟨A2, c2, rfl, ha2, hn2, hc2, hb4⟩
  have hbw4 := bthen hbw3 hb4
  have HC4 := Lib.hid (HC3.out.keep hb4)
  have HI4 := Lib.hid (is_below HI3.out hb4 (is_lt HI3.out))
  obtain ⟨bL, oL, rfl, -⟩ := move_cells ha2 HX.out
  have HL4 := Lib.hid ha2
  have hcL : L.length ≤ c2 := hc2
  have hi2 := minsert_c (some ⟨bL, oL, none⟩) c2 L m (by omega) (fun h => by cases h) hc2 _ ha2
  rw [HAG.out] at hi2
  have G2 := Lib.hid hi2
  clear k0 k1 k2 k3 k4 k5 ha2 hn2 hc2 hb4 hi2
  obtain ⟨k0, k1, k2, k3, k4, k5⟩ := box6 (m := m) HI4.out
  go_wp2_with fail
  refine G2.out.mono ?_
  rintro e w5 ⟨A5, c5, rfl, ha5, -, -, hb5⟩
  have hbw5 := bthen hbw4 hb5
  have HC5 := Lib.hid (HC4.out.keep hb5)
  have HI5 := Lib.hid (is_below HI4.out hb5 (is_lt HI4.out))
  have HL5 := Lib.hid (HL4.out.keep hb5)
  have HA5 := Lib.hid ha5
  have hk0' : (0 : Int) ≤ (k : Int) := by omega
  have hkl' : (k : Int) < (L.length : Int) := by omega
  have hka : decide ((k : Int) < 0) = false := decide_eq_false (by omega)
  have hkb : decide ((L.length : Int) ≤ (k : Int)) = false := decide_eq_false (by omega)
  have hkc : decide (L.length ≤ k) = false := decide_eq_false (by omega)
  clear k0 k1 k2 k3 k4 k5 ha5 hb5
  rename World => wr
  go_wp2_with fail
  refine quiet_held (fun w' => Below wr.heap.size wr w') (by kernel_rfl) (by kernel_rfl) (Below.refl _ _).drew ?_
  repeat (first
    | go_big_quiet_skip
    | (simp only [hka])
    | (simp only [hkb])
    | (simp only [hkc])
    | (go_big_quiet_want; go_big_quiet_op; go_big_quiet_on)
    | (go_big_quiet_want; apply Exists.intro; refine ⟨fun wq hq => ?_, ?_⟩; (focus (obtain ⟨b9, o9, e9, -, d0, d1, -⟩ := move_cells (HL5.out.keep hq) HX.out; cases e9; rw [HXC.out] at d0; rw [HXR.out] at d1; obtain ⟨p0, p1, p2, p3, p4, p5⟩ := box6 (m := m) (is_below HI5.out hq (is_lt HI5.out)); unfold Oper.quietAt; go_simp; all_goals (first | rfl | (refine (mmay_k (b := true) L HMAY.out rfl (by omega) (fun m hm => (HINS.out m hm).2) (HL5.out.keep hq)).mono ?_; rintro e w5 ⟨rfl, hbn⟩; exact ⟨rfl, hq.trans (hbn.mono hq.size)⟩) | (refine (rmsame_k L L (sameM_refl L) rfl rfl (by omega) (by omega) HINS.out HINS.out (HL5.out.keep hq) (HA5.out.keep hq)).mono ?_; rintro e w5 ⟨rfl, hbn⟩; exact ⟨rfl, hq.trans (hbn.mono hq.size)⟩)))); simp only [Act.put, List.setIfInBounds_toArray, List.set_cons_zero, List.set_cons_succ]; go_big_quiet_on))
  refine wpQuiet_nil ?_
  intro wx hbx
  have hbw6 := bthen hbw5 hbx
  have HCx := Lib.hid (HC5.out.keep hbx)
  have HLx := Lib.hid (HL5.out.keep hbx)
  have HIx := Lib.hid (is_below HI5.out hbx (is_lt HI5.out))
  clear hbx
  cases b with
  | false =>
    have hLl := HLF.out rfl
    have HLL := Lib.hid hLl
    clear hLl
    go_wp2_with fail
    have hsm : sameM L l = true := by rw [HLL.out]; exact sameM_refl l
    refine (rmsame_k L l hsm rfl rfl (by omega) (by omega) HINS.out HM.out HLx.out HCx.out).mono ?_
    rintro e w7 ⟨rfl, hb7⟩
    have hbw7 := bthen hbw6 hb7
    go_wp2_with fail
    refine (live13_c _).mono ?_
    rintro e w8 ⟨rfl, hb8⟩
    go_wp2_with fail
    go_ret
    exact ⟨rfl, bthen hbw7 hb8⟩
  | true =>
    have hxm := (HXM.out rfl).symm
    subst hxm
    have HXL := Lib.hid HX.out
    have HREST := Lib.hid (HLT.out rfl)
    have HRL : Hid (k + (L.length - (k + 1)) = l.length) := Lib.hid (by have := congrArg List.length HREST.out; simp at this; omega)
    have hk1 : (0 : Int) ≤ (k : Int) + 1 := by omega
    have hk2 : (k : Int) + 1 ≤ (L.length : Int) := by omega
    have hk3 : (k : Int) ≤ (c2 : Int) := by omega
    have hk4 : (k : Int) ≤ (k : Int) + 1 := by omega
    have hkw : IntKind.i64.wrap ((k : Int) + 1) = (k : Int) + 1 := IntWalk.i64_in _ (by omega)
    have hb0x : Below wx.heap.size wx (wx.alloc (.cells #[] 30)).drew := ((Below.refl _ _).alloc (Nat.le_refl _) _).drew
    by_cases hck : c2 = k + 1
    · subst hck
      go_wp2_with fail
      go_region_law (first
        | (refine step_append_own rfl _ _ 22 rfl wx.heap.size 30 i0 _ 6 56 Try.underlying22 hi hz0 hz1 hz2 rfl (by decide) (.slice (some ⟨wx.heap.size, 0, none⟩) 0 0) 0 [] rfl (made6d wx.heap.size wx (Nat.le_refl _)) ⟨bL, oL, none⟩ k _ (mvs (L.take k)) rfl (by rw [mvs_len, List.length_take]; omega) (at_news (at_takeM (HLx.out.keep ((Below.refl _ _).alloc (Nat.le_refl _) _).drew) k)) (mvs_one _) (by unfold maxLen; omega) (by omega) (by simp <;> omega) ?_; intro v1 x1 hown1 hgrow1; have hb1 := below_own2 hb0x hb0x.size (made6d wx.heap.size wx (Nat.le_refl _)) hgrow1)
        | (refine step_append_own rfl _ _ 22 rfl wx.heap.size 30 i0 _ 6 56 Try.underlying22 hi hz0 hz1 hz2 rfl (by decide) _ _ _ rfl hown1 _ _ _ [] rfl (by simp) (fun j hj => by simp) (fun u hu => by simp at hu) (by unfold maxLen; omega) (by omega) hb1.size ?_; intro v2 x2 hown2 hgrow2; have hb2 := below_own2 hb1 hb1.size hown1 hgrow2))
      all_goals
        have hown := own_head6 (m := l.length) (ys := mvs l) hown2 (by have := HRL.out; omega) (by rw [← HREST.out, mvs_append]; first | done | (rw [List.drop_of_length_le (by omega)]; rfl))
        obtain ⟨A3, c3, rfl, hat3, -, -⟩ := own_at hown
        have hbw7 := bthen hbw6 hb2
        have HA3 := Lib.hid hat3
        have HLy := Lib.hid (HLx.out.keep hb2)
        have HCy := Lib.hid (HCx.out.keep hb2)
        have HIy := Lib.hid (is_below HIx.out hb2 (is_lt HIx.out))
        clear hown hown1 hown2 hgrow1 hgrow2 hat3 hb1 hb2 hb0x hbw6
        rename World => wr
        go_wp2_with fail
        simp only [Act.put, List.getElem_toArray, List.getElem_cons_succ, List.getElem_cons_zero, List.setIfInBounds_toArray, List.set_cons_zero, List.set_cons_succ]
        refine quiet_held (fun w' => Below wr.heap.size wr w') (by kernel_rfl) (by kernel_rfl) (Below.refl _ _).drew ?_
        repeat (first
          | go_big_quiet_skip
          | (go_big_quiet_want; go_big_quiet_op; go_big_quiet_on)
          | (go_big_quiet_want; apply Exists.intro; refine ⟨fun wq hq => ?_, ?_⟩; (focus (obtain ⟨b9, o9, e9, -, d0, d1, d2, d3, d4, d5⟩ := move_cells (HLy.out.keep hq) HXL.out; cases e9; obtain ⟨p0, p1, p2, p3, p4, p5⟩ := box6 (m := m) (is_below HIy.out hq (is_lt HIy.out)); unfold Oper.quietAt; go_simp; all_goals (first | rfl | (with_reducible refine (rmalike_k (alikeM_refl m) HM2.out.1 HM2.out.1 _).mono ?_; rintro e w5 ⟨rfl, hbn⟩; exact ⟨rfl, hq.trans (hbn.mono hq.size)⟩) | (refine (rmsame_k l l (sameM_refl l) rfl rfl (by omega) (by omega) HM.out HM.out (HA3.out.keep hq) (HCy.out.keep hq)).mono ?_; rintro e w5 ⟨rfl, hbn⟩; exact ⟨rfl, hq.trans (hbn.mono hq.size)⟩) | (refine (live13_c _).mono ?_; rintro e w5 ⟨rfl, hbn⟩; exact ⟨rfl, hq.trans (hbn.mono hq.size)⟩)))); simp only [Act.put, List.setIfInBounds_toArray, List.set_cons_zero, List.set_cons_succ]; go_big_quiet_on))
        refine wpQuiet_nil ?_
        intro wx hbx
        go_wp2_with fail
        go_ret
        exact ⟨rfl, bthen hbw7 hbx⟩
    · have hck0 : ¬ c2 = k + 1 := hck
      clear hck
      go_wp2_with fail
      go_region_law (first
        | (refine step_append_own rfl _ _ 22 rfl wx.heap.size 30 i0 _ 6 56 Try.underlying22 hi hz0 hz1 hz2 rfl (by decide) (.slice (some ⟨wx.heap.size, 0, none⟩) 0 0) 0 [] rfl (made6d wx.heap.size wx (Nat.le_refl _)) ⟨bL, oL, none⟩ k _ (mvs (L.take k)) rfl (by rw [mvs_len, List.length_take]; omega) (at_news (at_takeM (HLx.out.keep ((Below.refl _ _).alloc (Nat.le_refl _) _).drew) k)) (mvs_one _) (by unfold maxLen; omega) (by omega) (by simp <;> omega) ?_; intro v1 x1 hown1 hgrow1; have hb1 := below_own2 hb0x hb0x.size (made6d wx.heap.size wx (Nat.le_refl _)) hgrow1)
        | (refine step_append_own rfl _ _ 22 rfl wx.heap.size 30 i0 _ 6 56 Try.underlying22 hi hz0 hz1 hz2 rfl (by decide) _ _ _ rfl hown1 ⟨bL, oL + (k + 1) * 6, none⟩ (L.length - (k + 1)) _ (mvs (L.drop (k + 1))) rfl (by rw [mvs_len, List.length_drop]) (at_news (at_dropM (HLx.out.keep hb1) (k + 1))) (mvs_one _) (by unfold maxLen; omega) (by omega) hb1.size ?_; intro v2 x2 hown2 hgrow2; have hb2 := below_own2 hb1 hb1.size hown1 hgrow2))
      all_goals
        have hown := own_head6 (m := l.length) (ys := mvs l) hown2 (by have := HRL.out; omega) (by rw [← HREST.out, mvs_append]; rfl)
        obtain ⟨A3, c3, rfl, hat3, -, -⟩ := own_at hown
        have hbw7 := bthen hbw6 hb2
        have HA3 := Lib.hid hat3
        have HLy := Lib.hid (HLx.out.keep hb2)
        have HCy := Lib.hid (HCx.out.keep hb2)
        have HIy := Lib.hid (is_below HIx.out hb2 (is_lt HIx.out))
        clear hown hown1 hown2 hgrow1 hgrow2 hat3 hb1 hb2 hb0x hbw6
        rename World => wr
        go_wp2_with fail
        simp only [Act.put, List.getElem_toArray, List.getElem_cons_succ, List.getElem_cons_zero, List.setIfInBounds_toArray, List.set_cons_zero, List.set_cons_succ]
        refine quiet_held (fun w' => Below wr.heap.size wr w') (by kernel_rfl) (by kernel_rfl) (Below.refl _ _).drew ?_
        repeat (first
          | go_big_quiet_skip
          | (go_big_quiet_want; go_big_quiet_op; go_big_quiet_on)
          | (go_big_quiet_want; apply Exists.intro; refine ⟨fun wq hq => ?_, ?_⟩; (focus (obtain ⟨b9, o9, e9, -, d0, d1, d2, d3, d4, d5⟩ := move_cells (HLy.out.keep hq) HXL.out; cases e9; obtain ⟨p0, p1, p2, p3, p4, p5⟩ := box6 (m := m) (is_below HIy.out hq (is_lt HIy.out)); unfold Oper.quietAt; go_simp; all_goals (first | rfl | (with_reducible refine (rmalike_k (alikeM_refl m) HM2.out.1 HM2.out.1 _).mono ?_; rintro e w5 ⟨rfl, hbn⟩; exact ⟨rfl, hq.trans (hbn.mono hq.size)⟩) | (refine (rmsame_k l l (sameM_refl l) rfl rfl (by omega) (by omega) HM.out HM.out (HA3.out.keep hq) (HCy.out.keep hq)).mono ?_; rintro e w5 ⟨rfl, hbn⟩; exact ⟨rfl, hq.trans (hbn.mono hq.size)⟩) | (refine (live13_c _).mono ?_; rintro e w5 ⟨rfl, hbn⟩; exact ⟨rfl, hq.trans (hbn.mono hq.size)⟩)))); simp only [Act.put, List.setIfInBounds_toArray, List.set_cons_zero, List.set_cons_succ]; go_big_quiet_on))
        refine wpQuiet_nil ?_
        intro wx hbx
        go_wp2_with fail
        go_ret
        exact ⟨rfl, bthen hbw7 hbx⟩
theorem walk (A : Option Addr) (cap : Nat) (l : List Mv) (m : Mv) (hA : A = none → cap = 0) (hcap : l.length ≤ cap) (hl : l.length ≤ maxLen) (hM : Moves_ l) (hm1 : rk (mw m) < 18446744073709551616) (hm2 : (nm (mw m)).length ≤ maxLen) (w : World) (hc : At w w.heap.size A (mvs l)) :
    Calls Try.prog 5 #[.slice A l.length cap, .agg #[.int .i64 (mc m), .int .i64 (mr m), .int .i64 (pa (mw m)), .int .i64 (ch (mw m)), .string (ba (nm (mw m))), .float .f64 (rk (mw m))]] w fun e w' => e = .returned (.bool true) ∧ Below w.heap.size w w' := by
  by_cases h : (fewM l 60 && (decide ((nm (mw m)).length ≤ 100) && (mayM l && oneM m))) = true
  · simp only [Bool.and_eq_true, decide_eq_true_eq] at h
    obtain ⟨g0, g1, g2, g3⟩ := h
    exact main A cap l m hA hcap hl hM hm1 hm2 g0 g1 g2 g3 w hc
  · exact live_in A cap l m hA hcap hl hM hm1 hm2 (by simpa using h) w hc
end movesMay
end Go.Proofs.Ytihaiabkjmmmoaa
