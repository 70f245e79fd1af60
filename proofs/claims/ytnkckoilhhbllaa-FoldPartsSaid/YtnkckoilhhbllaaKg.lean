/-
  The walk of FoldParts.
-/
import Derived.Test.YtnkckoilhhbllaaKz
import Derived.Test.YtnkckoilhhbllaaUj
namespace Go.Proofs.Ytnkckoilhhbllaa
open Go.RowKit Go.IntWalk
open Gr
set_option maxRecDepth 100000
attribute [local go_sem] Oper.semAt_some

/-- the moves that are not barred -/
def goodP : List Rw → List Mv → List Mv
  | _, [] => []
  | l, m :: t => if barP l m then goodP (doP l m) t else m :: goodP (doP l m) t
theorem allP_good : ∀ (l : List Rw) (ms : List Mv), allP l (goodP l ms) = allP l ms
  | _, [] => rfl
  | l, m :: t => by
    rw [goodP, allP_cons]
    cases hb : barP l m with
    | true =>
      have hd : doP l m = l := by unfold doP; rw [hb]; rfl
      rw [if_pos rfl, hd, allP_good l t]
    | false => rw [if_neg Bool.false_ne_true, allP_cons, allP_good (doP l m) t]
theorem goodP_len : ∀ (l : List Rw) (ms : List Mv), (goodP l ms).length ≤ ms.length
  | _, [] => Nat.le_refl _
  | l, m :: t => by
    have := goodP_len (doP l m) t
    rw [goodP]
    split <;> simp <;> omega
theorem goodP_app : ∀ (l : List Rw) (a b : List Mv), goodP l (a ++ b) = goodP l a ++ goodP (allP l a) b
  | _, [], _ => rfl
  | l, m :: t, b => by
    rw [List.cons_append, goodP, goodP, goodP_app (doP l m) t b, allP_cons]
    split <;> rfl
theorem goodP_take {l : List Rw} {ms : List Mv} {k : Nat} {m : Mv} (h : ms[k]? = some m) : goodP l (ms.take (k + 1)) = goodP l (ms.take k) ++ (if barP (allP l (ms.take k)) m then [] else [m]) := by
  obtain ⟨hk, he⟩ := List.getElem?_eq_some_iff.1 h
  rw [List.take_succ_eq_append_getElem hk, goodP_app, he]; rfl
theorem own_none' {w : World} {B n size : Nat} {e : TypeId} {v : Value} {xs : List Value} (h : w.ownsRow B e size v n xs) : ∀ A cap, v = .slice A n cap → A = none → cap = 0 := fun A cap hv hA => by
  subst hv
  exact own_none h hA
theorem at_grownM {w w1 w2 : World} {A A1 : Option Addr} {l l1 : List Rw} {N base n : Nat} {v : Value} {xs : List Value} (hc : At w w.heap.size A (tvs l)) (h1 : At w1 w1.heap.size A1 (tvs l1)) (hd : (A1 = A ∧ l1 = l) ∨ Rowy N A1 w1)
    (hown : w1.ownsRow base 27 6 v n xs) (hb : w.heap.size ≤ base) (hg : w1.grownBy w2 v.ownBlock) : At w2 w2.heap.size A1 (tvs l1) ∧ (∀ M, Rowy M A1 w1 → Rowy M A1 w2) := by
  have hne : ∀ b, (∃ cs p, w1.heap[b]? = some (.cells cs 43 p)) ∨ b < w.heap.size → some b ≠ v.ownBlock := fun b hb' he => by
    rcases hb' with ⟨cs, p, h⟩ | h
    · rcases hown.2 with ⟨hz, _⟩ | ⟨g, c2, cur, hv, _, hg2, _⟩
      · rw [hz] at he; simp [Value.ownBlock] at he
      · rw [hv] at he
        have : b = g := by simpa [Value.ownBlock] using he
        subst this
        rw [h] at hg2
        simp at hg2
    · have := (hown.lt b he.symm).1
      omega
  refine ⟨fun i u hu => ?_, fun M hM a ha => ?_⟩
  · obtain ⟨b, off, hA, hlt, hcell⟩ := h1 i u hu
    have hx : some b ≠ v.ownBlock := by
      rcases hd with ⟨rfl, rfl⟩ | hf
      · obtain ⟨b', off', hA', hlt', _⟩ := hc i u hu
        rw [hA] at hA'
        cases hA'
        exact hne b (.inr hlt')
      · exact hne b (.inl (hf _ hA).2)
    exact ⟨b, off, hA, Nat.lt_of_lt_of_le hlt hg.size, (cell_same (hg.block b hlt hx) _).trans hcell⟩
  · obtain ⟨h1', cs, p, h2⟩ := hM a ha
    exact ⟨h1', cs, p, (hg.block _ (Array.getElem?_eq_some_iff.1 h2).1 (hne _ (.inl ⟨cs, p, h2⟩))).trans h2⟩

namespace foldParts
set_option maxHeartbeats 16000000 in
theorem walk (A1 A2 A3 : Option Addr) (c1 c2 c3 : Nat) (l : List Rw) (ms os : List Mv) (hA1 : A1 = none → c1 = 0) (hc1 : l.length ≤ c1) (hl : l.length ≤ maxLen) (hM : Rows_ l) (hA2 : A2 = none → c2 = 0) (hc2 : ms.length ≤ c2) (hml : ms.length ≤ maxLen) (hMM : Moves_ ms) (hA3 : A3 = none → c3 = 0) (hc3 : os.length ≤ c3) (hol : os.length ≤ maxLen) (hOM : Moves_ os)
    (w : World) (ha1 : At w w.heap.size A1 (tvs l)) (ha2 : At w w.heap.size A2 (mvs ms)) (ha3 : At w w.heap.size A3 (mvs os)) :
    Calls Try.prog 6 #[.slice A1 l.length c1, .slice A2 ms.length c2, .slice A3 os.length c3] w fun e w' => e = .returned (.bool true) ∧ Below w.heap.size w w' := by
  have H1 := Lib.hid ha1
  have H2 := Lib.hid ha2
  have H3 := Lib.hid ha3
  have HA := Lib.hid hA1
  have HA2 := Lib.hid hA2
  have HA3 := Lib.hid hA3
  have HM := Lib.hid hM
  have HMM := Lib.hid hMM
  have HOM := Lib.hid hOM
  have HL := Lib.hid hl
  have HML := Lib.hid hml
  have HOL := Lib.hid hol
  unfold maxLen at hl
  clear ha1 ha2 ha3 hA1 hA2 hA3 hM hMM hOM hml hol
  by_cases hl40 : 40 < l.length
  · have hlz : (40 : Int) < (l.length : Int) := by omega
    have hd : decide ((40 : Int) < (l.length : Int)) = true := decide_eq_true hlz
    have hd2 : decide (40 < l.length) = true := decide_eq_true hl40
    go_enter Try.func6, Try.ntmps6
    go_wp2_with fail
    refine (live14_c _).mono ?_
    rintro e w2 ⟨rfl, hb⟩
    go_wp2_with fail
    go_ret
    exact ⟨rfl, hb⟩
  have hlz : ¬ (40 : Int) < (l.length : Int) := by omega
  have hd : decide ((40 : Int) < (l.length : Int)) = false := decide_eq_false hlz
  have hd2 : decide (40 < l.length) = false := decide_eq_false hl40
  cases hf : few l with
  | false =>
    have HF := Lib.hid hf
    clear hf
    go_enter Try.func6, Try.ntmps6
    go_wp2_with fail
    refine (few_c A1 c1 l HL.out _ H1.out).mono ?_
    rintro e w1 ⟨rfl, rfl⟩
    rw [HF.out]
    go_wp2_with fail
    refine (live14_c _).mono ?_
    rintro e w2 ⟨rfl, hb⟩
    go_wp2_with fail
    go_ret
    exact ⟨rfl, hb⟩
  | true =>
    have HF := Lib.hid hf
    clear hf
    cases hg : fewM ms 40 with
    | false =>
      have HG := Lib.hid hg
      clear hg
      go_enter Try.func6, Try.ntmps6
      go_wp2_with fail
      refine (few_c A1 c1 l HL.out _ H1.out).mono ?_
      rintro e w1 ⟨rfl, rfl⟩
      rw [HF.out]
      go_wp2_with fail
      refine (rmfew_c A2 c2 ms 40 HML.out (by decide) _ H2.out).mono ?_
      rintro e w1 ⟨rfl, rfl⟩
      rw [HG.out]
      go_wp2_with fail
      refine (live14_c _).mono ?_
      rintro e w2 ⟨rfl, hb⟩
      go_wp2_with fail
      go_ret
      exact ⟨rfl, hb⟩
    | true =>
      obtain ⟨hm40, -⟩ := fewM_in hg
      have HG := Lib.hid hg
      clear hg
      cases hk : fewM os 40 with
      | false =>
        have HK := Lib.hid hk
        clear hk
        go_enter Try.func6, Try.ntmps6
        go_wp2_with fail
        refine (few_c A1 c1 l HL.out _ H1.out).mono ?_
        rintro e w1 ⟨rfl, rfl⟩
        rw [HF.out]
        go_wp2_with fail
        refine (rmfew_c A2 c2 ms 40 HML.out (by decide) _ H2.out).mono ?_
        rintro e w1 ⟨rfl, rfl⟩
        rw [HG.out]
        go_wp2_with fail
        refine (rmfew_c A3 c3 os 40 HOL.out (by decide) _ H3.out).mono ?_
        rintro e w1 ⟨rfl, rfl⟩
        rw [HK.out]
        go_wp2_with fail
        refine (live14_c _).mono ?_
        rintro e w2 ⟨rfl, hb⟩
        go_wp2_with fail
        go_ret
        exact ⟨rfl, hb⟩
      | true =>
        obtain ⟨ho40, -⟩ := fewM_in hk
        have HK := Lib.hid hk
        clear hk
        go_enter Try.func6, Try.ntmps6
        go_wp2_with fail
        refine (few_c A1 c1 l HL.out _ H1.out).mono ?_
        rintro e w1 ⟨rfl, rfl⟩
        rw [HF.out]
        go_wp2_with fail
        refine (rmfew_c A2 c2 ms 40 HML.out (by decide) _ H2.out).mono ?_
        rintro e w1 ⟨rfl, rfl⟩
        rw [HG.out]
        go_wp2_with fail
        refine (rmfew_c A3 c3 os 40 HOL.out (by decide) _ H3.out).mono ?_
        rintro e w1 ⟨rfl, rfl⟩
        rw [HK.out]
        have hb0 : Below w.heap.size w (w.alloc (.cells #[] 27)) := (Below.refl _ _).alloc (Nat.le_refl _) _
        go_wp2_with (at_builtin; refine append_optM _ rfl _ _ rfl w.heap.size _ 0 [] rfl (made0M w.heap.size w (Nat.le_refl _)) A2 c2 ms rfl HA2.out hc2 (w.heap.size + 1) ((H2.out.keep hb0).mono (by simp)) (by omega) (by simp) ?_)
        intro v2 w2 hown2 hgrow2
        have hb2 := below_own hb0 (by simp) (made0M w.heap.size w (Nat.le_refl _)) hgrow2
        obtain ⟨Av, cv, rfl, -, -, -⟩ := own_at hown2
        have HO2 := Lib.hid hown2
        have HB2 := Lib.hid hb2
        clear hown2 hgrow2 hb2 hb0
        go_wp2_with (at_builtin; refine append_optM _ rfl _ _ rfl w.heap.size _ _ _ rfl HO2.out A3 c3 os rfl HA3.out hc3 w2.heap.size (H3.out.keep HB2.out) (by omega) HB2.out.size ?_)
        intro v3 w3 hown3 hgrow3
        have hb3 := below_own HB2.out HB2.out.size HO2.out hgrow3
        obtain ⟨all, hall⟩ : ∃ all, ms ++ os = all := ⟨_, rfl⟩
        have hal : ms.length + os.length = all.length := by rw [← hall, List.length_append]
        rw [hall, hal] at hown3
        have hal80 : all.length ≤ 80 := by omega
        have HALL := Lib.hid hall
        have HAM := Lib.hid (show Moves_ all by rw [← hall]; exact fun m hm => (List.mem_append.1 hm).elim (HMM.out m) (HOM.out m))
        obtain ⟨A4, c4, rfl, p4, -, k4⟩ := own_at hown3
        have P4 := Lib.hid p4
        have HB3 := Lib.hid hb3
        clear hown3 hgrow3 hb3 hall hal p4
        go_wp2_with fail
        refine (mall_c A1 A4 c1 c4 l all (by omega) HA.out hc1 (allP_above (by omega)) _ (H1.out.keep HB3.out) P4.out).mono ?_
        rintro e w4 ⟨B4, d4, rfl, p5, -, -, hb4⟩
        have HB4 := Lib.hid (HB3.out.trans (hb4.mono HB3.out.size))
        have P5 := Lib.hid p5
        have P4b := Lib.hid (P4.out.keep hb4)
        clear hb4 p5
        go_wp2_with fail
        refine (mall_c A1 A2 c1 c2 l ms (by omega) HA.out hc1 (allP_above (by omega)) _ (H1.out.keep HB4.out) (H2.out.keep HB4.out)).mono ?_
        rintro e w5 ⟨B5, d5, rfl, p6, n6, k6, hb5⟩
        have HB5 := Lib.hid (HB4.out.trans (hb5.mono HB4.out.size))
        have P6 := Lib.hid p6
        have P5b := Lib.hid (P5.out.keep hb5)
        have P4c := Lib.hid (P4b.out.keep hb5)
        have HN6 := Lib.hid n6
        clear hb5 p6 n6
        have hl6 := allP_len l ms
        have HXE := Lib.hid (show allP (allP l ms) os = allP l all by rw [← allP_app, HALL.out])
        obtain ⟨M, hM6⟩ : ∃ M, allP l ms = M := ⟨_, rfl⟩
        rw [hM6] at P6 k6 hl6 HXE ⊢
        clear hM6
        go_wp2_with fail
        refine (mall_c B5 A3 d5 c3 M os (by omega) HN6.out k6 (allP_above (by omega)) _ P6.out (H3.out.keep HB5.out)).mono ?_
        rintro e w6 ⟨B6, d6, rfl, p7, -, -, hb6⟩
        rw [HXE.out] at p7 ⊢
        have HB6 := Lib.hid (HB5.out.trans (hb6.mono HB5.out.size))
        have P7 := Lib.hid p7
        have P5c := Lib.hid (P5b.out.keep hb6)
        have P4d := Lib.hid (P4c.out.keep hb6)
        clear hb6 p7
        have hlx : (allP l all).length ≤ 120 := by have := allP_len l all; omega
        have HRX := Lib.hid (allP_rows HM.out HAM.out)
        obtain ⟨X, hX⟩ : ∃ X, allP l all = X := ⟨_, rfl⟩
        have HX := Lib.hid hX
        rw [hX] at P7 P5c hlx HRX ⊢
        clear hX
        go_wp2_with fail
        refine (rsame_t (by unfold maxLen; omega) HRX.out P5c.out P7.out).mono ?_
        rintro e w7 ⟨rfl, hb7⟩
        have HB7 := Lib.hid (HB6.out.trans (hb7.mono HB6.out.size))
        have P5d := Lib.hid (P5c.out.keep hb7)
        have P4e := Lib.hid (P4d.out.keep hb7)
        have H17 := Lib.hid (H1.out.keep HB7.out)
        clear hb7
        go_wp2_with fail
        go_loopw [9, 10, 11] (fun v sl i wr => ∃ (k : Nat) (A' : Option Addr) (cap' : Nat), i = .int .i64 (k : Int) ∧ k ≤ all.length ∧ sl = .slice A' (allP l (all.take k)).length cap' ∧ At wr wr.heap.size A' (tvs (allP l (all.take k))) ∧ (A' = none → cap' = 0) ∧ (allP l (all.take k)).length ≤ cap' ∧ ((A' = A1 ∧ allP l (all.take k) = l) ∨ Rowy w7.heap.size A' wr) ∧
            wr.ownsRow w7.heap.size 27 6 v (goodP l (all.take k)).length (mvs (goodP l (all.take k))) ∧ Below w7.heap.size w7 wr)
          (fun _ _ i _ => all.length - (intOf i).toNat)
        case atStart => exact ⟨0, A1, c1, rfl, Nat.zero_le _, rfl, H17.out, HA.out, hc1, .inl ⟨rfl, rfl⟩, World.ownsRow_nil _ _ _ _, Below.refl _ _⟩
        case round =>
          obtain ⟨k, A', cap', rfl, hk, rfl, hat, hA', hcp, hd, hown, hbw⟩ := hrel
          obtain ⟨Ag, cg, rfl, -, -, -⟩ := own_at hown
          have HAT := Lib.hid hat
          have HA' := Lib.hid hA'
          have HBW := Lib.hid hbw
          have HD := Lib.hid hd
          have HOWN := Lib.hid hown
          clear hat hA' hbw hd hown
          by_cases hlt : k < all.length
          · obtain ⟨m, hm⟩ := some_at hlt
            have hlk : (allP l (all.take k)).length ≤ 100000 := by have := allP_len l (all.take k); rw [List.length_take] at this; omega
            have hgl : (goodP l (all.take k)).length ≤ 80 := by have := goodP_len l (all.take k); rw [List.length_take] at this; omega
            obtain ⟨b0, o0, rfl, -, e0, e1, e2, e3, e4, e5⟩ := move_cells (P4e.out.keep HBW.out) hm
            have hk0 : (0 : Int) ≤ (k : Int) := by omega
            have hkl : (k : Int) < (all.length : Int) := by omega
            have HGT := Lib.hid (goodP_take (l := l) hm)
            have HST := Lib.hid (allP_take (l := l) hm)
            have HMM2 := Lib.hid hm
            obtain ⟨L, hL⟩ : ∃ L, allP l (all.take k) = L := ⟨_, rfl⟩
            obtain ⟨N, hN⟩ : ∃ N, goodP l (all.take k) = N := ⟨_, rfl⟩
            have hat := HAT.out
            have hd := HD.out
            have hown := HOWN.out
            rw [hL] at hcp hlk hat hd HST HGT ⊢
            rw [hN] at hown hgl HGT ⊢
            have HD2 := Lib.hid hd
            have HAT2 := Lib.hid hat
            have HO := Lib.hid hown
            clear hm hL hN HAT hd HD hown HOWN hat
            cases hq : barP L m with
            | true =>
              have HQ := Lib.hid hq
              clear hq
              go_wp2_with fail
              refine (mbarred_k HQ.out hlk HAT2.out).mono ?_
              rintro e w8 ⟨rfl, hb8⟩
              have hbw8 := HBW.out.trans (hb8.mono HBW.out.size)
              have hown8 := below_ownI HO.out hb8
              have HAT8 := Lib.hid (HAT2.out.keep hb8)
              have HD8 := Lib.hid (HD2.out.imp id fun h => h.keep hb8)
              have HO8 := Lib.hid hown8
              obtain ⟨x1, y1, z1, -, e0, e1, e2, e3, e4, e5⟩ := move_cells (P4e.out.keep hbw8) HMM2.out
              cases z1
              have HBW8 := Lib.hid hbw8
              clear hb8 hown8 hbw8
              go_wp2_with fail
              show Calls _ _ #[_, mv m] _ _
              refine (mdo_g A' cap' L m hlk HA'.out hcp (fun a b W h => above_any hlk A' cap' a b W h) _ HAT8.out).mono ?_
              rintro e w10 ⟨A3', cap3', rfl, hat3, hn3', hcp3, hb9, hd3⟩
              have hd4 : (A3' = A1 ∧ doP L m = l) ∨ Rowy w7.heap.size A3' w10 := by
                rcases hd3 with ⟨rfl, h2⟩ | h
                · have hdl : doP L m = L := by unfold doP; rw [show barP L m = true by simpa using h2]; rfl
                  rcases HD8.out with ⟨rfl, h3⟩ | h3
                  · exact .inl ⟨rfl, by rw [hdl, h3]⟩
                  · exact .inr (h3.keep hb9)
                · exact .inr (h.low HBW8.out.size)
              have HAT3 := Lib.hid hat3
              have HN3 := Lib.hid hn3'
              have HD4 := Lib.hid hd4
              clear e0 e1 e2 e3 e4 e5 hat3 hn3' hd3 hd4
              go_wp2_with fail
              go_roundw
              case rel =>
                refine ⟨k + 1, A3', cap3', by go_num, by omega, by rw [HST.out], by rw [HST.out]; exact HAT3.out, HN3.out, by rw [HST.out]; exact hcp3, by rw [HST.out]; exact HD4.out, ?_, HBW8.out.trans (hb9.mono HBW8.out.size)⟩
                rw [HGT.out, HQ.out, if_pos rfl, List.append_nil]
                exact below_ownI HO8.out hb9
              case measure => simp only [intOf]; omega
            | false =>
              have HQ := Lib.hid hq
              clear hq
              go_wp2_with fail
              refine (mbarred_k HQ.out hlk HAT2.out).mono ?_
              rintro e w8 ⟨rfl, hb8⟩
              have hbw8 := HBW.out.trans (hb8.mono HBW.out.size)
              have hal8 : Below w8.heap.size w8 (w8.alloc (.cells #[.int .i64 (mc m), .int .i64 (mr m), .int .i64 (pa (mw m)), .int .i64 (ch (mw m)), .string (ba (nm (mw m))), .float .f64 (rk (mw m))] 27)) := (Below.refl _ _).alloc (Nat.le_refl _) _
              have hown8 := below_ownI (below_ownI HO.out hb8) hal8
              have HAT8 := Lib.hid ((HAT2.out.keep hb8).keep hal8)
              have HD8 := Lib.hid ((HD2.out.imp id fun h => h.keep hb8).imp id fun h : Rowy w7.heap.size A' w8 => h.keep hal8)
              have HO8 := Lib.hid hown8
              obtain ⟨x1, y1, z1, -, e0, e1, e2, e3, e4, e5⟩ := move_cells (P4e.out.keep hbw8) HMM2.out
              cases z1
              have HBW8 := Lib.hid (hbw8.trans (hal8.mono hbw8.size))
              have hbs := hbw8.size
              clear hb8 hown8 hbw8 hal8
              go_wp2_with (at_builtin; refine append_optM _ rfl _ _ rfl w7.heap.size _ _ _ rfl HO8.out (some ⟨w8.heap.size, 0, none⟩) 1 [m] rfl (fun h => by cases h) (by simp) (w8.heap.size + 1) (at_boxM w8 m) (by simp <;> omega) (by simp <;> omega) ?_)
              intro v9 w9 hown9 hgrow
              have hb9 := below_own HBW8.out (by simp; omega) HO8.out hgrow
              have hg9 := at_grownM H17.out HAT8.out HD8.out HO8.out (Nat.le_refl _) hgrow
              have HO9 := Lib.hid hown9
              obtain ⟨Ag, cg, rfl, -, -, -⟩ := own_at hown9
              have HAT9 := Lib.hid hg9.1
              have HD9 := Lib.hid (HD8.out.imp id fun h => hg9.2 _ h)
              have HBW9 := Lib.hid hb9
              obtain ⟨x1, y1, z1, -, e0, e1, e2, e3, e4, e5⟩ := move_cells (P4e.out.keep hb9) HMM2.out
              cases z1
              clear hown9 hgrow hg9 hb9
              go_wp2_with fail
              show Calls _ _ #[_, mv m] _ _
              refine (mdo_g A' cap' L m hlk HA'.out hcp (fun a b W h => above_any hlk A' cap' a b W h) _ HAT9.out).mono ?_
              rintro e w10 ⟨A3', cap3', rfl, hat3, hn3', hcp3, hb9, hd3⟩
              have hd4 : (A3' = A1 ∧ doP L m = l) ∨ Rowy w7.heap.size A3' w10 := by
                rcases hd3 with ⟨rfl, h2⟩ | h
                · have hdl : doP L m = L := by unfold doP; rw [show barP L m = true by simpa using h2]; rfl
                  rcases HD9.out with ⟨rfl, h3⟩ | h3
                  · exact .inl ⟨rfl, by rw [hdl, h3]⟩
                  · exact .inr (h3.keep hb9)
                · exact .inr (h.low HBW9.out.size)
              have HAT3 := Lib.hid hat3
              have HN3 := Lib.hid hn3'
              have HD4 := Lib.hid hd4
              clear e0 e1 e2 e3 e4 e5 hat3 hn3' hd3 hd4
              go_wp2_with fail
              go_roundw
              case rel =>
                refine ⟨k + 1, A3', cap3', by go_num, by omega, by rw [HST.out], by rw [HST.out]; exact HAT3.out, HN3.out, by rw [HST.out]; exact hcp3, by rw [HST.out]; exact HD4.out, ?_, HBW9.out.trans (hb9.mono HBW9.out.size)⟩
                rw [HGT.out, HQ.out, if_neg Bool.false_ne_true, List.length_append]
                exact below_ownI HO9.out hb9
              case measure => simp only [intOf]; omega
          · obtain rfl : k = all.length := by omega
            have hat := HAT.out
            have hown := HOWN.out
            rw [List.take_length, HX.out] at hat hcp ⊢
            rw [List.take_length] at hown
            have HGA := Lib.hid (show allP l (goodP l all) = X by rw [allP_good, HX.out])
            have hgl := goodP_len l all
            rw [List.take_length] at *
            obtain ⟨N, hN⟩ : ∃ N, goodP l all = N := ⟨_, rfl⟩
            rw [hN] at hown hgl HGA ⊢
            have HAT2 := Lib.hid hat
            obtain ⟨A9, d9, z9, p9, -, k9⟩ := own_at hown
            cases z9
            have P9 := Lib.hid p9
            have HBZ := Lib.hid (HB7.out.trans (HBW.out.mono HB7.out.size))
            have P5e := Lib.hid (P5d.out.keep HBW.out)
            clear hN hat hown HAT HOWN p9
            go_wp2_with fail
            refine (rsame_t (by unfold maxLen; omega) HRX.out HAT2.out P5e.out).mono ?_
            rintro e w8 ⟨rfl, hb8⟩
            have HB8 := Lib.hid (HBZ.out.trans (hb8.mono HBZ.out.size))
            have P5f := Lib.hid (P5e.out.keep hb8)
            have P9b := Lib.hid (P9.out.keep hb8)
            clear hb8
            go_wp2_with fail
            refine (mall_c A1 Ag c1 cg l N (by omega) HA.out hc1 (allP_above (by omega)) _ (H1.out.keep HB8.out) P9b.out).mono ?_
            rintro e w9 ⟨B9, f9, rfl, q9, -, -, hb9⟩
            rw [HGA.out] at q9 ⊢
            have HB9 := Lib.hid (HB8.out.trans (hb9.mono HB8.out.size))
            have Q9 := Lib.hid q9
            have P5g := Lib.hid (P5f.out.keep hb9)
            clear hb9 q9
            go_wp2_with fail
            refine (rsame_t (by unfold maxLen; omega) HRX.out Q9.out P5g.out).mono ?_
            rintro e w10 ⟨rfl, hb10⟩
            have HB10 := Lib.hid (HB9.out.trans (hb10.mono HB9.out.size))
            clear hb10
            go_wp2_with fail
            refine (live14_c _).mono ?_
            rintro e w11 ⟨rfl, hb11⟩
            go_wp2_with fail
            go_ret
            exact ⟨rfl, HB10.out.trans (hb11.mono HB10.out.size)⟩
end foldParts
end Go.Proofs.Ytnkckoilhhbllaa
