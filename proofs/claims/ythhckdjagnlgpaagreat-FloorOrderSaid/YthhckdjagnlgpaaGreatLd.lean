/-
  The walk of FloorOrder.
  Moves that come in any order come, in the program, to the same replica: for all replicas and all moves, without condition (beyond the statement's bounds it asks nothing but the document's examples).
-/
import Derived.Test.YthhckdjagnlgpaaGreatWx
import Derived.Test.YthhckdjagnlgpaaGreatVy
import Derived.ProofKit
import Derived.OpenShut
import Derived.ShutString
import Derived.ChangeOld
section
namespace Go.Proofs.YthhckdjagnlgpaaGreat
open Go.RowKit Go.IntWalk
open Gr
set_option maxRecDepth 100000
attribute [local go_sem] Oper.semAt_some
namespace floorOrder
set_option maxHeartbeats 16000000 in
theorem walk (p : Pl) (r : Rp) (pl : RpPl p r) (hlen : r.B.length ≤ maxLen ∧ r.L.length ≤ maxLen ∧ r.V.length ≤ maxLen) (rb : Rows_ r.B) (rl : Moves_ r.L) (A2 : Option Addr) (c2 : Nat) (l : List Mv) (hl : l.length ≤ maxLen) (lm : Moves_ l) (w : World) (ha : RpAt p r w) (hc : At w w.heap.size A2 (mvs l)) :
  Calls Tryz.prog 14 #[.agg #[.slice p.A1 r.B.length p.c1, .int .i64 r.fc, .int .i64 r.fr, .slice p.A2 r.L.length p.c2, .slice p.A3 r.V.length p.c3], .slice A2 l.length c2] w fun e w' => e = .returned (.bool true) ∧ Below w.heap.size w w' := by
 have S0 := Lib.hid (((Bed.start w).addP (p := p) (r := r) ha).addM (A := A2) (l := l) hc)
 obtain ⟨b0, hw⟩ : ∃ b0, b0 = w.alloc (.cells #[.slice p.A1 r.B.length p.c1, .int .i64 r.fc, .int .i64 r.fr, .slice p.A2 r.L.length p.c2, .slice p.A3 r.V.length p.c3] 55) := ⟨_, rfl⟩
 have hb : Below w.heap.size w b0 := by rw [hw]; exact (Below.refl _ _).alloc (Nat.le_refl _) _
 have hz0 : w.heap.size = w.heap.size := by rfl
 have S1 := Lib.hid ((S0.out.step hb).addB (g := w.heap.size) (t := 55) (vs := [.slice p.A1 r.B.length p.c1, .int .i64 r.fc, .int .i64 r.fr, .slice p.A2 r.L.length p.c2, .slice p.A3 r.V.length p.c3]) (by rw [hw, ← hz0]; exact is_new w 55 _))
 have HWb0 := Lib.hid hw
 clear hw hb
 clear hz0
 have PLr := Lib.hid pl
 have HLEN := Lib.hid hlen
 have HRB := Lib.hid rb
 have HRL := Lib.hid rl
 have HLM := Lib.hid lm
 have HL := Lib.hid hl
 clear pl hlen rb rl lm ha hc
 obtain ⟨f, hf⟩ : ∃ b, fewF r = b := ⟨_, rfl⟩
 have Hf := Lib.hid hf
 clear hf
 have hx := (S1.out.box (.head _))
 rw [HWb0.out] at hx
 obtain ⟨⟨q0, q1, q2, q3, q4⟩, -⟩ := cells5 hx
 clear hx
 obtain ⟨g, hg⟩ : ∃ b, fewM l 20 = b := ⟨_, rfl⟩
 have Hg := Lib.hid hg
 clear hg
 go_enter Tryz.func14, Tryz.ntmps14
 go_wp2_with fail
 rw [← HWb0.out]
 refine (rffew_v Hf.out HLEN.out (S1.out.rep (.tail _ (.tail _ (.head _))))).mono ?_
 rintro e w2 ⟨rfl, hb⟩
 have S2 := Lib.hid (S1.out.step hb)
 clear q0 q1 q2 q3 q4
 clear hb
 cases f with
 | false =>
  go_wp2_with fail
  refine (live18_c _).mono ?_
  rintro e w3 ⟨rfl, hb⟩
  have S3 := Lib.hid (S2.out.step hb)
  clear hb
  go_wp2_with fail
  go_ret
  exact ⟨rfl, S3.out.bel⟩
 | true =>
 have hx := (S2.out.box (.head _))
 obtain ⟨⟨y1_0, y1_1, y1_2, y1_3, y1_4⟩, -⟩ := cells5 hx
 clear hx
 go_wp2_with fail
 refine (fewM_v (n := 20) Hg.out HL.out (by decide) (S2.out.moves (.tail _ (.head _)))).mono ?_
 rintro e w3 ⟨rfl, hw⟩
 have hb : Below w2.heap.size w2 w3 := hw ▸ Below.refl _ _
 clear hw
 have S3 := Lib.hid (S2.out.step hb)
 clear hb
 clear y1_0 y1_1 y1_2 y1_3 y1_4
 cases g with
 | false =>
  go_wp2_with fail
  refine (live18_c _).mono ?_
  rintro e w4 ⟨rfl, hb⟩
  have S4 := Lib.hid (S3.out.step hb)
  clear hb
  go_wp2_with fail
  go_ret
  exact ⟨rfl, S4.out.bel⟩
 | true =>
 have hl20 := (fewM_in Hg.out).1
 have HSZ := Lib.hid (sz_few Hf.out HRB.out HRL.out)
 obtain ⟨h, hh⟩ : ∃ b, mayF r = b := ⟨_, rfl⟩
 have Hh := Lib.hid hh
 clear hh
 have hx := (S3.out.box (.head _))
 obtain ⟨⟨y2_0, y2_1, y2_2, y2_3, y2_4⟩, -⟩ := cells5 hx
 clear hx
 go_wp2_with fail
 refine (rfmay_v Hh.out (HSZ.out.ok (by omega)) (S3.out.rep (.tail _ (.tail _ (.head _))))).mono ?_
 rintro e w4 ⟨rfl, hb⟩
 have S4 := Lib.hid (S3.out.step hb)
 clear y2_0 y2_1 y2_2 y2_3 y2_4
 clear hb
 cases h with
 | false =>
  go_wp2_with fail
  refine (live18_c _).mono ?_
  rintro e w5 ⟨rfl, hb⟩
  have S5 := Lib.hid (S4.out.step hb)
  clear hb
  go_wp2_with fail
  go_ret
  exact ⟨rfl, S5.out.bel⟩
 | true =>
 have HMR := Lib.hid (mayR_iff.1 Hh.out)
 go_wp2_with fail
 go_loopw [5, 6] (fun v i wr => ∃ (n : Nat) (F : List Mv), i = .int .i64 ((n : Int) - 1) ∧ n ≤ l.length ∧ F.length + n = l.length ∧ (∀ x ∈ F, x ∈ l) ∧ (∀ j, n ≤ j → ∀ x, l[j]? = some x → x ∈ F) ∧ (∀ i', n ≤ i' → i' < l.length → ∀ k', k' < i' → PairOk l i' k') ∧ wr.ownsRow w4.heap.size 57 6 v F.length (mvs F) ∧ Below w4.heap.size w4 wr) (fun _ i _ => (Go.RowKit.intOf i + 1).toNat)
 case atStart => exact ⟨l.length, [], rfl, Nat.le_refl _, by simp, (fun x hx => by cases hx), (fun j hj x hx => by rw [List.getElem?_eq_none hj] at hx; cases hx), (fun i' h1 h2 => absurd h2 (by omega)), World.ownsRow_nil _ _ _ _, Below.refl _ _⟩
 case round =>
  obtain ⟨n, F, rfl, hn, hFn, hFl, hcov, hpo, hown, hbw⟩ := hrel
  obtain ⟨Av, cv, rfl, hFat, -, hFc⟩ := own_at hown
  have HOWN := Lib.hid hown
  have HFL := Lib.hid hFl
  have HCOV := Lib.hid hcov
  have HPO := Lib.hid hpo
  have HSR := Lib.hid (S4.out.step hbw)
  have HFAT := Lib.hid hFat
  clear hown hFl hcov hpo hFat
  cases n with
  | succ k =>
   have hkk : (((k + 1 : Nat) : Int) - 1) = (k : Int) := by omega
   rw [hkk]
   obtain ⟨x, hx⟩ := some_at (show k < l.length by omega)
   have hmat := (HSR.out.moves (.tail _ (.head _)))
   obtain ⟨b2, o2, e2, -, d0, d1, d2, d3, d4, d5⟩ := move_cells hmat hx
   subst e2
   have hk0 : (0 : Int) ≤ (k : Int) := by omega
   have hkl : (k : Int) < (l.length : Int) := by omega
   have HF2 : Hid (∀ y ∈ F ++ [x], y ∈ l) := Lib.hid (fun y hy => by
    rcases List.mem_append.1 hy with h | h
    ·exact HFL.out y h
    ·rw [List.mem_singleton.1 h]; exact mem_at hx)
   have HC2 : Hid (∀ j, k ≤ j → ∀ y, l[j]? = some y → y ∈ F ++ [x]) := Lib.hid (fun j hj y hy => by
    rcases Nat.eq_or_lt_of_le hj with h | h
    ·subst h; rw [hx] at hy; cases hy; exact List.mem_append_right _ (List.mem_singleton_self _)
    ·exact List.mem_append_left _ (HCOV.out j h y hy))
   have hs1 := hbw.size
   have HX := Lib.hid hx
   clear hx hmat
   go_wp2_with (at_builtin; refine append_optM _ rfl _ _ rfl w4.heap.size _ _ _ rfl (HOWN.out.alloc (.cells #[.int .i64 (mc x), .int .i64 (mr x), .int .i64 (pa (mw x)), .int .i64 (ch (mw x)), .string (ba (nm (mw x))), .float .f64 (rk (mw x))] 57)) (some ⟨wr.heap.size, 0, none⟩) 1 [x] rfl (fun h => by cases h) (by simp) (wr.heap.size + 1) (at_boxM wr x) (by simp <;> omega) (by simp <;> omega) ?_)
   intro v2 w2 hown2 hgrow
   have hb2 := below_own (hbw.alloc hbw.size (.cells #[.int .i64 (mc x), .int .i64 (mr x), .int .i64 (pa (mw x)), .int .i64 (ch (mw x)), .string (ba (nm (mw x))), .float .f64 (rk (mw x))] 57)) (by simp <;> omega) (HOWN.out.alloc (.cells #[.int .i64 (mc x), .int .i64 (mr x), .int .i64 (pa (mw x)), .int .i64 (ch (mw x)), .string (ba (nm (mw x))), .float .f64 (rk (mw x))] 57)) hgrow
   have HO2 := Lib.hid hown2
   obtain ⟨Ax, cx, rfl, -, -, -⟩ := own_at hown2
   have HB2 := Lib.hid hb2
   clear hown2 hgrow d0 d1 d2 d3 d4 d5 hb2 hbw HSR HFAT HOWN HFL HCOV hs1
   go_wp2_with fail
   go_loopw [7] (fun i wr => ∃ j : Nat, i = .int .i64 (j : Int) ∧ j ≤ k ∧ (∀ k', k' < j → PairOk l k k') ∧ Below w2.heap.size w2 wr) (fun i _ => k - (Go.RowKit.intOf i).toNat)
   case atStart => exact ⟨0, rfl, Nat.zero_le _, fun k hk => absurd hk (Nat.not_lt_zero _), Below.refl _ _⟩
   case round =>
    obtain ⟨j, rfl, hj, hpi, hbw⟩ := hrel
    have HPI := Lib.hid hpi
    have HBT := Lib.hid (HB2.out.trans (hbw.mono HB2.out.size))
    clear hpi
    by_cases hlj : j < k
    ·obtain ⟨y, hy⟩ := some_at (show j < l.length by omega)
     have hsr := S4.out.step HBT.out
     have HMT := Lib.hid (Bed.moves hsr (.tail _ (.head _)))
     have HY := Lib.hid hy
     have hj0 : (0 : Int) ≤ (j : Int) := by omega
     have hjl : (j : Int) < (l.length : Int) := by omega
     have hx64 := (HLM.out x (mem_at HX.out)).1
     have hy64 := (HLM.out y (mem_at hy)).1
     clear hy hsr
     by_cases h1 : mc y = mc x
     case neg =>
      have HH1 := Lib.hid h1
      clear h1
      go_wp2_with fail
      refine quiet_held (fun w' => Below wr.heap.size wr w') (by kernel_rfl) (by kernel_rfl) (Below.refl _ _).drew ?_
      repeat (first
       | go_big_quiet_skip
       | (go_big_quiet_want; go_big_quiet_op; go_big_quiet_on)
       | (go_big_quiet_want; apply Exists.intro; refine ⟨fun wq hq => ?_, ?_⟩; (focus (obtain ⟨b9, o9, e9, -, d0, d1, d2, d3, d4, d5⟩ := move_cells (HMT.out.keep hq) HX.out; cases e9; obtain ⟨b9, o9, e9, -, g0, g1, g2, g3, g4, g5⟩ := move_cells (HMT.out.keep hq) HY.out; cases e9; unfold Oper.quietAt; go_simp; all_goals (first | rfl | (rw [if_neg HH1.out]; exact ⟨rfl, rfl⟩)))); simp only [Act.put, List.setIfInBounds_toArray, List.set_cons_zero, List.set_cons_succ]; go_big_quiet_on))
      refine wpQuiet_nil ?_
      intro wx hbx
      have hbwx := hbw.trans (hbx.mono hbw.size)
      go_wp2_with fail
      go_roundw
      case rel =>
       refine ⟨j + 1, by go_num, by omega, fun k' hk' => ?_, hbwx⟩
       by_cases h : k' < j
       ·exact HPI.out k' h
       ·obtain rfl : k' = j := by omega
        exact pair_no HX.out HY.out (time_no1 (fun e => HH1.out e.symm))
      case measure => simp only [Go.RowKit.intOf]; omega
     by_cases h2 : mr y = mr x
     case neg =>
      have HH1 := Lib.hid h1
      have HH2 := Lib.hid h2
      clear h1 h2
      go_wp2_with fail
      refine quiet_held (fun w' => Below wr.heap.size wr w') (by kernel_rfl) (by kernel_rfl) (Below.refl _ _).drew ?_
      repeat (first
       | go_big_quiet_skip
       | (go_big_quiet_want; go_big_quiet_op; go_big_quiet_on)
       | (go_big_quiet_want; apply Exists.intro; refine ⟨fun wq hq => ?_, ?_⟩; (focus (obtain ⟨b9, o9, e9, -, d0, d1, d2, d3, d4, d5⟩ := move_cells (HMT.out.keep hq) HX.out; cases e9; obtain ⟨b9, o9, e9, -, g0, g1, g2, g3, g4, g5⟩ := move_cells (HMT.out.keep hq) HY.out; cases e9; unfold Oper.quietAt; go_simp; all_goals (first | rfl | (rw [if_pos HH1.out, if_neg HH2.out]; exact ⟨rfl, rfl⟩)))); simp only [Act.put, List.setIfInBounds_toArray, List.set_cons_zero, List.set_cons_succ]; go_big_quiet_on))
      refine wpQuiet_nil ?_
      intro wx hbx
      have hbwx := hbw.trans (hbx.mono hbw.size)
      go_wp2_with fail
      go_roundw
      case rel =>
       refine ⟨j + 1, by go_num, by omega, fun k' hk' => ?_, hbwx⟩
       by_cases h : k' < j
       ·exact HPI.out k' h
       ·obtain rfl : k' = j := by omega
        exact pair_no HX.out HY.out (time_no2 (fun e => HH2.out e.symm))
      case measure => simp only [Go.RowKit.intOf]; omega
     have HH1 := Lib.hid h1
     have HH2 := Lib.hid h2
     clear h1 h2
     cases hal : alikeM y x with
     | true =>
      have HAL := Lib.hid hal
      clear hal
      go_wp2_with fail
      refine quiet_held (fun w' => Below wr.heap.size wr w') (by kernel_rfl) (by kernel_rfl) (Below.refl _ _).drew ?_
      repeat (first
       | go_big_quiet_skip
       | (go_big_quiet_want; go_big_quiet_op; go_big_quiet_on)
       | (go_big_quiet_want; apply Exists.intro; refine ⟨fun wq hq => ?_, ?_⟩; (focus (obtain ⟨b9, o9, e9, -, d0, d1, d2, d3, d4, d5⟩ := move_cells (HMT.out.keep hq) HX.out; cases e9; obtain ⟨b9, o9, e9, -, g0, g1, g2, g3, g4, g5⟩ := move_cells (HMT.out.keep hq) HY.out; cases e9; unfold Oper.quietAt; go_simp; all_goals (first | rfl | (rw [if_pos HH1.out, if_pos HH2.out]; exact ⟨rfl, rfl⟩) | (with_reducible refine (rmalike_k HAL.out hy64 hx64 _).mono ?_; rintro e w5 ⟨rfl, hbn⟩; exact ⟨rfl, hq.trans (hbn.mono hq.size)⟩)))); simp only [Act.put, List.setIfInBounds_toArray, List.set_cons_zero, List.set_cons_succ]; go_big_quiet_on))
      refine wpQuiet_nil ?_
      intro wx hbx
      have hbwx := hbw.trans (hbx.mono hbw.size)
      go_wp2_with fail
      go_roundw
      case rel =>
       refine ⟨j + 1, by go_num, by omega, fun k' hk' => ?_, hbwx⟩
       by_cases h : k' < j
       ·exact HPI.out k' h
       ·obtain rfl : k' = j := by omega
        exact pair_yes HX.out HY.out (alikeM_symm HAL.out)
      case measure => simp only [Go.RowKit.intOf]; omega
     | false =>
      have HAL := Lib.hid hal
      clear hal
      go_wp2_with fail
      refine quiet_held (fun w' => Below wr.heap.size wr w') (by kernel_rfl) (by kernel_rfl) (Below.refl _ _).drew ?_
      repeat (first
       | go_big_quiet_skip
       | (go_big_quiet_want; go_big_quiet_op; go_big_quiet_on)
       | (go_big_quiet_want; apply Exists.intro; refine ⟨fun wq hq => ?_, ?_⟩; (focus (obtain ⟨b9, o9, e9, -, d0, d1, d2, d3, d4, d5⟩ := move_cells (HMT.out.keep hq) HX.out; cases e9; obtain ⟨b9, o9, e9, -, g0, g1, g2, g3, g4, g5⟩ := move_cells (HMT.out.keep hq) HY.out; cases e9; unfold Oper.quietAt; go_simp; all_goals (first | rfl | (rw [if_pos HH1.out, if_pos HH2.out]; exact ⟨rfl, rfl⟩) | (with_reducible refine (rmalike_k HAL.out hy64 hx64 _).mono ?_; rintro e w5 ⟨rfl, hbn⟩; exact ⟨rfl, hq.trans (hbn.mono hq.size)⟩)))); simp only [Act.put, List.setIfInBounds_toArray, List.set_cons_zero, List.set_cons_succ]; go_big_quiet_on))
      refine wpQuiet_nil ?_
      intro wx hbx
      have hbwx := hbw.trans (hbx.mono hbw.size)
      have HBZ := Lib.hid (HB2.out.trans (hbwx.mono HB2.out.size))
      go_wp2_with fail
      refine (live18_c _).mono ?_
      rintro e wz ⟨rfl, hbz⟩
      go_wp2_with fail
      go_ret
      exact ⟨rfl, (S4.out.step (HBZ.out.trans (hbz.mono HBZ.out.size))).bel⟩
    ·obtain rfl : j = k := by omega
     have HOW := Lib.hid (own_below HO2.out hbw)
     have hnl : (F ++ [x]).length = F.length + 1 := by rw [List.length_append]; rfl
     go_wp2_with fail
     go_roundw
     case rel =>
      refine ⟨j, F ++ [x], by go_num, by omega, by omega, HF2.out, HC2.out, fun i' h1 h2 k' hk' => ?_, by rw [hnl]; exact HOW.out, HBT.out⟩
      by_cases h : i' = j
      ·subst h; exact HPI.out k' hk'
      ·exact HPO.out i' (by omega) h2 k' hk'
     case measure => simp only [Go.RowKit.intOf]; omega
  | zero =>
   have hkk : (((0 : Nat) : Int) - 1) = -1 := rfl
   rw [hkk]
   have hpairs := pairs_all (l := l) fun i hi k hk => HPO.out i (Nat.zero_le _) hi k hk
   have hmem : ∀ x, x ∈ l ↔ x ∈ F := fun x => ⟨fun hx => by
    obtain ⟨j, hj, e⟩ := List.mem_iff_getElem.1 hx
    exact HCOV.out j (Nat.zero_le _) x (by rw [List.getElem?_eq_getElem hj, e]), HFL.out x⟩
   obtain ⟨o, ho⟩ : ∃ o, mergeF r l = o := ⟨_, rfl⟩
   obtain ⟨a, x⟩ := o
   obtain ⟨o, ho2⟩ : ∃ o, mergeF r F = o := ⟨_, rfl⟩
   obtain ⟨b, y⟩ := o
   have hfl : r.L.length ≤ 60 ∧ r.V.length ≤ 60 := few_lens Hf.out
   have HMF : Hid (Moves_ F) := Lib.hid fun m hm => HLM.out m (HFL.out m hm)
   have HSA := Lib.hid (show Sz a 140 by have := sz_merge HSZ.out HLM.out; rw [ho] at this; exact this.more (by omega))
   have HSB := Lib.hid (show Sz b 140 by have := sz_merge HSZ.out HMF.out; rw [ho2] at this; exact this.more (by omega))
   have HFA := Lib.hid (order_factsF HMR.out (by omega) (by omega) hmem hpairs ho ho2)
   have HO1 := Lib.hid ho
   have HO2 := Lib.hid ho2
   have hal := HSA.out.ll
   have hav := HSA.out.v
   clear hpairs hmem ho ho2
   have SF := Lib.hid (HSR.out.addM (A := Av) (l := F) HFAT.out)
   clear HSR HFAT HOWN
   have hx := (SF.out.box (.tail _ (.head _)))
   obtain ⟨⟨y3_0, y3_1, y3_2, y3_3, y3_4⟩, -⟩ := cells5 hx
   clear hx
   go_wp2_with fail
   refine (fMerge_v (r2 := a) HO1.out (HSZ.out.ok (by omega)) PLr.out (by omega) (by omega) (by omega) HLM.out (SF.out.rep (.tail _ (.tail _ (.tail _ (.head _))))) (SF.out.moves (.tail _ (.tail _ (.head _))))).mono ?_
   rintro e w21 ⟨p2, rfl, hg, hb⟩
   have S21 := Lib.hid ((SF.out.step hb).addP (p := p2) (r := a) hg.at_)
   have PLa := Lib.hid hg.pl
   clear y3_0 y3_1 y3_2 y3_3 y3_4
   clear hb hg
   obtain ⟨w22, hw⟩ : ∃ w22, w22 = w21.alloc (.cells #[.slice p2.A1 a.B.length p2.c1, .int .i64 a.fc, .int .i64 a.fr, .slice p2.A2 a.L.length p2.c2, .slice p2.A3 a.V.length p2.c3] 55) := ⟨_, rfl⟩
   have hb : Below w21.heap.size w21 w22 := by rw [hw]; exact (Below.refl _ _).alloc (Nat.le_refl _) _
   have S22 := Lib.hid ((S21.out.step hb).addB (g := w21.heap.size) (t := 55) (vs := [.slice p2.A1 a.B.length p2.c1, .int .i64 a.fc, .int .i64 a.fr, .slice p2.A2 a.L.length p2.c2, .slice p2.A3 a.V.length p2.c3]) (by rw [hw]; exact is_new w21 55 _))
   have HW22 := Lib.hid hw
   clear hw hb
   have hx := (S22.out.box (.tail _ (.tail _ (.tail _ (.head _)))))
   rw [HW22.out] at hx
   obtain ⟨⟨y4_0, y4_1, y4_2, y4_3, y4_4⟩, -⟩ := cells5 hx
   clear hx
   go_wp2_with fail
   rw [← HW22.out]
   refine (fMerge_v (r2 := b) HO2.out (HSZ.out.ok (by omega)) PLr.out (by omega) (by omega) (by omega) HMF.out (S22.out.rep (.tail _ (.tail _ (.tail _ (.tail _ (.tail _ (.head _))))))) (S22.out.moves (.tail _ (.tail _ (.head _))))).mono ?_
   rintro e w23 ⟨p3, rfl, hg, hb⟩
   have S23 := Lib.hid ((S22.out.step hb).addP (p := p3) (r := b) hg.at_)
   have PLb := Lib.hid hg.pl
   clear y4_0 y4_1 y4_2 y4_3 y4_4
   clear hb hg
   obtain ⟨w24, hw⟩ : ∃ w24, w24 = w23.alloc (.cells #[.slice p3.A1 b.B.length p3.c1, .int .i64 b.fc, .int .i64 b.fr, .slice p3.A2 b.L.length p3.c2, .slice p3.A3 b.V.length p3.c3] 55) := ⟨_, rfl⟩
   have hb : Below w23.heap.size w23 w24 := by rw [hw]; exact (Below.refl _ _).alloc (Nat.le_refl _) _
   have S24 := Lib.hid ((S23.out.step hb).addB (g := w23.heap.size) (t := 55) (vs := [.slice p3.A1 b.B.length p3.c1, .int .i64 b.fc, .int .i64 b.fr, .slice p3.A2 b.L.length p3.c2, .slice p3.A3 b.V.length p3.c3]) (by rw [hw]; exact is_new w23 55 _))
   have HW24 := Lib.hid hw
   clear hw hb
   rcases HFA.out with ⟨rfl, rfl, hs, hm⟩ | ⟨hx, hy, har, hbr⟩
   ·
    have HSM := Lib.hid hs
    have HMG := Lib.hid hm
    clear hs hm HFA
    have hx := (S24.out.box (.tail _ (.tail _ (.head _))))
    rw [HW24.out] at hx
    obtain ⟨⟨y5_0, y5_1, y5_2, y5_3, y5_4⟩, -⟩ := cells5 hx
    clear hx
    go_wp2_with fail
    rw [← HW24.out]
    refine (fMerge_v (r2 := a) HMG.out (HSA.out.ok (by omega)) PLa.out (by omega) (by omega) (by omega) HMF.out (S24.out.rep (.tail _ (.tail _ (.tail _ (.head _))))) (S24.out.moves (.tail _ (.tail _ (.tail _ (.tail _ (.head _))))))).mono ?_
    rintro e w25 ⟨p4, rfl, hg, hb⟩
    have S25 := Lib.hid ((S24.out.step hb).addP (p := p4) (r := a) hg.at_)
    clear y5_0 y5_1 y5_2 y5_3 y5_4
    clear hb hg
    obtain ⟨w26, hw⟩ : ∃ w26, w26 = w25.alloc (.cells #[.slice p4.A1 a.B.length p4.c1, .int .i64 a.fc, .int .i64 a.fr, .slice p4.A2 a.L.length p4.c2, .slice p4.A3 a.V.length p4.c3] 55) := ⟨_, rfl⟩
    have hb : Below w25.heap.size w25 w26 := by rw [hw]; exact (Below.refl _ _).alloc (Nat.le_refl _) _
    have S26 := Lib.hid ((S25.out.step hb).addB (g := w25.heap.size) (t := 55) (vs := [.slice p4.A1 a.B.length p4.c1, .int .i64 a.fc, .int .i64 a.fr, .slice p4.A2 a.L.length p4.c2, .slice p4.A3 a.V.length p4.c3]) (by rw [hw]; exact is_new w25 55 _))
    have HW26 := Lib.hid hw
    clear hw hb
    have hx := (S26.out.box (.tail _ (.tail _ (.tail _ (.tail _ (.head _))))))
    rw [HW26.out] at hx
    obtain ⟨⟨y6_0, y6_1, y6_2, y6_3, y6_4⟩, -⟩ := cells5 hx
    clear hx
    have hx := (S26.out.box (.tail _ (.tail _ (.head _))))
    rw [HW26.out] at hx
    obtain ⟨⟨y7_0, y7_1, y7_2, y7_3, y7_4⟩, -⟩ := cells5 hx
    clear hx
    go_wp2_with fail
    rw [← HW26.out]
    refine (rfsame_v HSM.out (HSA.out.ok (by omega)) (HSB.out.ok (by omega)) (S26.out.rep (.tail _ (.tail _ (.tail _ (.tail _ (.tail _ (.head _))))))) (S26.out.rep (.tail _ (.tail _ (.tail _ (.head _)))))).mono ?_
    rintro e w27 ⟨rfl, hb⟩
    have S27 := Lib.hid (S26.out.step hb)
    clear y6_0 y6_1 y6_2 y6_3 y6_4 y7_0 y7_1 y7_2 y7_3 y7_4
    clear hb
    have hx := (S27.out.box (.head _))
    obtain ⟨⟨y8_0, y8_1, y8_2, y8_3, y8_4⟩, -⟩ := cells5 hx
    clear hx
    have hx := (S27.out.box (.tail _ (.tail _ (.tail _ (.tail _ (.head _))))))
    obtain ⟨⟨y9_0, y9_1, y9_2, y9_3, y9_4⟩, -⟩ := cells5 hx
    clear hx
    go_wp2_with fail
    refine (rfsame_v (sameF_refl a) (HSA.out.ok (by omega)) (HSA.out.ok (by omega)) (S27.out.rep (.tail _ (.head _))) (S27.out.rep (.tail _ (.tail _ (.tail _ (.tail _ (.tail _ (.head _)))))))).mono ?_
    rintro e w28 ⟨rfl, hb⟩
    have S28 := Lib.hid (S27.out.step hb)
    clear y8_0 y8_1 y8_2 y8_3 y8_4 y9_0 y9_1 y9_2 y9_3 y9_4
    clear hb
    go_wp2_with fail
    refine (live18_c _).mono ?_
    rintro e w29 ⟨rfl, hb⟩
    have S29 := Lib.hid (S28.out.step hb)
    clear hb
    go_wp2_with fail
    go_ret
    exact ⟨rfl, S29.out.bel⟩
   ·
    have HAR := Lib.hid har
    have HBR := Lib.hid hbr
    have hx1 : (x == 0) = false := by simpa using hx
    have hx2 : (x != 0) = true := by simpa using hx
    have hx3 : decide (x = 0) = false := decide_eq_false hx
    have hy1 : (y == 0) = false := by simpa using hy
    have hy2 : (y != 0) = true := by simpa using hy
    have hy3 : decide (y = 0) = false := decide_eq_false hy
    clear har hbr HFA
    have hx := (S24.out.box (.tail _ (.tail _ (.head _))))
    rw [HW24.out] at hx
    obtain ⟨⟨y10_0, y10_1, y10_2, y10_3, y10_4⟩, -⟩ := cells5 hx
    clear hx
    have hx := (S24.out.box (.tail _ (.tail _ (.tail _ (.tail _ (.tail _ (.head _)))))))
    rw [HW24.out] at hx
    obtain ⟨⟨y11_0, y11_1, y11_2, y11_3, y11_4⟩, -⟩ := cells5 hx
    clear hx
    go_wp2_with fail
    rw [← HW24.out]
    refine (rfsame_v (r1 := a) (r2 := r) (b := true) (by rw [HAR.out]; exact sameF_refl _) (HSA.out.ok (by omega)) (HSZ.out.ok (by omega)) (S24.out.rep (.tail _ (.tail _ (.tail _ (.head _))))) (S24.out.rep (.tail _ (.tail _ (.tail _ (.tail _ (.tail _ (.tail _ (.tail _ (.head _)))))))))).mono ?_
    rintro e w25 ⟨rfl, hb⟩
    have S25 := Lib.hid (S24.out.step hb)
    clear y10_0 y10_1 y10_2 y10_3 y10_4 y11_0 y11_1 y11_2 y11_3 y11_4
    clear hb
    have hx := (S25.out.box (.head _))
    obtain ⟨⟨y12_0, y12_1, y12_2, y12_3, y12_4⟩, -⟩ := cells5 hx
    clear hx
    have hx := (S25.out.box (.tail _ (.tail _ (.tail _ (.tail _ (.tail _ (.head _)))))))
    obtain ⟨⟨y13_0, y13_1, y13_2, y13_3, y13_4⟩, -⟩ := cells5 hx
    clear hx
    go_wp2_with fail
    refine (rfsame_v (r1 := b) (r2 := r) (b := true) (by rw [HBR.out]; exact sameF_refl _) (HSB.out.ok (by omega)) (HSZ.out.ok (by omega)) (S25.out.rep (.tail _ (.head _))) (S25.out.rep (.tail _ (.tail _ (.tail _ (.tail _ (.tail _ (.tail _ (.tail _ (.head _)))))))))).mono ?_
    rintro e w26 ⟨rfl, hb⟩
    have S26 := Lib.hid (S25.out.step hb)
    clear y12_0 y12_1 y12_2 y12_3 y12_4 y13_0 y13_1 y13_2 y13_3 y13_4
    clear hb
    go_wp2_with fail
    refine (live18_c _).mono ?_
    rintro e w27 ⟨rfl, hb⟩
    have S27 := Lib.hid (S26.out.step hb)
    clear hb
    go_wp2_with fail
    go_ret
    exact ⟨rfl, S27.out.bel⟩
end floorOrder
end Go.Proofs.YthhckdjagnlgpaaGreat
end

section
namespace Go.Proofs.YthhckdjagnlgpaaGreat.floorOrder
open Go.ChangeShapes Go.WideShapes Go.ChangeAt Go.RowKit
theorem own : ownKnob Tryz.prog.godebug = none := by kernel_rfl
theorem laidOut : laidOutB Tryz.prog = true := by kernel_rfl
set_option maxRecDepth 100000 in
theorem lifted (os : Os) (started : os.Started) (H : Type) (enc : TypeId × Value → H) :
  ReturnsInHanded {} Tryz.checked os 14 .any (Rows.floorOrderSpec.pre6 enc Tryz.prog Tryz.f14 Rows.floorOrderRow.domain false) (Rows.floorOrderSpec.post enc Tryz.prog Tryz.f14 false true false false) := by
 refine returnsInHanded_of_change (C := Tryz.checked) own started (by kernel_rfl) Tryz.func14
  (ChangeSpec.witness6 (enc := enc) (C := Tryz.checked) false ⟨#[], #[.agg #[.slice none 0 0, .int .i64 0, .int .i64 0, .slice none 0 0, .slice none 0 0], .slice none 0 0], []⟩ 8 (by kernel_rfl) (by kernel_rfl) (by kernel_rfl) (by kernel_rfl)) ?_
 intro W base args ds gs before hval0 hW hcnd _
 have hval : ∀ (j : Nat) t v, Tryz.f14.params[j]? = some t → args[j]? = some v → Value.okWide Tryz.prog W .any base t v := hval0
 have hW' := hW
 obtain ⟨p, q, hA0, hV, rfl, hfz, hnd⟩ := hW
 have hA : DataW.TrodAll enc Tryz.prog W 0 (fun _ => true) true Tryz.f14.params.toList args.toList ds p := hA0
 rw [Tryz.params14] at hA hval
 obtain ⟨v0, vs0, d0, ds0, p0, q0, hargs, rfl, rfl, h0, r0⟩ := trodAll_cons hA
 obtain ⟨v1, vs1, d1, ds1, p1, q1, rfl, rfl, rfl, h1, r1⟩ := trodAll_cons r0
 obtain ⟨rfl, rfl, rfl⟩ := trodAll_nil r1
 obtain rfl : args = #[v0, v1] := by cases args; simp_all
 obtain ⟨rfl, rfl⟩ := trodVars_none hV
 have lt0 : ∀ x ∈ p0, x.block < W.heap.size := by obtain ⟨m, hm⟩ := h0; exact DataW.trod_lt m _ _ _ hm
 have lt1 : ∀ x ∈ p1, x.block < W.heap.size := by obtain ⟨m, hm⟩ := h1; exact DataW.trod_lt m _ _ _ hm
 obtain ⟨P0, R0, rfl, l0, c0, z0, w0, x0⟩ := replica_in (hval 0 55 v0 rfl rfl) h0
 obtain ⟨A1, cap1, xs1, rfl, n1, k1, z1, c1, w1⟩ := moves_in (hval 1 52 v1 rfl rfl) h1
 clear hA0 hval0
 refine (walk P0 R0 l0 z0 w0 x0 A1 cap1 xs1 z1 w1 W c0 c1).mono fun e W' ⟨he, bel⟩ => ?_
 subst he
 exact ⟨_, rfl, _, _, _, [], _, [], hW', trodAll_mk1 (shut_bool Tryz.underlying4 _), (trodAll_cons_mk (Below.trod laidOut (by kernel_rfl) (of_decide_eq_true (by kernel_rfl)) h0 bel lt0) (trodAll_cons_mk (Below.trod laidOut (by kernel_rfl) (of_decide_eq_true (by kernel_rfl)) h1 bel lt1) trodAll_mk0)), rfl, bel.frame _, fun h => by cases h⟩
theorem over : Rows.floorOrderRow.holds Tryz.pinned (OpenSpec.ofChange Rows.floorOrderSpec) :=
 OpenClaim.holds_of_wide 14 Tryz.f14 rfl rfl rfl rfl rfl rfl rfl ⟨rfl, rfl, rfl, rfl, rfl⟩ rfl rfl rfl rfl rfl (by kernel_rfl) Tryz.func14 (by kernel_rfl)
  (of_decide_eq_true (by kernel_rfl)) (by unfold Func.isWrapper; first | (rw [if_pos (by decide +kernel)]; kernel_rfl) | (rw [if_neg (by decide +kernel)]; exact ⟨rfl, rfl⟩))
  (fun os started H enc _ => lifted os started H enc)
theorem proved : Rows.FloorOrderSaid := over
#print axioms proved
end Go.Proofs.YthhckdjagnlgpaaGreat.floorOrder
end
