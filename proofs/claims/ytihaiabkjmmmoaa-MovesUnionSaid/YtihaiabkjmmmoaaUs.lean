/-
  The walk of MovesUnion.
-/
import Derived.Test.YtihaiabkjmmmoaaUr
namespace Go.Proofs.Ytihaiabkjmmmoaa
open Go.RowKit Go.IntWalk
open Wd Fl
set_option maxRecDepth 100000
attribute [local go_sem] Oper.semAt_some

/-- lists by their times, of the same times, out of one list of which no two of one time are unlike -/
theorem cover_same {L U V : List Mv} (hal : ∀ x ∈ L, ∀ y ∈ L, timeEq x y = true → alikeM x y = true) (hU : Asc U) (hV : Asc V) (h1 : ∀ x ∈ U, x ∈ L) (h2 : ∀ x ∈ V, x ∈ L) (h3 : ∀ x ∈ L, ∃ y ∈ U, timeEq y x = true) (h4 : ∀ x ∈ L, ∃ y ∈ V, timeEq y x = true) : sameM U V = true := by
  refine sameM_of hU hV (fun x hx => ?_) (fun y hy => h3 y (h2 y hy))
  obtain ⟨y, hy, ht⟩ := h4 x (h1 x hx)
  exact ⟨y, hy, alikeM_symm (hal y (h2 y hy) x (h1 x hx) ht)⟩
theorem uniM_cover {L a b : List Mv} (h : ∀ x ∈ L, (∃ y ∈ a, timeEq y x = true) ∨ ∃ y ∈ b, timeEq y x = true) : ∀ x ∈ L, ∃ y ∈ uniM a b, timeEq y x = true := by
  intro x hx
  rcases h x hx with ⟨y, hy, ht⟩ | ⟨y, hy, ht⟩
  · exact ⟨y, uniM_keep hy, ht⟩
  · obtain ⟨z, hz, hzt⟩ := uniM_time (a := a) hy
    refine ⟨z, hz, ?_⟩
    rw [timeEq_iff] at ht hzt ⊢
    exact ⟨hzt.1.trans ht.1, hzt.2.trans ht.2⟩
theorem timeEq_self (x : Mv) : timeEq x x = true := timeEq_iff.2 ⟨rfl, rfl⟩
theorem insM_there {l : List Mv} {m : Mv} (h : ∃ y ∈ l, timeEq y m = true) : ∃ (k : Nat) (x : Mv), insM l m = (l, k, false) ∧ l[k]? = some x ∧ timeEq x m = true ∧ k < l.length := by
  rcases insM_cases l m with ⟨k, x, hx, ht, _, e, hk⟩ | ⟨h0, _⟩
  · exact ⟨k, x, e, hx, ht, hk⟩
  · obtain ⟨y, hy, ht⟩ := h
    rw [h0 y hy] at ht; cases ht

namespace movesUnion
set_option maxHeartbeats 16000000 in
theorem live_in (A B C : Option Addr) (ca cb cc : Nat) (a b c : List Mv) (_hA : A = none → ca = 0) (_hB : B = none → cb = 0) (_hC : C = none → cc = 0) (_hca : a.length ≤ ca) (_hcb : b.length ≤ cb) (_hcc : c.length ≤ cc) (hla : a.length ≤ maxLen) (hlb : b.length ≤ maxLen) (hlc : c.length ≤ maxLen) (hMa : Moves_ a) (hMb : Moves_ b) (hMc : Moves_ c) (h : (fewM a 20 && (fewM b 20 && (fewM c 20 && (mayM a && (mayM b && mayM c))))) = false) (w : World) (h1 : At w w.heap.size A (mvs a)) (h2 : At w w.heap.size B (mvs b)) (h3 : At w w.heap.size C (mvs c)) :
    Calls Try.prog 8 #[.slice A a.length ca, .slice B b.length cb, .slice C c.length cc] w fun e w' => e = .returned (.bool true) ∧ Below w.heap.size w w' := by
  have Ka := Lib.hid h1
  have Kb := Lib.hid h2
  have Kc := Lib.hid h3
  have La := Lib.hid hla
  have Lb := Lib.hid hlb
  have Lc := Lib.hid hlc
  have Ma := Lib.hid hMa
  have Mb := Lib.hid hMb
  have Mc := Lib.hid hMc
  clear h1 h2 h3 hla hlb hlc hMa hMb hMc
  cases g0 : fewM a 20 with
  | false =>
    have H0 := Lib.hid g0
    clear g0 h
    go_enter Try.func8, Try.ntmps8
    go_wp2_with fail
    refine (rmfew_k (b := false) 20 H0.out La.out (by omega) Ka.out _ rfl).mono ?_
    rintro e w0 ⟨rfl, rfl⟩
    go_wp2_with fail
    refine (live13_c _).mono ?_
    rintro e wz ⟨rfl, hbz⟩
    go_wp2_with fail
    go_ret
    exact ⟨rfl, hbz⟩
  | true =>
    have H0 := Lib.hid g0
    rw [g0, Bool.true_and] at h
    clear g0
    cases g1 : fewM b 20 with
    | false =>
      have H1 := Lib.hid g1
      clear g1 h
      go_enter Try.func8, Try.ntmps8
      go_wp2_with fail
      refine (rmfew_k (b := true) 20 H0.out La.out (by omega) Ka.out _ rfl).mono ?_
      rintro e w0 ⟨rfl, rfl⟩
      go_wp2_with fail
      refine (rmfew_k (b := false) 20 H1.out Lb.out (by omega) Kb.out _ rfl).mono ?_
      rintro e w1 ⟨rfl, rfl⟩
      go_wp2_with fail
      refine (live13_c _).mono ?_
      rintro e wz ⟨rfl, hbz⟩
      go_wp2_with fail
      go_ret
      exact ⟨rfl, hbz⟩
    | true =>
      have H1 := Lib.hid g1
      rw [g1, Bool.true_and] at h
      clear g1
      cases g2 : fewM c 20 with
      | false =>
        have H2 := Lib.hid g2
        clear g2 h
        go_enter Try.func8, Try.ntmps8
        go_wp2_with fail
        refine (rmfew_k (b := true) 20 H0.out La.out (by omega) Ka.out _ rfl).mono ?_
        rintro e w0 ⟨rfl, rfl⟩
        go_wp2_with fail
        refine (rmfew_k (b := true) 20 H1.out Lb.out (by omega) Kb.out _ rfl).mono ?_
        rintro e w1 ⟨rfl, rfl⟩
        go_wp2_with fail
        refine (rmfew_k (b := false) 20 H2.out Lc.out (by omega) Kc.out _ rfl).mono ?_
        rintro e w2 ⟨rfl, rfl⟩
        go_wp2_with fail
        refine (live13_c _).mono ?_
        rintro e wz ⟨rfl, hbz⟩
        go_wp2_with fail
        go_ret
        exact ⟨rfl, hbz⟩
      | true =>
        have H2 := Lib.hid g2
        rw [g2, Bool.true_and] at h
        clear g2
        cases g3 : mayM a with
        | false =>
          have H3 := Lib.hid g3
          clear g3 h
          go_enter Try.func8, Try.ntmps8
          go_wp2_with fail
          refine (rmfew_k (b := true) 20 H0.out La.out (by omega) Ka.out _ rfl).mono ?_
          rintro e w0 ⟨rfl, rfl⟩
          go_wp2_with fail
          refine (rmfew_k (b := true) 20 H1.out Lb.out (by omega) Kb.out _ rfl).mono ?_
          rintro e w1 ⟨rfl, rfl⟩
          go_wp2_with fail
          refine (rmfew_k (b := true) 20 H2.out Lc.out (by omega) Kc.out _ rfl).mono ?_
          rintro e w2 ⟨rfl, rfl⟩
          go_wp2_with fail
          refine (rmmay_k (b := false) H3.out La.out Ma.out Ka.out).mono ?_
          rintro e v0 ⟨rfl, hb0⟩
          have hbw0 := hb0
          go_wp2_with fail
          refine (live13_c _).mono ?_
          rintro e wz ⟨rfl, hbz⟩
          go_wp2_with fail
          go_ret
          exact ⟨rfl, bthen hbw0 hbz⟩
        | true =>
          have H3 := Lib.hid g3
          rw [g3, Bool.true_and] at h
          clear g3
          cases g4 : mayM b with
          | false =>
            have H4 := Lib.hid g4
            clear g4 h
            go_enter Try.func8, Try.ntmps8
            go_wp2_with fail
            refine (rmfew_k (b := true) 20 H0.out La.out (by omega) Ka.out _ rfl).mono ?_
            rintro e w0 ⟨rfl, rfl⟩
            go_wp2_with fail
            refine (rmfew_k (b := true) 20 H1.out Lb.out (by omega) Kb.out _ rfl).mono ?_
            rintro e w1 ⟨rfl, rfl⟩
            go_wp2_with fail
            refine (rmfew_k (b := true) 20 H2.out Lc.out (by omega) Kc.out _ rfl).mono ?_
            rintro e w2 ⟨rfl, rfl⟩
            go_wp2_with fail
            refine (rmmay_k (b := true) H3.out La.out Ma.out Ka.out).mono ?_
            rintro e v0 ⟨rfl, hb0⟩
            have hbw0 := hb0
            go_wp2_with fail
            refine (rmmay_k (b := false) H4.out Lb.out Mb.out (Kb.out.keep hbw0)).mono ?_
            rintro e v1 ⟨rfl, hb1⟩
            have hbw1 := bthen hbw0 hb1
            go_wp2_with fail
            refine (live13_c _).mono ?_
            rintro e wz ⟨rfl, hbz⟩
            go_wp2_with fail
            go_ret
            exact ⟨rfl, bthen hbw1 hbz⟩
          | true =>
            have H4 := Lib.hid g4
            rw [g4, Bool.true_and] at h
            clear g4
            cases g5 : mayM c with
            | false =>
              have H5 := Lib.hid g5
              clear g5 h
              go_enter Try.func8, Try.ntmps8
              go_wp2_with fail
              refine (rmfew_k (b := true) 20 H0.out La.out (by omega) Ka.out _ rfl).mono ?_
              rintro e w0 ⟨rfl, rfl⟩
              go_wp2_with fail
              refine (rmfew_k (b := true) 20 H1.out Lb.out (by omega) Kb.out _ rfl).mono ?_
              rintro e w1 ⟨rfl, rfl⟩
              go_wp2_with fail
              refine (rmfew_k (b := true) 20 H2.out Lc.out (by omega) Kc.out _ rfl).mono ?_
              rintro e w2 ⟨rfl, rfl⟩
              go_wp2_with fail
              refine (rmmay_k (b := true) H3.out La.out Ma.out Ka.out).mono ?_
              rintro e v0 ⟨rfl, hb0⟩
              have hbw0 := hb0
              go_wp2_with fail
              refine (rmmay_k (b := true) H4.out Lb.out Mb.out (Kb.out.keep hbw0)).mono ?_
              rintro e v1 ⟨rfl, hb1⟩
              have hbw1 := bthen hbw0 hb1
              go_wp2_with fail
              refine (rmmay_k (b := false) H5.out Lc.out Mc.out (Kc.out.keep hbw1)).mono ?_
              rintro e v2 ⟨rfl, hb2⟩
              have hbw2 := bthen hbw1 hb2
              go_wp2_with fail
              refine (live13_c _).mono ?_
              rintro e wz ⟨rfl, hbz⟩
              go_wp2_with fail
              go_ret
              exact ⟨rfl, bthen hbw2 hbz⟩
            | true =>
              rw [g5] at h
              cases h

set_option maxHeartbeats 16000000 in
theorem main (A B C : Option Addr) (ca cb cc : Nat) (a b c : List Mv) (hA : A = none → ca = 0) (hB : B = none → cb = 0) (hC : C = none → cc = 0) (hca : a.length ≤ ca) (hcb : b.length ≤ cb) (hcc : c.length ≤ cc) (hla : a.length ≤ maxLen) (hlb : b.length ≤ maxLen) (hlc : c.length ≤ maxLen) (hMa : Moves_ a) (hMb : Moves_ b) (hMc : Moves_ c) (f1 : fewM a 20 = true) (f2 : fewM b 20 = true) (f3 : fewM c 20 = true) (y1 : mayM a = true) (y2 : mayM b = true) (y3 : mayM c = true) (w : World) (h1 : At w w.heap.size A (mvs a)) (h2 : At w w.heap.size B (mvs b)) (h3 : At w w.heap.size C (mvs c)) :
    Calls Try.prog 8 #[.slice A a.length ca, .slice B b.length cb, .slice C c.length cc] w fun e w' => e = .returned (.bool true) ∧ Below w.heap.size w w' := by
  have Ka := Lib.hid h1
  have Kb := Lib.hid h2
  have Kc := Lib.hid h3
  have La := Lib.hid hla
  have Lb := Lib.hid hlb
  have Lc := Lib.hid hlc
  have Ma := Lib.hid hMa
  have Mb := Lib.hid hMb
  have Mc := Lib.hid hMc
  have NA := Lib.hid hA
  have NB := Lib.hid hB
  have NC := Lib.hid hC
  have CA := Lib.hid hca
  have CB := Lib.hid hcb
  have CC := Lib.hid hcc
  obtain ⟨l1, -⟩ := fewM_in f1
  obtain ⟨l2, -⟩ := fewM_in f2
  obtain ⟨l3, -⟩ := fewM_in f3
  have H0 := Lib.hid f1
  have H1 := Lib.hid f2
  have H2 := Lib.hid f3
  have H3 := Lib.hid y1
  have H4 := Lib.hid y2
  have H5 := Lib.hid y3
  clear h1 h2 h3 hla hlb hlc hMa hMb hMc hA hB hC hca hcb hcc f1 f2 f3 y1 y2 y3
  go_enter Try.func8, Try.ntmps8
  go_wp2_with fail
  refine (rmfew_k (b := true) 20 H0.out La.out (by omega) Ka.out _ rfl).mono ?_
  rintro e w0 ⟨rfl, rfl⟩
  go_wp2_with fail
  refine (rmfew_k (b := true) 20 H1.out Lb.out (by omega) Kb.out _ rfl).mono ?_
  rintro e w1 ⟨rfl, rfl⟩
  go_wp2_with fail
  refine (rmfew_k (b := true) 20 H2.out Lc.out (by omega) Kc.out _ rfl).mono ?_
  rintro e w2 ⟨rfl, rfl⟩
  go_wp2_with fail
  refine (rmmay_k (b := true) H3.out La.out Ma.out Ka.out).mono ?_
  rintro e v0 ⟨rfl, hb0⟩
  have hbw0 := hb0
  go_wp2_with fail
  refine (rmmay_k (b := true) H4.out Lb.out Mb.out (Kb.out.keep hbw0)).mono ?_
  rintro e v1 ⟨rfl, hb1⟩
  have hbw1 := bthen hbw0 hb1
  go_wp2_with fail
  refine (rmmay_k (b := true) H5.out Lc.out Mc.out (Kc.out.keep hbw1)).mono ?_
  rintro e v2 ⟨rfl, hb2⟩
  have hbw2 := bthen hbw1 hb2
  have Ka2 := Lib.hid (Ka.out.keep hbw2)
  have Kb2 := Lib.hid (Kb.out.keep hbw2)
  have Kc2 := Lib.hid (Kc.out.keep hbw2)
  clear hb0 hb1 hb2 hbw0 hbw1
  go_wp2_with (at_builtin; refine append_optM _ rfl _ _ rfl v2.heap.size _ 0 [] rfl (made0M v2.heap.size v2 (Nat.le_refl _)) A ca a rfl NA.out CA.out v2.heap.size (Ka2.out.below ((Below.refl _ _).alloc (Nat.le_refl _) _)) (by omega) (by simp) ?_)
  intro s1 u1 hown1 hg1
  have hb1 : Below v2.heap.size v2 u1 := below_own ((Below.refl _ _).alloc (Nat.le_refl _) _) (by simp) (made0M v2.heap.size v2 (Nat.le_refl _)) hg1
  obtain ⟨S1, d1, rfl, -, -, -⟩ := own_at hown1
  have HO1 := Lib.hid hown1
  clear hown1 hg1
  go_wp2_with (at_builtin; refine append_optM _ rfl _ _ rfl v2.heap.size _ _ _ rfl HO1.out B cb b rfl NB.out CB.out v2.heap.size (Kb2.out.below hb1) (by omega) hb1.size ?_)
  intro s2 u2 hown2 hg2
  have hb2 : Below v2.heap.size v2 u2 := below_own hb1 hb1.size HO1.out hg2
  obtain ⟨S2, d2, rfl, -, -, -⟩ := own_at hown2
  have HO2 := Lib.hid hown2
  clear hown2 hg2
  go_wp2_with (at_builtin; refine append_optM _ rfl _ _ rfl v2.heap.size _ _ _ rfl HO2.out C cc c rfl NC.out CC.out v2.heap.size (Kc2.out.below hb2) (by omega) hb2.size ?_)
  intro s3 u3 hown3 hg3
  have hb3 : Below v2.heap.size v2 u3 := below_own hb2 hb2.size HO2.out hg3
  obtain ⟨S3, d3, rfl, hat3, -, -⟩ := own_at hown3
  have hbu := bthen hbw2 hb3
  have Ka3 := Lib.hid (Ka2.out.keep hb3)
  have Kb3 := Lib.hid (Kb2.out.keep hb3)
  have Kc3 := Lib.hid (Kc2.out.keep hb3)
  clear hown3 hg3
  have hLn : a.length + b.length + c.length = (a ++ (b ++ c)).length := by simp only [List.length_append]; omega
  have hLm : ∀ x, x ∈ (a ++ (b ++ c)) ↔ x ∈ a ∨ x ∈ b ∨ x ∈ c := fun x => by simp only [List.mem_append]
  obtain ⟨L, hL⟩ : ∃ L, a ++ (b ++ c) = L := ⟨_, rfl⟩
  rw [hL] at hat3 hLn hLm
  have HLm := Lib.hid hLm
  have HU := Lib.hid hat3
  have hLl : L.length ≤ 60 := by omega
  have HML : Hid (Moves_ L) := Lib.hid (fun x hx => by
    rcases (hLm x).1 hx with h | h | h
    · exact Ma.out x h
    · exact Mb.out x h
    · exact Mc.out x h)
  clear hat3 hLm hL
  rw [hLn]
  clear hLn HO1 HO2 hb1 hb2 hb3 hbw2
  go_wp2_with fail
  rename World => vr
  go_loopw [8] (fun i wr => ∃ j : Nat, i = .int .i64 (j : Int) ∧ j ≤ L.length ∧ (∀ i', i' < j → ∀ k', k' < i' → PairOk L i' k') ∧ Below vr.heap.size vr wr) (fun i _ => L.length - (intOf i).toNat)
  case atStart => exact ⟨0, rfl, Nat.zero_le _, fun i hi => absurd hi (Nat.not_lt_zero _), Below.refl _ _⟩
  case round =>
    obtain ⟨j, rfl, hj, hpo, hbw⟩ := hrel
    have HPO := Lib.hid hpo
    clear hpo
    by_cases hlt : j < L.length
    · obtain ⟨x, hx⟩ := some_at hlt
      have HX := Lib.hid hx
      have hj0 : (0 : Int) ≤ (j : Int) := by omega
      have hjl : (j : Int) < (L.length : Int) := by omega
      have HBW0 := Lib.hid hbw
      clear hx hbw
      go_wp2_with fail
      rename World => vs
      go_loopw [9] (fun i wr => ∃ k : Nat, i = .int .i64 (k : Int) ∧ k ≤ j ∧ (∀ k', k' < k → PairOk L j k') ∧ Below vr.heap.size vr wr) (fun i _ => j - (intOf i).toNat)
      case atStart => exact ⟨0, rfl, Nat.zero_le _, fun k hk => absurd hk (Nat.not_lt_zero _), HBW0.out⟩
      case round =>
        obtain ⟨k, rfl, hk, hpi, hbw⟩ := hrel
        have HPI := Lib.hid hpi
        clear hpi
        by_cases hlk : k < j
        · obtain ⟨y, hy⟩ := some_at (show k < L.length by omega)
          have hcr := HU.out.keep hbw
          obtain ⟨b0, o0, rfl, -⟩ := move_cells hcr HX.out
          have HCr := Lib.hid hcr
          have HY := Lib.hid hy
          have hk0 : (0 : Int) ≤ (k : Int) := by omega
          have hkl : (k : Int) < (L.length : Int) := by omega
          have hx64 := (HML.out x (mem_at HX.out)).1
          have hy64 := (HML.out y (mem_at hy)).1
          clear hy hcr
          by_cases h1 : mc x = mc y
          case neg =>
            have HH1 := Lib.hid h1
            clear h1
            go_wp2_with fail
            refine quiet_held (fun w' => Below wr.heap.size wr w') (by kernel_rfl) (by kernel_rfl) (Below.refl _ _).drew ?_
            repeat (first
              | go_big_quiet_skip
              | (go_big_quiet_want; go_big_quiet_op; go_big_quiet_on)
              | (go_big_quiet_want; apply Exists.intro; refine ⟨fun wq hq => ?_, ?_⟩; (focus (obtain ⟨b9, o9, e9, -, d0, d1, d2, d3, d4, d5⟩ := move_cells (HCr.out.keep hq) HX.out; cases e9; obtain ⟨b9, o9, e9, -, g0, g1, g2, g3, g4, g5⟩ := move_cells (HCr.out.keep hq) HY.out; cases e9; unfold Oper.quietAt; go_simp; all_goals (first | rfl | (rw [if_neg HH1.out]; exact ⟨rfl, rfl⟩)))); simp only [Act.put, List.setIfInBounds_toArray, List.set_cons_zero, List.set_cons_succ]; go_big_quiet_on))
            refine wpQuiet_nil ?_
            intro wx hbx
            have hbwx := hbw.trans (hbx.mono hbw.size)
            go_wp2_with fail
            go_roundw
            case rel =>
              refine ⟨k + 1, by go_num, by omega, fun k' hk' => ?_, hbwx⟩
              by_cases h : k' < k
              · exact HPI.out k' h
              · obtain rfl : k' = k := by omega
                exact pair_no HX.out HY.out (time_no1 HH1.out)
            case measure => simp only [intOf]; omega
          by_cases h2 : mr x = mr y
          case neg =>
            have HH1 := Lib.hid h1
            have HH2 := Lib.hid h2
            clear h1 h2
            go_wp2_with fail
            refine quiet_held (fun w' => Below wr.heap.size wr w') (by kernel_rfl) (by kernel_rfl) (Below.refl _ _).drew ?_
            repeat (first
              | go_big_quiet_skip
              | (go_big_quiet_want; go_big_quiet_op; go_big_quiet_on)
              | (go_big_quiet_want; apply Exists.intro; refine ⟨fun wq hq => ?_, ?_⟩; (focus (obtain ⟨b9, o9, e9, -, d0, d1, d2, d3, d4, d5⟩ := move_cells (HCr.out.keep hq) HX.out; cases e9; obtain ⟨b9, o9, e9, -, g0, g1, g2, g3, g4, g5⟩ := move_cells (HCr.out.keep hq) HY.out; cases e9; unfold Oper.quietAt; go_simp; all_goals (first | rfl | (rw [if_pos HH1.out, if_neg HH2.out]; exact ⟨rfl, rfl⟩)))); simp only [Act.put, List.setIfInBounds_toArray, List.set_cons_zero, List.set_cons_succ]; go_big_quiet_on))
            refine wpQuiet_nil ?_
            intro wx hbx
            have hbwx := hbw.trans (hbx.mono hbw.size)
            go_wp2_with fail
            go_roundw
            case rel =>
              refine ⟨k + 1, by go_num, by omega, fun k' hk' => ?_, hbwx⟩
              by_cases h : k' < k
              · exact HPI.out k' h
              · obtain rfl : k' = k := by omega
                exact pair_no HX.out HY.out (time_no2 HH2.out)
            case measure => simp only [intOf]; omega
          have HH1 := Lib.hid h1
          have HH2 := Lib.hid h2
          clear h1 h2
          cases hal : alikeM x y with
          | true =>
            have HAL := Lib.hid hal
            clear hal
            go_wp2_with fail
            refine quiet_held (fun w' => Below wr.heap.size wr w') (by kernel_rfl) (by kernel_rfl) (Below.refl _ _).drew ?_
            repeat (first
              | go_big_quiet_skip
              | (go_big_quiet_want; go_big_quiet_op; go_big_quiet_on)
              | (go_big_quiet_want; apply Exists.intro; refine ⟨fun wq hq => ?_, ?_⟩; (focus (obtain ⟨b9, o9, e9, -, d0, d1, d2, d3, d4, d5⟩ := move_cells (HCr.out.keep hq) HX.out; cases e9; obtain ⟨b9, o9, e9, -, g0, g1, g2, g3, g4, g5⟩ := move_cells (HCr.out.keep hq) HY.out; cases e9; unfold Oper.quietAt; go_simp; all_goals (first | rfl | (rw [if_pos HH1.out, if_pos HH2.out]; exact ⟨rfl, rfl⟩) | (with_reducible refine (rmalike_k HAL.out hx64 hy64 _).mono ?_; rintro e w5 ⟨rfl, hbn⟩; exact ⟨rfl, hq.trans (hbn.mono hq.size)⟩)))); simp only [Act.put, List.setIfInBounds_toArray, List.set_cons_zero, List.set_cons_succ]; go_big_quiet_on))
            refine wpQuiet_nil ?_
            intro wx hbx
            have hbwx := hbw.trans (hbx.mono hbw.size)
            go_wp2_with fail
            go_roundw
            case rel =>
              refine ⟨k + 1, by go_num, by omega, fun k' hk' => ?_, hbwx⟩
              by_cases h : k' < k
              · exact HPI.out k' h
              · obtain rfl : k' = k := by omega
                exact pair_yes HX.out HY.out HAL.out
            case measure => simp only [intOf]; omega
          | false =>
            have HAL := Lib.hid hal
            clear hal
            go_wp2_with fail
            refine quiet_held (fun w' => Below wr.heap.size wr w') (by kernel_rfl) (by kernel_rfl) (Below.refl _ _).drew ?_
            repeat (first
              | go_big_quiet_skip
              | (go_big_quiet_want; go_big_quiet_op; go_big_quiet_on)
              | (go_big_quiet_want; apply Exists.intro; refine ⟨fun wq hq => ?_, ?_⟩; (focus (obtain ⟨b9, o9, e9, -, d0, d1, d2, d3, d4, d5⟩ := move_cells (HCr.out.keep hq) HX.out; cases e9; obtain ⟨b9, o9, e9, -, g0, g1, g2, g3, g4, g5⟩ := move_cells (HCr.out.keep hq) HY.out; cases e9; unfold Oper.quietAt; go_simp; all_goals (first | rfl | (rw [if_pos HH1.out, if_pos HH2.out]; exact ⟨rfl, rfl⟩) | (with_reducible refine (rmalike_k HAL.out hx64 hy64 _).mono ?_; rintro e w5 ⟨rfl, hbn⟩; exact ⟨rfl, hq.trans (hbn.mono hq.size)⟩)))); simp only [Act.put, List.setIfInBounds_toArray, List.set_cons_zero, List.set_cons_succ]; go_big_quiet_on))
            refine wpQuiet_nil ?_
            intro wx hbx
            have hbwx := bthen hbu (hbw.trans (hbx.mono hbw.size))
            go_wp2_with fail
            refine (live13_c _).mono ?_
            rintro e w9 ⟨rfl, hb9⟩
            go_wp2_with fail
            go_ret
            exact ⟨rfl, bthen hbwx hb9⟩
        · obtain rfl : k = j := by omega
          go_wp2_with fail
          go_roundw
          case rel =>
            refine ⟨k + 1, by go_num, by omega, fun i' hi' k' hk' => ?_, hbw⟩
            by_cases h : i' < k
            · exact HPO.out i' h k' hk'
            · obtain rfl : i' = k := by omega
              exact HPI.out k' hk'
          case measure => simp only [intOf]; omega
    · obtain rfl : j = L.length := by omega
      have HAL := Lib.hid (pairs_all HPO.out)
      have ya := (mayM_iff.1 H3.out).2
      have yb := (mayM_iff.1 H4.out).2
      have yc := (mayM_iff.1 H5.out).2
      have hab := uniM_len b a
      have hbc := uniM_len c b
      have hba := uniM_len a b
      have hx := uniM_len c (uniM a b)
      have hy := uniM_len (uniM b c) a
      have hz := uniM_len (uniM b a) c
      have ax : Asc (uniM (uniM a b) c) := uniM_asc (uniM_asc ya.2)
      have ay : Asc (uniM a (uniM b c)) := uniM_asc ya.2
      have az : Asc (uniM c (uniM b a)) := uniM_asc yc.2
      have mx : ∀ u ∈ uniM (uniM a b) c, u ∈ L := fun u hu => by
        rcases uniM_mem hu with h | h
        · rcases uniM_mem h with h | h
          · exact (HLm.out u).2 (.inl h)
          · exact (HLm.out u).2 (.inr (.inl h))
        · exact (HLm.out u).2 (.inr (.inr h))
      have my : ∀ u ∈ uniM a (uniM b c), u ∈ L := fun u hu => by
        rcases uniM_mem hu with h | h
        · exact (HLm.out u).2 (.inl h)
        · rcases uniM_mem h with h | h
          · exact (HLm.out u).2 (.inr (.inl h))
          · exact (HLm.out u).2 (.inr (.inr h))
      have mz : ∀ u ∈ uniM c (uniM b a), u ∈ L := fun u hu => by
        rcases uniM_mem hu with h | h
        · exact (HLm.out u).2 (.inr (.inr h))
        · rcases uniM_mem h with h | h
          · exact (HLm.out u).2 (.inr (.inl h))
          · exact (HLm.out u).2 (.inl h)
      have tx : ∀ u ∈ L, ∃ v ∈ uniM (uniM a b) c, timeEq v u = true := uniM_cover fun u hu => by
        rcases (HLm.out u).1 hu with h | h | h
        · exact .inl ⟨u, uniM_keep h, timeEq_self u⟩
        · exact .inl (uniM_time h)
        · exact .inr ⟨u, h, timeEq_self u⟩
      have ty : ∀ u ∈ L, ∃ v ∈ uniM a (uniM b c), timeEq v u = true := uniM_cover fun u hu => by
        rcases (HLm.out u).1 hu with h | h | h
        · exact .inl ⟨u, h, timeEq_self u⟩
        · exact .inr ⟨u, uniM_keep h, timeEq_self u⟩
        · exact .inr (uniM_time h)
      have tz : ∀ u ∈ L, ∃ v ∈ uniM c (uniM b a), timeEq v u = true := uniM_cover fun u hu => by
        rcases (HLm.out u).1 hu with h | h | h
        · exact .inr (uniM_time h)
        · exact .inr ⟨u, uniM_keep h, timeEq_self u⟩
        · exact .inl ⟨u, h, timeEq_self u⟩
      have sxy := cover_same HAL.out ax ay mx my tx ty
      have sxz := cover_same HAL.out ax az mx mz tx tz
      have ox : mayM (uniM (uniM a b) c) = true := mayM_iff.2 ⟨by omega, fun u hu => by
        rcases (HLm.out u).1 (mx u hu) with h | h | h
        · exact ya.1 u h
        · exact yb.1 u h
        · exact yc.1 u h, ax⟩
      have Mab := Lib.hid (uniM_moves Ma.out Mb.out)
      have Mbc := Lib.hid (uniM_moves Mb.out Mc.out)
      have Mba := Lib.hid (uniM_moves Mb.out Ma.out)
      have Mx := Lib.hid (uniM_moves Mab.out Mc.out)
      have My := Lib.hid (uniM_moves Ma.out Mbc.out)
      have Mz := Lib.hid (uniM_moves Mc.out Mba.out)
      have MX := Lib.hid mx
      have TX := Lib.hid tx
      have SXY := Lib.hid sxy
      have SXZ := Lib.hid sxz
      have OX := Lib.hid ox
      clear ya yb yc ax ay az mx my mz tx ty tz sxy sxz ox
      obtain ⟨P, hP⟩ : ∃ P, uniM a b = P := ⟨_, rfl⟩
      obtain ⟨Q, hQ⟩ : ∃ P, uniM b c = P := ⟨_, rfl⟩
      obtain ⟨R, hR⟩ : ∃ P, uniM b a = P := ⟨_, rfl⟩
      rw [hP] at hab hx
      rw [hQ] at hbc hy
      rw [hR] at hba hz
      obtain ⟨X, hX⟩ : ∃ P', uniM P c = P' := ⟨_, rfl⟩
      obtain ⟨Y, hY⟩ : ∃ P', uniM a Q = P' := ⟨_, rfl⟩
      obtain ⟨Z, hZ⟩ : ∃ P', uniM c R = P' := ⟨_, rfl⟩
      rw [hX] at hx
      rw [hY] at hy
      rw [hZ] at hz
      have EP := Lib.hid hP
      have EQ := Lib.hid hQ
      have ER := Lib.hid hR
      have EX := Lib.hid hX
      have EY := Lib.hid hY
      have EZ := Lib.hid hZ
      have hMX : Hid (Moves_ X) := Lib.hid (by have h := Mx.out; rw [hP, hX] at h; exact h)
      have hMY : Hid (Moves_ Y) := Lib.hid (by have h := My.out; rw [hQ, hY] at h; exact h)
      have hMZ : Hid (Moves_ Z) := Lib.hid (by have h := Mz.out; rw [hR, hZ] at h; exact h)
      have hTX : Hid (∀ u ∈ L, ∃ v ∈ X, timeEq v u = true) := Lib.hid (by have h := TX.out; rw [hP, hX] at h; exact h)
      have hXL : Hid (∀ u ∈ X, u ∈ L) := Lib.hid (by have h := MX.out; rw [hP, hX] at h; exact h)
      have hSXY : Hid (sameM X Y = true) := Lib.hid (by have h := SXY.out; rw [hP, hX, hQ, hY] at h; exact h)
      have hSXZ : Hid (sameM X Z = true) := Lib.hid (by have h := SXZ.out; rw [hP, hX, hR, hZ] at h; exact h)
      have hOX : Hid (mayM X = true) := Lib.hid (by have h := OX.out; rw [hP, hX] at h; exact h)
      clear hP hQ hR hX hY hZ Mx My Mz TX MX SXY SXZ OX
      have Ka4 := Lib.hid (Ka3.out.keep hbw)
      have Kb4 := Lib.hid (Kb3.out.keep hbw)
      have Kc4 := Lib.hid (Kc3.out.keep hbw)
      have HU4 := Lib.hid (HU.out.keep hbw)
      have hbw4 := hbu.trans (hbw.mono hbu.size)
      clear hbw HPO hlt hj
      have la := l1
      go_wp2_with fail
      refine (muni_k a b P EP.out rfl rfl rfl (by omega) NA.out CA.out Ka4.out Kb4.out).mono ?_
      rintro e t1 ⟨A1, e1, rfl, ha1, hn1, hc1, hb⟩
      have hbw5 := bthen hbw4 hb
      have Ka5 := Lib.hid (Ka4.out.keep hb)
      have Kb5 := Lib.hid (Kb4.out.keep hb)
      have Kc5 := Lib.hid (Kc4.out.keep hb)
      have HU5 := Lib.hid (HU4.out.keep hb)
      have HP5 := Lib.hid ha1
      have HN1 := Lib.hid hn1
      have HC1 := Lib.hid hc1
      clear ha1 hn1 hc1 hb
      go_wp2_with fail
      refine (muni_k P c X EX.out rfl rfl rfl (by omega) HN1.out HC1.out HP5.out Kc5.out).mono ?_
      rintro e t2 ⟨A2, e2, rfl, ha2, hn2, hc2, hb⟩
      have hbw6 := bthen hbw5 hb
      have Ka6 := Lib.hid (Ka5.out.keep hb)
      have Kb6 := Lib.hid (Kb5.out.keep hb)
      have Kc6 := Lib.hid (Kc5.out.keep hb)
      have HU6 := Lib.hid (HU5.out.keep hb)
      have HX6 := Lib.hid ha2
      have HNX := Lib.hid hn2
      have HCX := Lib.hid hc2
      clear ha2 hn2 hc2 hb
      go_wp2_with fail
      refine (muni_k b c Q EQ.out rfl rfl rfl (by omega) NB.out CB.out Kb6.out Kc6.out).mono ?_
      rintro e t3 ⟨A3, e3, rfl, ha3, hn3, hc3, hb⟩
      have hbw7 := bthen hbw6 hb
      have Ka7 := Lib.hid (Ka6.out.keep hb)
      have Kb7 := Lib.hid (Kb6.out.keep hb)
      have Kc7 := Lib.hid (Kc6.out.keep hb)
      have HU7 := Lib.hid (HU6.out.keep hb)
      have HX7 := Lib.hid (HX6.out.keep hb)
      have HQ7 := Lib.hid ha3
      clear ha3 hn3 hc3 hb
      go_wp2_with fail
      refine (muni_k a Q Y EY.out rfl rfl rfl (by omega) NA.out CA.out Ka7.out HQ7.out).mono ?_
      rintro e t4 ⟨A4, e4, rfl, ha4, hn4, hc4, hb⟩
      have hbw8 := bthen hbw7 hb
      have Ka8 := Lib.hid (Ka7.out.keep hb)
      have Kb8 := Lib.hid (Kb7.out.keep hb)
      have Kc8 := Lib.hid (Kc7.out.keep hb)
      have HU8 := Lib.hid (HU7.out.keep hb)
      have HX8 := Lib.hid (HX7.out.keep hb)
      have HY8 := Lib.hid ha4
      clear ha4 hn4 hc4 hb
      go_wp2_with fail
      refine (muni_k b a R ER.out rfl rfl rfl (by omega) NB.out CB.out Kb8.out Ka8.out).mono ?_
      rintro e t5 ⟨A5, e5, rfl, ha5, hn5, hc5, hb⟩
      have hbw9 := bthen hbw8 hb
      have Kc9 := Lib.hid (Kc8.out.keep hb)
      have HU9 := Lib.hid (HU8.out.keep hb)
      have HX9 := Lib.hid (HX8.out.keep hb)
      have HY9 := Lib.hid (HY8.out.keep hb)
      have HR9 := Lib.hid ha5
      clear ha5 hn5 hc5 hb
      go_wp2_with fail
      refine (muni_k c R Z EZ.out rfl rfl rfl (by omega) NC.out CC.out Kc9.out HR9.out).mono ?_
      rintro e t6 ⟨A6, e6, rfl, ha6, hn6, hc6, hb⟩
      have hbw10 := bthen hbw9 hb
      have HU10 := Lib.hid (HU9.out.keep hb)
      have HX10 := Lib.hid (HX9.out.keep hb)
      have HY10 := Lib.hid (HY9.out.keep hb)
      have HZ10 := Lib.hid ha6
      clear ha6 hn6 hc6 hb hbw4 hbw5 hbw6 hbw7 hbw8 hbw9
      go_wp2_with fail
      rename World => vt
      go_loopw [13] (fun i wr => ∃ j : Nat, i = .int .i64 (j : Int) ∧ j ≤ L.length ∧ Below vt.heap.size vt wr) (fun i _ => L.length - (intOf i).toNat)
      case atStart => exact ⟨0, rfl, Nat.zero_le _, Below.refl _ _⟩
      case round =>
        obtain ⟨j, rfl, hj, hbr⟩ := hrel
        have HUr := Lib.hid (HU10.out.keep hbr)
        have HXr := Lib.hid (HX10.out.keep hbr)
        by_cases hlt : j < L.length
        · obtain ⟨u, hu⟩ := some_at hlt
          obtain ⟨p, v, hins, hv, htv, hpl⟩ := insM_there (hTX.out u (mem_at hu))
          obtain ⟨b0, o0, rfl, -, d0, d1, d2, d3, d4, d5⟩ := move_cells HUr.out hu
          obtain ⟨b1, o1, rfl, -⟩ := move_cells HXr.out hv
          have hal := HAL.out v (hXL.out v (mem_at hv)) u (mem_at hu) htv
          have hu64 := (HML.out u (mem_at hu)).1
          have hv64 := (hMX.out v (mem_at hv)).1
          have hic := minsert_c (some ⟨b1, o1, none⟩) e2 X u (by omega) HNX.out HCX.out _ HXr.out
          rw [hins] at hic
          have HIC := Lib.hid hic
          have HUU := Lib.hid hu
          have HVV := Lib.hid hv
          have HALV := Lib.hid hal
          have hj0 : (0 : Int) ≤ (j : Int) := by omega
          have hjl : (j : Int) < (L.length : Int) := by omega
          have hp0 : (0 : Int) ≤ (p : Int) := by omega
          have hpx : (p : Int) < (X.length : Int) := by omega
          have hpa : decide ((p : Int) < 0) = false := decide_eq_false (by omega)
          have hpb : decide ((X.length : Int) ≤ (p : Int)) = false := decide_eq_false (by omega)
          have hpc : decide (X.length ≤ p) = false := decide_eq_false (by omega)
          clear hu hv hal hic hins htv
          go_wp2_with fail
          refine HIC.out.mono ?_
          rintro e x1 ⟨A7, e7, rfl, -, -, -, hb1⟩
          have HUx := Lib.hid (HUr.out.keep hb1)
          have HXx := Lib.hid (HXr.out.keep hb1)
          have hbr1 := hbr.trans (hb1.mono hbr.size)
          clear hb1 d0 d1 d2 d3 d4 d5
          go_wp2_with fail
          refine quiet_held (fun w' => Below x1.heap.size x1 w') (by kernel_rfl) (by kernel_rfl) (Below.refl _ _).drew ?_
          repeat (first
            | go_big_quiet_skip
            | (simp only [hpa])
            | (simp only [hpb])
            | (simp only [hpc])
            | (go_big_quiet_want; go_big_quiet_op; go_big_quiet_on)
            | (go_big_quiet_want; apply Exists.intro; refine ⟨fun wq hq => ?_, ?_⟩; (focus (obtain ⟨b9, o9, e9, -, d0, d1, d2, d3, d4, d5⟩ := move_cells (HUx.out.keep hq) HUU.out; cases e9; obtain ⟨b9, o9, e9, -, g0, g1, g2, g3, g4, g5⟩ := move_cells (HXx.out.keep hq) HVV.out; cases e9; unfold Oper.quietAt; go_simp; all_goals (first | rfl | (with_reducible refine (rmalike_k HALV.out hv64 hu64 _).mono ?_; rintro e w5 ⟨rfl, hbn⟩; exact ⟨rfl, hq.trans (hbn.mono hq.size)⟩)))); simp only [Act.put, List.setIfInBounds_toArray, List.set_cons_zero, List.set_cons_succ]; go_big_quiet_on))
          refine wpQuiet_nil ?_
          intro wx hbx
          go_wp2_with fail
          go_roundw
          case rel => exact ⟨j + 1, by go_num, by omega, hbr1.trans (hbx.mono hbr1.size)⟩
          case measure => simp only [intOf]; omega
        · obtain rfl : j = L.length := by omega
          have HYr := Lib.hid (HY10.out.keep hbr)
          have HZr := Lib.hid (HZ10.out.keep hbr)
          have hbw11 := hbw10.trans (hbr.mono hbw10.size)
          clear hbr hlt hj
          go_wp2_with fail
          refine (mmay_k (b := true) X hOX.out rfl (by omega) (fun m hm => (hMX.out m hm).2) HXr.out).mono ?_
          rintro e z1 ⟨rfl, hb⟩
          have hbw12 := bthen hbw11 hb
          have HXz := Lib.hid (HXr.out.keep hb)
          have HYz := Lib.hid (HYr.out.keep hb)
          have HZz := Lib.hid (HZr.out.keep hb)
          clear hb
          go_wp2_with fail
          refine (rmsame_k X Y hSXY.out rfl rfl (by omega) (by omega) hMX.out hMY.out HXz.out HYz.out).mono ?_
          rintro e z2 ⟨rfl, hb⟩
          have hbw13 := bthen hbw12 hb
          have HXy := Lib.hid (HXz.out.keep hb)
          have HZy := Lib.hid (HZz.out.keep hb)
          clear hb
          go_wp2_with fail
          refine (rmsame_k X Z hSXZ.out rfl rfl (by omega) (by omega) hMX.out hMZ.out HXy.out HZy.out).mono ?_
          rintro e z3 ⟨rfl, hb⟩
          have hbw14 := bthen hbw13 hb
          go_wp2_with fail
          refine (live13_c _).mono ?_
          rintro e z4 ⟨rfl, hb⟩
          go_wp2_with fail
          go_ret
          exact ⟨rfl, bthen hbw14 hb⟩
theorem walk (A B C : Option Addr) (ca cb cc : Nat) (a b c : List Mv) (hA : A = none → ca = 0) (hB : B = none → cb = 0) (hC : C = none → cc = 0) (hca : a.length ≤ ca) (hcb : b.length ≤ cb) (hcc : c.length ≤ cc) (hla : a.length ≤ maxLen) (hlb : b.length ≤ maxLen) (hlc : c.length ≤ maxLen) (hMa : Moves_ a) (hMb : Moves_ b) (hMc : Moves_ c) (w : World) (h1 : At w w.heap.size A (mvs a)) (h2 : At w w.heap.size B (mvs b)) (h3 : At w w.heap.size C (mvs c)) :
    Calls Try.prog 8 #[.slice A a.length ca, .slice B b.length cb, .slice C c.length cc] w fun e w' => e = .returned (.bool true) ∧ Below w.heap.size w w' := by
  by_cases h : (fewM a 20 && (fewM b 20 && (fewM c 20 && (mayM a && (mayM b && mayM c))))) = true
  · simp only [Bool.and_eq_true] at h
    obtain ⟨f1, f2, f3, y1, y2, y3⟩ := h
    exact main A B C ca cb cc a b c hA hB hC hca hcb hcc hla hlb hlc hMa hMb hMc f1 f2 f3 y1 y2 y3 w h1 h2 h3
  · exact live_in A B C ca cb cc a b c hA hB hC hca hcb hcc hla hlb hlc hMa hMb hMc (by simpa using h) w h1 h2 h3
end movesUnion
end Go.Proofs.Ytihaiabkjmmmoaa
