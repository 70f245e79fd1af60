/-
  The walk of FlagsCounts.
-/
import Derived.Test.YtiehmeheilfocaaPl
namespace Go.Proofs.Ytiehmeheilfocaa
open Go.RowKit Go.IntWalk
open Pk
set_option maxRecDepth 100000
attribute [local go_sem] Oper.semAt_some

theorem incL_same {r : List Nat} (h : r ≠ []) : (incL r).length = r.length := (incL_len r).2.2 h
/-- a flag more: one length more, just if it is another one -/
theorem lens_snoc (l : List Bool) (x : Bool) : ∀ f y, l.getLast? = some y → (lens f (l ++ [x])).length = (lens f l).length + (if x = y then 0 else 1) := by
  induction l with
  | nil => intro f y h; simp at h
  | cons z t ih =>
    intro f y h
    cases t with
    | nil =>
      simp at h
      subst h
      cases f <;> cases z <;> cases x <;> rfl
    | cons u v =>
      have h' : (u :: v).getLast? = some y := by simpa using h
      have hn1 : ∀ g, lens g ((u :: v) ++ [x]) ≠ [] := fun g => lens_ne (by simp)
      have hn2 : ∀ g, lens g (u :: v) ≠ [] := fun g => lens_ne (by simp)
      rw [List.cons_append]
      by_cases hz : z = f
      · subst hz
        rw [lens_eq, lens_eq, incL_same (hn1 z), incL_same (hn2 z), ih z y h']
      · rw [lens, lens, if_neg hz, if_neg hz, List.length_cons, List.length_cons, incL_same (hn1 z), incL_same (hn2 z), ih z y h']
        omega
theorem lens_step {l : List Bool} {i : Nat} {x y : Bool} (hx : l[i + 1]? = some x) (hy : l[i]? = some y) : (lens false (l.take (i + 1 + 1))).length = (lens false (l.take (i + 1))).length + (if x = y then 0 else 1) := by
  rw [List.take_add_one (i := i + 1), hx]
  refine lens_snoc _ x false y ?_
  have hi : i < l.length := (List.getElem?_eq_some_iff.1 hy).1
  rw [List.getLast?_eq_getElem?, List.length_take, Nat.min_eq_left (by omega), Nat.add_sub_cancel, List.getElem?_take_of_lt (by omega)]
  exact hy
theorem lens_one {l : List Bool} {x : Bool} (hx : l[0]? = some x) : (lens false (l.take 1)).length = if x then 2 else 1 := by
  cases l with
  | nil => simp at hx
  | cons b t =>
    simp at hx
    subst hx
    cases b <;> rfl
/-- how many are false -/
def cntN (l : List Bool) : Nat := l.count false
theorem cnt_both (l : List Bool) : cnt l + cntN l = l.length := by
  unfold cnt cntN
  induction l with
  | nil => rfl
  | cons b t ih => cases b <;> simp <;> omega
theorem sprB_take {L : List Nat} {k x : Nat} (h : L[k]? = some x) : sprB false (L.take (k + 1)) = sprB false (L.take k) ++ List.replicate x (par k) := by
  have hk : k < L.length := (List.getElem?_eq_some_iff.1 h).1
  rw [List.take_add_one, h]
  show sprB false (L.take k ++ [x]) = _
  rw [par_app, List.length_take, Nat.min_eq_left (by omega)]
theorem cnt_step {L : List Nat} {k x : Nat} (h : L[k]? = some x) (hp : par k = true) : cnt (sprB false (L.take (k + 1))) = cnt (sprB false (L.take k)) + x ∧ cntN (sprB false (L.take (k + 1))) = cntN (sprB false (L.take k)) := by
  rw [sprB_take h, hp]
  unfold cnt cntN
  rw [List.count_append, List.count_append]
  simp [List.count_replicate]
theorem cnt_stepN {L : List Nat} {k x : Nat} (h : L[k]? = some x) (hp : par k = false) : cnt (sprB false (L.take (k + 1))) = cnt (sprB false (L.take k)) ∧ cntN (sprB false (L.take (k + 1))) = cntN (sprB false (L.take k)) + x := by
  rw [sprB_take h, hp]
  unfold cnt cntN
  rw [List.count_append, List.count_append]
  simp [List.count_replicate]
theorem sprB_take_le (L : List Nat) (k : Nat) : (sprB false (L.take k)).length ≤ (sprB false L).length := by
  have : L = L.take k ++ L.drop k := (List.take_append_drop k L).symm
  conv => rhs; rw [this, sprB_app, List.length_append]
  omega

namespace flagsCounts
set_option maxHeartbeats 8000000 in
theorem walk (A : Option Addr) (cap : Nat) (l : List Bool) (hz : l.length ≤ maxLen) (w : World) (hc : At w w.heap.size A (bvs l)) :
    Calls Try.prog 7 #[.slice A l.length cap] w fun e w' => e = .returned (.bool true) ∧ Below w.heap.size w w' := by
  have HC := Lib.hid hc
  unfold maxLen at hz
  clear hc
  by_cases h : 200 < l.length ∨ l.length = 0
  · by_cases h2 : 200 < l.length
    · clear h
      go_enter Try.func7, Try.ntmps7
      go_wp2_with fail
      refine (live7_c _).mono ?_
      rintro e w1 ⟨rfl, hb1⟩
      go_wp2
      go_ret
      exact ⟨rfl, hb1⟩
    · have h3 : l.length = 0 := by omega
      rw [h3] at h2 ⊢
      clear h h3
      go_enter Try.func7, Try.ntmps7
      go_wp2_with fail
      refine (live7_c _).mono ?_
      rintro e w1 ⟨rfl, hb1⟩
      go_wp2
      go_ret
      exact ⟨rfl, hb1⟩
  · have h1 : l.length ≤ 200 := by omega
    have h2 : 0 < l.length := by omega
    have hx : l.length ≤ 100000 := by omega
    have t1 : decide ((200 : Int) < (l.length : Int)) = false := by simp; omega
    have t2 : ((l.length : Int) == 0) = false := by simp only [beq_eq_false_iff_ne, ne_eq]; omega
    have hll := lens_len false l
    obtain ⟨L, hL⟩ : ∃ L, L = lens false l := ⟨_, rfl⟩
    have HPOS := Lib.hid (show posN L.tail by rw [hL]; exact lens_pos l false)
    have HSPR := Lib.hid (show sprB false L = l by rw [hL]; exact sprB_lens l false)
    have HLE := Lib.hid (show ∀ x ∈ L, x ≤ 200 by rw [hL]; exact fun x hx => Nat.le_trans (lens_le hx) h1)
    have HLI := Lib.hid (show lenI l = ints L by rw [hL]; rfl)
    rw [← hL] at hll
    have HL := Lib.hid hL
    have hin : (ints L).length = L.length := ints_len L
    have HIN := Lib.hid hin
    clear h hz hL hin
    go_enter Try.func7, Try.ntmps7
    go_wp2_with fail
    refine (lengths_k l (ints L) HLI.out rfl HIN.out hx HC.out).mono ?_
    rintro e w2 ⟨B2, k2, rfl, -, hat2, hb2⟩
    have HAT := Lib.hid hat2
    clear hat2
    go_wp2_with fail
    go_loopw [4, 5, 6] (fun y n i wr => ∃ k : Nat, y = .int .i64 (cnt (sprB false (L.take k)) : Int) ∧ n = .int .i64 (cntN (sprB false (L.take k)) : Int) ∧ i = .int .i64 (k : Int) ∧ k ≤ L.length ∧ wr = w2) (fun _ _ i _ => L.length - (intOf i).toNat)
    case atStart => exact ⟨0, rfl, rfl, rfl, Nat.zero_le _, rfl⟩
    case round =>
      obtain ⟨k, rfl, rfl, rfl, hk, rfl⟩ := hrel
      have hb1 := cnt_both (sprB false (L.take k))
      have hb3 := sprB_take_le L k
      rw [HSPR.out] at hb3
      by_cases hlt : k < L.length
      · obtain ⟨x, hxk⟩ := some_at hlt
        obtain ⟨b, off, rfl, hbl, hcell⟩ := HAT.out k _ (ivs_at (show (ints L)[k]? = some (x : Int) by unfold ints; rw [List.getElem?_map, hxk]; rfl))
        have hx200 := HLE.out x (mem_at hxk)
        have HX := Lib.hid hxk
        have hc1 := Lib.hid (fun h => cnt_step hxk h)
        have hc2 := Lib.hid (fun h => cnt_stepN hxk h)
        have hxp : ((x : Int) == 0 && decide ((0 : Int) < (k : Int))) = false := by
          by_cases h0 : k = 0
          · simp [h0]
          · have : 1 ≤ x := by
              refine HPOS.out x ?_
              rw [List.mem_iff_getElem?]
              exact ⟨k - 1, by rw [List.getElem?_tail, show k - 1 + 1 = k by omega]; exact hxk⟩
            have hxn : ((x : Int) == 0) = false := by simp; omega
            rw [hxn]; rfl
        have hsp : (((x : Int) == 0) = true ∧ decide ((0 : Int) < (k : Int)) = false ∧ decide (0 < k) = false ∧ ¬ 0 < k) ∨ ((x : Int) == 0) = false := by
          by_cases h0 : (x : Int) = 0
          · have hk0 : ¬ 0 < k := fun hk0 => by
              have h3 : decide ((0 : Int) < (k : Int)) = true := by simp; omega
              rw [h3, h0] at hxp
              simp at hxp
            exact .inl ⟨by simp [h0], by simp; omega, by simp; omega, hk0⟩
          · exact .inr (by simpa using h0)
        obtain ⟨Y, hY⟩ : ∃ Y, Y = cnt (sprB false (L.take k)) := ⟨_, rfl⟩
        obtain ⟨Z, hZ⟩ : ∃ Z, Z = cntN (sprB false (L.take k)) := ⟨_, rfl⟩
        rw [← hY, ← hZ] at hb1 hc1 hc2 ⊢
        have hY1 : Y ≤ 200 := by omega
        have hZ1 : Z ≤ 200 := by omega
        have t0 : decide ((x : Int) < 0) = false := by simp
        have hp0 : par k = false → (k : Int).tmod 2 = 0 := fun h => by
          unfold par at h
          rw [Int.tmod_eq_emod_of_nonneg (by omega)]
          have : ¬ k % 2 = 1 := by simpa using h
          omega
        have hp1 : par k = true → (k : Int).tmod 2 = 1 := fun h => by
          unfold par at h
          rw [Int.tmod_eq_emod_of_nonneg (by omega)]
          have : k % 2 = 1 := by simpa using h
          omega
        have HP0 := Lib.hid hp0
        have HP1 := Lib.hid hp1
        clear hxk hb1 hb3 hxp hY hZ hp0 hp1
        rcases hsp with ⟨t5, t6, t7, t8⟩ | t5
        · have hpar : par k = false := by
            have : k = 0 := by omega
            rw [this]; rfl
          obtain ⟨e1, e2⟩ := hc2.out hpar
          have E1 := Lib.hid e1
          have E2 := Lib.hid e2
          have hm := HP0.out hpar
          clear e1 e2 hpar
          go_wp2_with fail
          go_roundw
          case rel => exact ⟨k + 1, by rw [E1.out], by rw [E2.out]; go_num, by go_num, by omega, by first | rfl | trivial⟩
          case measure => simp only [intOf]; omega
        · cases hpar : par k
          · skip
            obtain ⟨e1, e2⟩ := hc2.out hpar
            have E1 := Lib.hid e1
            have E2 := Lib.hid e2
            have hm := HP0.out hpar
            clear e1 e2 hpar
            go_wp2_with fail
            go_roundw
            case rel => exact ⟨k + 1, by rw [E1.out], by rw [E2.out]; go_num, by go_num, by omega, by first | rfl | trivial⟩
            case measure => simp only [intOf]; omega
          · skip
            obtain ⟨e1, e2⟩ := hc1.out hpar
            have E1 := Lib.hid e1
            have E2 := Lib.hid e2
            have hm := HP1.out hpar
            clear e1 e2 hpar
            go_wp2_with fail
            go_roundw
            case rel => exact ⟨k + 1, by rw [E1.out]; go_num, by rw [E2.out], by go_num, by omega, by first | rfl | trivial⟩
            case measure => simp only [intOf]; omega
      · obtain rfl : k = L.length := by omega
        rw [List.take_length, HSPR.out] at hb1 ⊢
        obtain ⟨f, hf⟩ := some_at h2
        obtain ⟨b, off, rfl, hbl, hc0⟩ := (HC.out.below hb2) 0 _ (bvs_at hf)
        rw [Nat.add_zero] at hc0
        have HONE := Lib.hid (lens_one hf)
        have h2' : (0 : Int) < (l.length : Int) := by omega
        have HF := Lib.hid hf
        have hsum : (cnt l : Int) + (cntN l : Int) = (l.length : Int) := by omega
        have hcl := cnt_le l
        have hcl2 : cntN l ≤ 200 := by omega
        have HSUM := Lib.hid hsum
        have HB2 := Lib.hid hb2
        have hLlen : L.length ≤ 201 := by omega
        have HLL := Lib.hid (show L.length = (lens false l).length by rw [HL.out])
        obtain ⟨Y, hY⟩ : ∃ Y, Y = cnt l := ⟨_, rfl⟩
        obtain ⟨Z, hZ⟩ : ∃ Z, Z = cntN l := ⟨_, rfl⟩
        rw [← hZ] at hsum hcl2 HSUM
        rw [← hY] at hsum hcl HSUM
        rw [← hY, ← hZ]
        have HY := Lib.hid hY
        obtain ⟨M, hM⟩ : ∃ M, M = L.length := ⟨_, rfl⟩
        rw [← hM] at hLlen HLL ⊢
        have HM := Lib.hid hM
        have hY1 : Y ≤ 200 := by omega
        clear hb3 hlt hk hf hb1 hY hZ hM hll hsum hcl
        cases f
        all_goals
          have hone := HONE.out
          simp only [if_true, if_false, Bool.false_eq_true] at hone
          have HO := Lib.hid hone
          clear hone
          go_wp2_with fail
          go_loopw [7, 8] (fun c i wr2 => ∃ i' : Nat, c = .int .i64 ((lens false (l.take (i' + 1))).length : Int) ∧ i = .int .i64 ((i' + 1 : Nat) : Int) ∧ i' + 1 ≤ l.length ∧ ∃ q, wr2 = wr.drewN q) (fun _ i _ => l.length - (intOf i).toNat)
          case atStart => exact ⟨0, by rw [HO.out]; rfl, rfl, by omega, 0, rfl⟩
          case round =>
            obtain ⟨i', rfl, rfl, hi', hq⟩ := hrel
            have HQ := Lib.hid hq
            clear hq hc0
            have hcc := lens_len false (l.take (i' + 1))
            rw [List.length_take] at hcc
            by_cases hlt : i' + 1 < l.length
            · obtain ⟨x, hxk⟩ := some_at hlt
              obtain ⟨y, hyk⟩ := some_at (show i' < l.length by omega)
              have HAC := Lib.hid (at_drewE (HC.out.below HB2.out) HQ.out)
              obtain ⟨b', o', hbe, _, hcx⟩ := HAC.out (i' + 1) _ (bvs_at hxk)
              cases hbe
              obtain ⟨b', o', hbe, _, hcy⟩ := HAC.out i' _ (bvs_at hyk)
              cases hbe
              have HST := Lib.hid (lens_step hxk hyk)
              have hdif : ((i' + 1 : Nat) : Int) - 1 = (i' : Int) := by omega
              obtain ⟨cc, hccd⟩ : ∃ cc, cc = (lens false (l.take (i' + 1))).length := ⟨_, rfl⟩
              rw [← hccd] at hcc HST ⊢
              have hcc2 : cc ≤ 300 := by omega
              have hlt2 : (i' : Int) < (l.length : Int) := by omega
              have hlt3 : (i' : Int) + 1 < (l.length : Int) := by omega
              have hlt4 : (0 : Int) ≤ (i' : Int) := by omega
              clear hxk hyk hccd hcc
              rcases x with _ | _ <;> rcases y with _ | _
              · go_wp2_with fail
                go_quiet (fail)
                go_wp2_with fail
                go_roundw
                case rel => exact ⟨i' + 1, by rw [HST.out]; first | rfl | go_num, by go_num, by omega, drewE HQ.out _⟩
                case measure => simp only [intOf]; omega
              · go_wp2_with fail
                go_quiet (fail)
                go_wp2_with fail
                go_roundw
                case rel => exact ⟨i' + 1, by rw [HST.out]; first | rfl | go_num, by go_num, by omega, drewE HQ.out _⟩
                case measure => simp only [intOf]; omega
              · go_wp2_with fail
                go_quiet (fail)
                go_wp2_with fail
                go_roundw
                case rel => exact ⟨i' + 1, by rw [HST.out]; first | rfl | go_num, by go_num, by omega, drewE HQ.out _⟩
                case measure => simp only [intOf]; omega
              · go_wp2_with fail
                go_quiet (fail)
                go_wp2_with fail
                go_roundw
                case rel => exact ⟨i' + 1, by rw [HST.out]; first | rfl | go_num, by go_num, by omega, drewE HQ.out _⟩
                case measure => simp only [intOf]; omega
            · have hie : i' + 1 = l.length := by omega
              have htk : l.take (i' + 1) = l := by rw [hie, List.take_length]
              rw [htk, ← HLL.out]
              have g1 : ((Y : Int) == (Y : Int)) = true := by simp
              have g2 : ((Y : Int) + (Z : Int) == (l.length : Int)) = true := by have := HSUM.out; simp only [beq_iff_eq]; exact this
              have g3 : ((M : Int) == (M : Int)) = true := by simp
              have g4 : IntKind.i64.wrap ((Y : Int) + (Z : Int)) = (Y : Int) + (Z : Int) := IntWalk.i64_in _ (by omega)
              obtain ⟨q, hq⟩ := HQ.out
              have hb4 : Below w.heap.size w wr := by rw [hq]; exact below_drewN HB2.out q
              clear htk hq hcc
              go_wp2_with fail
              refine (count_c _ cap l hx _ (HC.out.keep hb4)).mono ?_
              rintro e wx ⟨rfl, rfl⟩
              rw [← HY.out]
              go_wp2_with fail
              refine (live7_c _).mono ?_
              rintro e w4 ⟨rfl, hm4⟩
              go_wp2
              go_ret
              exact ⟨rfl, hb4.trans (hm4.mono hb4.size)⟩
end flagsCounts
end Go.Proofs.Ytiehmeheilfocaa
