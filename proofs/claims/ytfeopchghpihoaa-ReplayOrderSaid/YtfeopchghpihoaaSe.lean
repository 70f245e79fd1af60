/-
  Rows in two stretches that are merged where they lie: slices.symMergeCmpFunc.
  Rows put in order by their children, those of one child as they were: blocks in order, plain.
  Rows put in order by their children, those of one child as they were: slices.stableCmpFunc, slices.SortStableFunc, the program's ordered.
-/
import Derived.Test.YtfeopchghpihoaaSc
import Derived.Test.YtfeopchghpihoaaPe
section
namespace Go.Proofs.Ytfeopchghpihoaa
open Go.RowKit Go.IntWalk
open Fl
set_option maxRecDepth 100000
attribute [local go_sem] Oper.semAt_some

/-- where a merge may be parted, and what is known of the rows there -/
structure Part (L : List Rw) (a m b mid s e : Nat) : Prop where
  fa : a ≤ s
  fm : s ≤ m
  fe : m ≤ e
  fb : e ≤ b
  mid : mid = s + (e - m)
  lt : ∀ x y, s < m → m < e → L[s]? = some x → L[e - 1]? = some y → ch y < ch x
  le : ∀ x y, a < s → e < b → L[s - 1]? = some x → L[e]? = some y → ch x ≤ ch y
theorem part_of {L : List Rw} {a m b mid s0 r0 p s : Nat} (_ : a < m) (hmb : m < b) (hmid : mid = (a + b) / 2) (hs0 : s0 ≤ s) (hr0 : s ≤ r0) (hp : p + 1 = mid + m)
    (hc : (mid < m ∧ s0 + b = mid + m ∧ r0 = mid) ∨ (m ≤ mid ∧ s0 = a ∧ r0 = m))
    (hlo : ∀ c x y, s0 ≤ c → c < s → L[c]? = some x → L[p - c]? = some y → ch x ≤ ch y) (hhi : ∀ c x y, s ≤ c → c < r0 → L[c]? = some x → L[p - c]? = some y → ch y < ch x) : Part L a m b mid s (mid + m - s) := by
  refine ⟨by omega, by omega, by omega, by omega, by omega, fun x y h1 h2 hx hy => ?_, fun x y h1 h2 hx hy => ?_⟩
  · exact hhi s x y (Nat.le_refl _) (by omega) hx (by rw [show p - s = mid + m - s - 1 by omega]; exact hy)
  · exact hlo (s - 1) x y (by omega) (by omega) hx (by rw [show p - (s - 1) = mid + m - s by omega]; exact hy)
/-- the rows in two halves, of which the one's are not behind the other's -/
structure Halves (L : List Rw) (a mid b s e : Nat) : Prop where
  me : mid ≤ e
  h1 : AscT L a s
  h2 : AscT L s mid
  h3 : AscT L mid e
  h4 : AscT L e b
  cr : ∀ p q x y, a ≤ p → p < mid → mid ≤ q → q < b → L[p]? = some x → L[q]? = some y → ch x ≤ ch y
theorem halves_rot {L P X Y S : List Rw} {a m b mid s e : Nat} (h : Part L a m b mid s e) (hX : AscT L a m) (hY : AscT L m b) (hb : b ≤ L.length) (h1 : s < m) (h2 : m < e) (hL : L = P ++ X ++ Y ++ S) (hP : P.length = s) (hXm : s + X.length = m) (hYe : m + Y.length = e) :
    Chg L (P ++ Y ++ X ++ S) a b ∧ Halves (P ++ Y ++ X ++ S) a mid b s e := by
  refine ⟨(Chg.rot hL hP hXm hYe fun x hx y hy => ?_).wide h.fa h.fb, ?_⟩
  · obtain ⟨i, i1, i2, i3⟩ := mem_cut (L := L) (R := Y ++ S) (by rw [hL]; simp) hP hXm hx
    obtain ⟨j, j1, j2, j3⟩ := mem_cut (L := L) (P := P ++ X) (X := Y) (R := S) (a := m) hL (by rw [List.length_append]; omega) hYe hy
    obtain ⟨x', hx'⟩ : ∃ x', L[s]? = some x' := ⟨_, List.getElem?_eq_getElem (by have := h.fm; have := h.fe; have := h.fb; omega)⟩
    obtain ⟨y', hy'⟩ : ∃ y', L[e - 1]? = some y' := ⟨_, List.getElem?_eq_getElem (by have := h.fb; omega)⟩
    have q1 := hX.le h.fa i1 i2 hx' i3
    have q2 := hY.le j1 (show j ≤ e - 1 by omega) (by have := h.fb; omega) j3 hy'
    have q3 := h.lt x' y' h1 h2 hx' hy'
    omega
  · have hr := rot_at hL hP hXm hYe
    rw [← h.mid] at hr
    obtain ⟨g1, g2, g3, g4, g5⟩ := sym_cross hX hY h.fa h.fm h.fe h.fb h.mid h.lt h.le hb hr
    exact ⟨by have := h.fm; have := h.mid; have := h.fe; omega, g1, g2, g3, g4, g5⟩
theorem halves_same {L : List Rw} {a m b mid s e : Nat} (h : Part L a m b mid s e) (hX : AscT L a m) (hY : AscT L m b) (hb : b ≤ L.length) (h1 : ¬ s < m ∨ ¬ m < e) : Halves L a mid b s e := by
  have e1 := h.fm
  have e2 := h.fe
  have e3 := h.mid
  obtain ⟨g1, g2, g3, g4, g5⟩ := sym_cross (L2 := L) hX hY h.fa h.fm h.fe h.fb h.mid h.lt h.le hb (fun k => by
    by_cases k1 : k < s
    · rw [if_pos k1]
    · rw [if_neg k1]
      by_cases k2 : k < mid
      · rw [if_pos k2, show k - s + m = k by omega]
      · rw [if_neg k2]
        by_cases k3 : k < e
        · rw [if_pos k3, show k - (e - m) = k by omega]
        · rw [if_neg k3])
  exact ⟨by omega, g1, g2, g3, g4, g5⟩
theorem Halves.first {L : List Rw} {a mid b s e : Nat} (h : Halves L a mid b s e) (hs : s ≤ a ∨ mid ≤ s) : AscT L a mid := by
  rcases hs with hs | hs
  · exact fun p q x y h1 h2 h3 => h.h2 p q x y (by omega) h2 h3
  · exact h.h1.sub (Nat.le_refl _) hs
theorem Halves.last {L : List Rw} {a mid b s e : Nat} (h : Halves L a mid b s e) (hs : e ≤ mid ∨ b ≤ e) : AscT L mid b := by
  rcases hs with hs | hs
  · exact h.h4.sub hs (Nat.le_refl _)
  · exact h.h3.sub (Nat.le_refl _) hs
theorem Halves.left {L M : List Rw} {a mid b s e : Nat} (h : Halves L a mid b s e) (hc : Chg L M a mid) : AscT M mid e ∧ AscT M e b ∧ (e ≤ mid ∨ b ≤ e → AscT M mid b) ∧ ∀ p q x y, a ≤ p → p < mid → mid ≤ q → q < b → M[p]? = some x → M[q]? = some y → ch x ≤ ch y :=
  ⟨h.h3.same (fun k k1 _ => hc.out k (.inr k1)), h.h4.same (fun k k1 _ => hc.out k (.inr (Nat.le_trans h.me k1))), fun hs => (h.last hs).same (fun k k1 _ => hc.out k (.inr k1)), cross_chg h.cr (.inl hc)⟩
theorem halves_done {M N : List Rw} {a mid b : Nat} (h1 : AscT M a mid) (h2 : AscT N mid b) (hc : Chg M N mid b) (hcr : ∀ p q x y, a ≤ p → p < mid → mid ≤ q → q < b → M[p]? = some x → M[q]? = some y → ch x ≤ ch y) : AscT N a b :=
  asc_join (h1.same (fun k _ k1 => hc.out k (.inl k1))) h2 (cross_chg hcr (.inr hc))

theorem lies_len {w W : World} {B g n cap : Nat} {L : List Rw} (h : LiesIn w B g n cap L W) : L.length = n := h.1.len

set_option maxHeartbeats 16000000 in
theorem symMerge_c (B g n cap : Nat) (hn : n ≤ 100000) : ∀ (z a m b : Nat) (L : List Rw) (w : World), b ≤ a + z → a < m → m < b → b ≤ n → AscT L a m → AscT L m b → Lies B g n cap L w →
    Calls Try.prog 106 #[.slice (some ⟨g, 0, none⟩) n cap, .int .i64 (a : Int), .int .i64 (m : Int), .int .i64 (b : Int), cmpV] w (SymEnd w B g n cap a b L) := by
  intro z
  induction z with
  | zero =>
    intro a m b L w h0 h1 h2
    omega
  | succ z ih =>
    intro a m b L w hz ham hmb hb hsX hsY h
    have IH := Lib.hid ih
    clear ih
    by_cases hma : m = a + 1
    · exact sym1_c B g n cap a m b L hma hmb hb hn hsY w h
    by_cases hbm : b = m + 1
    · exact sym2_c B g n cap a m b L (by omega) hbm hb hn hsX w h
    obtain ⟨dm, hdm⟩ : ∃ dm, m = a + dm := ⟨m - a, by omega⟩
    obtain ⟨db, hdb⟩ : ∃ db, b = m + db := ⟨b - m, by omega⟩
    have hw0 : IntKind.i64.wrap ((m : Int) - (a : Int)) = (dm : Int) := by rw [show (m : Int) - (a : Int) = (dm : Int) by omega]; exact IntWalk.i64_in _ (by omega)
    have hdn : ((dm : Int) == 1) = false := by rw [beq_eq_false_iff_ne]; omega
    have hw2 : IntKind.i64.wrap ((b : Int) - (m : Int)) = (db : Int) := by rw [show (b : Int) - (m : Int) = (db : Int) by omega]; exact IntWalk.i64_in _ (by omega)
    have hdn2 : ((db : Int) == 1) = false := by rw [beq_eq_false_iff_ne]; omega
    obtain ⟨mid, hmid⟩ : ∃ mid : Nat, mid = (a + b) / 2 := ⟨_, rfl⟩
    have hw3 : IntKind.i64.wrap ((a : Int) + (b : Int)) = (a : Int) + (b : Int) := IntWalk.i64_in _ (by omega)
    have hhf : ((a : Int) + (b : Int)) / 2 = (mid : Int) := by omega
    obtain ⟨nn, hnn⟩ : ∃ nn, nn = mid + m := ⟨_, rfl⟩
    have hw4 : IntKind.i64.wrap ((mid : Int) + (m : Int)) = (nn : Int) := by rw [show (mid : Int) + (m : Int) = (nn : Int) by omega]; exact IntWalk.i64_in _ (by omega)
    obtain ⟨p, hp⟩ : ∃ p, nn = p + 1 := ⟨nn - 1, by omega⟩
    have hw5 : IntKind.i64.wrap ((nn : Int) - 1) = (p : Int) := by rw [show (nn : Int) - 1 = (p : Int) by omega]; exact IntWalk.i64_in _ (by omega)
    have hlen := h.len
    have HZ := Lib.hid (show (mid ≤ a + z ∧ b ≤ mid + z) ∧ a < mid ∧ mid < b by omega)
    have HMID := Lib.hid hmid
    have HNP := Lib.hid (show p + 1 = mid + m by omega)
    have HNN := Lib.hid hnn
    have H := Lib.hid h
    have HSX := Lib.hid hsX
    have HSY := Lib.hid hsY
    have HLEN := Lib.hid hlen
    have hmn : mid ≤ 100000 := by omega
    have hnb : nn ≤ 200000 := by omega
    by_cases hmm : mid < m
    · obtain ⟨s0, hs0⟩ : ∃ s0, s0 + b = nn := ⟨nn - b, by omega⟩
      have hw6 : IntKind.i64.wrap ((nn : Int) - (b : Int)) = (s0 : Int) := by rw [show (nn : Int) - (b : Int) = (s0 : Int) by omega]; exact IntWalk.i64_in _ (by omega)
      have hmz : (mid : Int) < (m : Int) := by omega
      have HC := Lib.hid (show (mid < m ∧ s0 + b = mid + m ∧ mid = mid) ∨ (m ≤ mid ∧ s0 = a ∧ mid = m) from .inl ⟨hmm, by omega, rfl⟩)
      have hsr : s0 ≤ mid := by omega
      clear h hsX hsY hlen hma hbm hdm hdb hmid hnn hp hs0 hz
      unfold cmpV
      go_enter Try.func106, Try.ntmps106
      go_wp2_with fail
      have HB := Lib.hid (show (a < m ∧ m < b ∧ b ≤ n ∧ n ≤ 100000) ∧ mid ≤ 100000 ∧ nn ≤ 200000 ∧ s0 ≤ mid from ⟨⟨ham, hmb, hb, hn⟩, hmn, hnb, hsr⟩)
      clear hw0 hw2 hw3 hw4 hw5 hw6 ham hmb hb hmn hnb hsr hdn hdn2 hhf hmz hmm
      go_loopw [20, 21] (fun u v wr => ∃ s r : Nat, u = .int .i64 (s : Int) ∧ v = .int .i64 (r : Int) ∧ s0 ≤ s ∧ s ≤ r ∧ r ≤ mid ∧ (∀ c x y, s0 ≤ c → c < s → L[c]? = some x → L[p - c]? = some y → ch x ≤ ch y) ∧ (∀ c x y, r ≤ c → c < mid → L[c]? = some x → L[p - c]? = some y → ch y < ch x) ∧ LiesIn w B g n cap L wr) (fun u v _ => (Go.RowKit.intOf v).toNat - (Go.RowKit.intOf u).toNat)
      case atStart => exact ⟨s0, mid, rfl, rfl, Nat.le_refl _, HB.out.2.2.2, Nat.le_refl _, fun c x y h1 h2 => by omega, fun c x y h1 h2 => by omega, H.out, grown_refl _ _⟩
      case round =>
        rename ∀ (a : Act) (w : World), Code.wp _ _ _ a w → _ => hKK
        have HKK := Lib.hid hKK
        clear hKK
        obtain ⟨s, r, rfl, rfl, hs0, hsr2, hr0, hlo, hhi, hlg⟩ := hrel
        have HLO := Lib.hid hlo
        have HHI := Lib.hid hhi
        have HLG := Lib.hid hlg
        have HS0 := Lib.hid (And.intro hs0 hr0)
        clear hlo hhi hlg hs0 hr0
        have hB := HB.out
        have hn1 := hB.1.2.2.2
        by_cases hlt : s < r
        · obtain ⟨c, hh⟩ : ∃ h : Nat, h = (s + r) / 2 := ⟨_, rfl⟩
          have hrn : r ≤ 100000 := by have := HS0.out; omega
          have hw7 : IntKind.i64.wrap ((s : Int) + (r : Int)) = (s : Int) + (r : Int) := IntWalk.i64_in _ (by omega)
          have hcf : ((s : Int) + (r : Int)) / 2 = (c : Int) := by omega
          have hsc : s ≤ c := by omega
          have hcr : c < r := by omega
          have hcX : a ≤ c ∧ c < m ∧ m ≤ p - c ∧ p - c < b ∧ c ≤ p := by have := HS0.out; have := HC.out; have := HNP.out; have := HMID.out; omega
          obtain ⟨pc, hpc⟩ : ∃ pc, pc = p - c := ⟨_, rfl⟩
          have hw8 : IntKind.i64.wrap ((p : Int) - (c : Int)) = (pc : Int) := by rw [show (p : Int) - (c : Int) = (pc : Int) by omega]; exact IntWalk.i64_in _ (by omega)
          have hc0 : (0 : Int) ≤ (c : Int) := by omega
          have hcn : (c : Int) < (n : Int) := by omega
          have hp0 : (0 : Int) ≤ (pc : Int) := by omega
          have hpn : (pc : Int) < (n : Int) := by omega
          obtain ⟨x, hx⟩ := some_at (show c < L.length by rw [HLEN.out]; omega)
          obtain ⟨y, hy⟩ := some_at (show pc < L.length by rw [HLEN.out]; omega)
          have HX := Lib.hid hx
          have HY := Lib.hid hy
          have HCX := Lib.hid hcX
          have HPC := Lib.hid hpc
          have HSC := Lib.hid (show s ≤ c ∧ c < r ∧ s < r ∧ s ≤ r from ⟨hsc, hcr, hlt, hsr2⟩)
          clear hx hy hcX hpc hh hsc hcr hsr2 hrn hB hn1
          by_cases hcmp : ch y < ch x
          · skip
            have hv : ci (ch y) (ch x) = -1 := by unfold ci; rw [if_pos hcmp]
            have HCM := Lib.hid hcmp
            have HV := Lib.hid hv
            clear hcmp hv
            go_wp2_with fail
            refine quiet_held (LiesIn w B g n cap L) (by kernel_rfl) (by kernel_rfl) HLG.out.drew ?_
            repeat (first
              | go_big_quiet_skip
              | (simp only [hw8])
              | (go_big_quiet_want; go_big_quiet_op; go_big_quiet_on)
              | (go_big_quiet_want; apply Exists.intro; refine ⟨fun wq hq => ?_, ?_⟩; (focus (obtain ⟨⟨d0, d1, d2, d3⟩, -⟩ := hq.1.facts HY.out; obtain ⟨⟨g0, g1, g2, g3⟩, -⟩ := hq.1.facts HX.out; unfold Oper.quietAt; go_simp; all_goals (first | rfl | (refine (ordF_c y x _).mono ?_; rintro e w5 ⟨rfl, hbn⟩; rw [HV.out]; exact ⟨rfl, hq.keep hbn⟩)))); simp only [Act.put, List.setIfInBounds_toArray, List.set_cons_zero, List.set_cons_succ]; go_big_quiet_on))
            refine wpQuiet_nil ?_
            intro wq hq
            have HQ := Lib.hid hq
            clear hq
            go_wp2_with fail
            go_roundw
            case rel =>
              have hB := HB.out
              have hSC := HSC.out
              refine ⟨s, c, rfl, rfl, HS0.out.1, by omega, by have := HS0.out; omega, HLO.out, fun k u v h1 h2 hu hv => ?_, HQ.out⟩
              have hcX := HCX.out
              have hpc := HPC.out
              have hkm : k < m ∧ m ≤ p - k ∧ p - k < b := by have := HS0.out; have := HC.out; have := HNP.out; have := HMID.out; omega
              have q1 := HSX.out.le hcX.1 h1 hkm.1 HX.out hu
              have q2 := HSY.out.le hkm.2.1 (show p - k ≤ pc by omega) (by omega) hv HY.out
              have := HCM.out
              omega
            case measure => simp only [Go.RowKit.intOf]; have := HSC.out; omega
          · skip
            obtain ⟨d, hd0, hv⟩ : ∃ d : Int, 0 ≤ d ∧ ci (ch y) (ch x) = d := ⟨_, by unfold ci; rw [if_neg hcmp]; split <;> omega, rfl⟩
            have HCM := Lib.hid hcmp
            have HV := Lib.hid hv
            have hdd : decide (d < 0) = false := decide_eq_false (by omega)
            clear hcmp hv
            go_wp2_with fail
            refine quiet_held (LiesIn w B g n cap L) (by kernel_rfl) (by kernel_rfl) HLG.out.drew ?_
            repeat (first
              | go_big_quiet_skip
              | (simp only [hw8])
              | (simp only [hdd, Bool.not_false])
              | (go_big_quiet_want; go_big_quiet_op; go_big_quiet_on)
              | (go_big_quiet_want; apply Exists.intro; refine ⟨fun wq hq => ?_, ?_⟩; (focus (obtain ⟨⟨d0, d1, d2, d3⟩, -⟩ := hq.1.facts HY.out; obtain ⟨⟨g0, g1, g2, g3⟩, -⟩ := hq.1.facts HX.out; unfold Oper.quietAt; go_simp; all_goals (first | rfl | (refine (ordF_c y x _).mono ?_; rintro e w5 ⟨rfl, hbn⟩; rw [HV.out]; exact ⟨rfl, hq.keep hbn⟩)))); simp only [Act.put, List.setIfInBounds_toArray, List.set_cons_zero, List.set_cons_succ]; go_big_quiet_on))
            refine wpQuiet_nil ?_
            intro wq hq
            have HQ := Lib.hid hq
            clear hq
            go_wp2_with fail
            go_roundw
            case rel =>
              have hB := HB.out
              have hSC := HSC.out
              refine ⟨c + 1, r, by go_num, rfl, by have := HS0.out; omega, by omega, HS0.out.2, fun k u v h1 h2 hu hv => ?_, HHI.out, HQ.out⟩
              have hcX := HCX.out
              have hpc := HPC.out
              have hkm : a ≤ k ∧ m ≤ p - k ∧ p - k < b := by have := HS0.out; have := HC.out; have := HNP.out; have := HMID.out; omega
              have q1 := HSX.out.le hkm.1 (show k ≤ c by omega) hcX.2.1 hu HX.out
              have q2 := HSY.out.le (show m ≤ pc by omega) (show pc ≤ p - k by omega) hkm.2.2 HY.out hv
              have := HCM.out
              omega
            case measure => simp only [Go.RowKit.intOf]; have := HSC.out; omega
        · have ham := hB.1.1
          have hmb := hB.1.2.1
          have hb := hB.1.2.2.1
          have hrs : r = s := by omega
          have hpart : Part L a m b mid s (mid + m - s) := part_of (s0 := s0) (r0 := mid) ham hmb HMID.out HS0.out.1 (by have := HS0.out; omega) HNP.out (by simpa using HC.out) HLO.out (by rw [← hrs]; exact HHI.out)
          obtain ⟨e, he⟩ : ∃ e, e = mid + m - s := ⟨_, rfl⟩
          rw [← he] at hpart
          have q1 := hpart.fa
          have q2 := hpart.fm
          have q3 := hpart.fe
          have q4 := hpart.fb
          have q5a : mid + m ≤ s + e := by have := hpart.mid; omega
          have q5b : s + e ≤ mid + m := by have := hpart.mid; omega
          have hnlt : ¬ (s : Int) < (r : Int) := by omega
          have hwe : IntKind.i64.wrap ((nn : Int) - (s : Int)) = (e : Int) := by rw [show (nn : Int) - (s : Int) = (e : Int) by have := HNN.out; omega]; exact IntWalk.i64_in _ (by omega)
          have HP := Lib.hid hpart
          have HLL := Lib.hid (lies_len HLG.out)
          clear hpart he hrs
          have hKK := HKK.out
          clear HKK
          by_cases hsm : s < m
          · have d1 : decide (s < m) = true := decide_eq_true hsm
            have z1 : (s : Int) < (m : Int) := by omega
            by_cases hme : m < e
            · have d2 : decide (m < e) = true := decide_eq_true hme
              have z2 : (m : Int) < (e : Int) := by omega
              obtain ⟨P, X, Y, S, hL, hP, hX, hY⟩ := cut4 L q2 q3 (show e ≤ L.length by rw [HLL.out]; omega)
              have hro := rotate_c B g n cap s m e P X Y S hP hX hY (by omega) (by omega) hn cmpV wr (by rw [← hL]; exact HLG.out.1)
              have hha := halves_rot HP.out HSX.out HSY.out (by rw [HLL.out]; exact hb) hsm hme hL hP hX hY
              have HRO := Lib.hid hro
              have HHA := Lib.hid hha
              have hsmid : s < mid := by omega
              have hmide : mid < e := by omega
              clear hro hha hL hP hX hY
              unfold cmpV at HRO
              go_wp2_with fail
              refine HRO.out.mono ?_
              rintro e1 w1 ⟨rfl, hl1, hg1⟩
              obtain ⟨L2, hL2⟩ : ∃ L2, P ++ Y ++ X ++ S = L2 := ⟨_, rfl⟩
              rw [hL2] at hl1
              have HH := Lib.hid (show Chg L L2 a b ∧ Halves L2 a mid b s e by rw [← hL2]; exact HHA.out)
              have HL1 := Lib.hid (show LiesIn w B g n cap L2 w1 from ⟨hl1, grown_trans HLG.out.2 hg1⟩)
              clear hl1 hg1 hL2 HRO HHA
              by_cases has : a < s
              · have d3 : decide (a < s) = true := decide_eq_true has
                have d4 : decide (s < mid) = true := decide_eq_true hsmid
                have z3 : (a : Int) < (s : Int) := by omega
                have z4 : (s : Int) < (mid : Int) := by omega
                have hih := IH.out a s mid L2 w1 (by have := HZ.out; omega) has hsmid (by omega) HH.out.2.h1 HH.out.2.h2 HL1.out.1
                have HIH := Lib.hid hih
                clear hih
                unfold cmpV at HIH
                go_wp2_with fail
                refine HIH.out.mono ?_
                rintro e2 w2 ⟨rfl, L3, hc3, ha3, hl3, hg3⟩
                have HM := Lib.hid (show Chg L L3 a b ∧ AscT L3 a mid ∧ _ from ⟨HH.out.1.trans (hc3.wide (Nat.le_refl _) (by have := HZ.out; omega)), ha3, HH.out.2.left hc3⟩)
                have HL2 := Lib.hid (show LiesIn w B g n cap L3 w2 from ⟨hl3, grown_trans HL1.out.2 hg3⟩)
                clear hc3 ha3 hl3 hg3 HIH HH HL1
                by_cases heb : e < b
                · skip
                  have d5 : decide (mid < e) = true := decide_eq_true hmide
                  have d6 : decide (e < b) = true := decide_eq_true heb
                  have z5 : (mid : Int) < (e : Int) := by omega
                  have z6 : (e : Int) < (b : Int) := by omega
                  have hih := IH.out mid e b L3 w2 (by have := HZ.out; omega) hmide heb hb HM.out.2.2.1 HM.out.2.2.2.1 HL2.out.1
                  have HIH := Lib.hid hih
                  clear hih
                  unfold cmpV at HIH
                  go_wp2_with fail
                  refine HIH.out.mono ?_
                  rintro e3 w3 ⟨rfl, L4, hc4, ha4, hl4, hg4⟩
                  have HF := Lib.hid (show SymEnd w B g n cap a b L (.returned (.tuple #[])) w3 from ⟨rfl, L4, HM.out.1.trans (hc4.wide (by have := HZ.out; omega) (Nat.le_refl _)), halves_done HM.out.2.1 ha4 hc4 HM.out.2.2.2.2.2, hl4, grown_trans HL2.out.2 hg4⟩)
                  clear hc4 ha4 hl4 hg4 HIH
                  go_wp2_with fail
                  go_end0
                  exact HF.out
                · skip
                  have d5 : decide (mid < e) = true := decide_eq_true hmide
                  have d6 : decide (e < b) = false := decide_eq_false heb
                  have z5 : (mid : Int) < (e : Int) := by omega
                  have z6 : ¬ (e : Int) < (b : Int) := by omega
                  have HF := Lib.hid (show SymEnd w B g n cap a b L (.returned (.tuple #[])) w2 from ⟨rfl, L3, HM.out.1, halves_done HM.out.2.1 (HM.out.2.2.2.2.1 (by omega)) (Chg.refl _ _ _) HM.out.2.2.2.2.2, HL2.out.1, HL2.out.2⟩)
                  go_wp2_with fail
                  go_end0
                  exact HF.out
              · have d3 : decide (a < s) = false := decide_eq_false has
                have z3 : ¬ (a : Int) < (s : Int) := by omega
                have HM := Lib.hid (show Chg L L2 a b ∧ AscT L2 a mid ∧ _ from ⟨HH.out.1, HH.out.2.first (by omega), HH.out.2.left (Chg.refl _ _ _)⟩)
                have HL2 := HL1
                obtain ⟨w2, hw2'⟩ : ∃ w2, w2 = w1 := ⟨_, rfl⟩
                obtain ⟨L3, hL3⟩ : ∃ L3, L3 = L2 := ⟨_, rfl⟩
                rw [← hw2'] at HL2 ⊢
                rw [← hL3] at HL2 HM
                clear HL1 HH hw2' hL3
                by_cases heb : e < b
                · skip
                  have d5 : decide (mid < e) = true := decide_eq_true hmide
                  have d6 : decide (e < b) = true := decide_eq_true heb
                  have z5 : (mid : Int) < (e : Int) := by omega
                  have z6 : (e : Int) < (b : Int) := by omega
                  have hih := IH.out mid e b L3 w2 (by have := HZ.out; omega) hmide heb hb HM.out.2.2.1 HM.out.2.2.2.1 HL2.out.1
                  have HIH := Lib.hid hih
                  clear hih
                  unfold cmpV at HIH
                  go_wp2_with fail
                  refine HIH.out.mono ?_
                  rintro e3 w3 ⟨rfl, L4, hc4, ha4, hl4, hg4⟩
                  have HF := Lib.hid (show SymEnd w B g n cap a b L (.returned (.tuple #[])) w3 from ⟨rfl, L4, HM.out.1.trans (hc4.wide (by have := HZ.out; omega) (Nat.le_refl _)), halves_done HM.out.2.1 ha4 hc4 HM.out.2.2.2.2.2, hl4, grown_trans HL2.out.2 hg4⟩)
                  clear hc4 ha4 hl4 hg4 HIH
                  go_wp2_with fail
                  go_end0
                  exact HF.out
                · skip
                  have d5 : decide (mid < e) = true := decide_eq_true hmide
                  have d6 : decide (e < b) = false := decide_eq_false heb
                  have z5 : (mid : Int) < (e : Int) := by omega
                  have z6 : ¬ (e : Int) < (b : Int) := by omega
                  have HF := Lib.hid (show SymEnd w B g n cap a b L (.returned (.tuple #[])) w2 from ⟨rfl, L3, HM.out.1, halves_done HM.out.2.1 (HM.out.2.2.2.2.1 (by omega)) (Chg.refl _ _ _) HM.out.2.2.2.2.2, HL2.out.1, HL2.out.2⟩)
                  go_wp2_with fail
                  go_end0
                  exact HF.out
            · have d2 : decide (m < e) = false := decide_eq_false hme
              have z2 : ¬ (m : Int) < (e : Int) := by omega
              have hme2 : mid = s := by omega
              have hem : e = m := by omega
              have HH := Lib.hid (show Chg L L a b ∧ Halves L a mid b s e from ⟨Chg.refl _ _ _, halves_same HP.out HSX.out HSY.out (by rw [HLL.out]; exact hb) (.inr hme)⟩)
              have HL1 := HLG
              obtain ⟨w1, hw1⟩ : ∃ w1, w1 = wr := ⟨_, rfl⟩
              obtain ⟨L2, hL2⟩ : ∃ L2, L2 = L := ⟨_, rfl⟩
              rw [← hw1] at HL1 ⊢
              rw [← hL2] at HL1
              have HH2 := Lib.hid (show Chg L L2 a b ∧ Halves L2 a mid b s e by rw [hL2]; exact HH.out)
              clear HH
              have HH := HH2
              clear HH2 hw1 hL2
              have has : a < s := by have := HZ.out; omega
              have d3 : decide (a < s) = true := decide_eq_true has
              have d4 : decide (s < mid) = false := decide_eq_false (by omega)
              have z3 : (a : Int) < (s : Int) := by omega
              have z4 : ¬ (s : Int) < (mid : Int) := by omega
              have hmide : mid < e := by omega
              clear hme2 hem
              have HM := Lib.hid (show Chg L L2 a b ∧ AscT L2 a mid ∧ _ from ⟨HH.out.1, HH.out.2.first (by omega), HH.out.2.left (Chg.refl _ _ _)⟩)
              have HL2 := HL1
              obtain ⟨w2, hw2'⟩ : ∃ w2, w2 = w1 := ⟨_, rfl⟩
              obtain ⟨L3, hL3⟩ : ∃ L3, L3 = L2 := ⟨_, rfl⟩
              rw [← hw2'] at HL2 ⊢
              rw [← hL3] at HL2 HM
              clear HL1 HH hw2' hL3
              have heb : e < b := by omega
              have d5 : decide (mid < e) = true := decide_eq_true hmide
              have d6 : decide (e < b) = true := decide_eq_true heb
              have z5 : (mid : Int) < (e : Int) := by omega
              have z6 : (e : Int) < (b : Int) := by omega
              have hih := IH.out mid e b L3 w2 (by have := HZ.out; omega) hmide heb hb HM.out.2.2.1 HM.out.2.2.2.1 HL2.out.1
              have HIH := Lib.hid hih
              clear hih
              unfold cmpV at HIH
              go_wp2_with fail
              refine HIH.out.mono ?_
              rintro e3 w3 ⟨rfl, L4, hc4, ha4, hl4, hg4⟩
              have HF := Lib.hid (show SymEnd w B g n cap a b L (.returned (.tuple #[])) w3 from ⟨rfl, L4, HM.out.1.trans (hc4.wide (by have := HZ.out; omega) (Nat.le_refl _)), halves_done HM.out.2.1 ha4 hc4 HM.out.2.2.2.2.2, hl4, grown_trans HL2.out.2 hg4⟩)
              clear hc4 ha4 hl4 hg4 HIH
              go_wp2_with fail
              go_end0
              exact HF.out
          · have d1 : decide (s < m) = false := decide_eq_false hsm
            have z1 : ¬ (s : Int) < (m : Int) := by omega
            have hse : s = m := by omega
            have hmide2 : mid = e := by omega
            have HH := Lib.hid (show Chg L L a b ∧ Halves L a mid b s e from ⟨Chg.refl _ _ _, halves_same HP.out HSX.out HSY.out (by rw [HLL.out]; exact hb) (.inl hsm)⟩)
            have HL1 := HLG
            obtain ⟨w1, hw1⟩ : ∃ w1, w1 = wr := ⟨_, rfl⟩
            obtain ⟨L2, hL2⟩ : ∃ L2, L2 = L := ⟨_, rfl⟩
            rw [← hw1] at HL1 ⊢
            rw [← hL2] at HL1
            have HH2 := Lib.hid (show Chg L L2 a b ∧ Halves L2 a mid b s e by rw [hL2]; exact HH.out)
            clear HH
            have HH := HH2
            clear HH2 hw1 hL2
            have has : a < s := by omega
            have d3 : decide (a < s) = true := decide_eq_true has
            have z3 : (a : Int) < (s : Int) := by omega
            by_cases hsmid : s < mid
            · have d4 : decide (s < mid) = true := decide_eq_true hsmid
              have z4 : (s : Int) < (mid : Int) := by omega
              have hme3 : ¬ mid < e := by omega
              clear hse hmide2
              have hih := IH.out a s mid L2 w1 (by have := HZ.out; omega) has hsmid (by omega) HH.out.2.h1 HH.out.2.h2 HL1.out.1
              have HIH := Lib.hid hih
              clear hih
              unfold cmpV at HIH
              go_wp2_with fail
              refine HIH.out.mono ?_
              rintro e2 w2 ⟨rfl, L3, hc3, ha3, hl3, hg3⟩
              have HM := Lib.hid (show Chg L L3 a b ∧ AscT L3 a mid ∧ _ from ⟨HH.out.1.trans (hc3.wide (Nat.le_refl _) (by have := HZ.out; omega)), ha3, HH.out.2.left hc3⟩)
              have HL2 := Lib.hid (show LiesIn w B g n cap L3 w2 from ⟨hl3, grown_trans HL1.out.2 hg3⟩)
              clear hc3 ha3 hl3 hg3 HIH HH HL1
              have d5 : decide (mid < e) = false := decide_eq_false hme3
              have z5 : ¬ (mid : Int) < (e : Int) := by omega
              have HF := Lib.hid (show SymEnd w B g n cap a b L (.returned (.tuple #[])) w2 from ⟨rfl, L3, HM.out.1, halves_done HM.out.2.1 (HM.out.2.2.2.2.1 (by omega)) (Chg.refl _ _ _) HM.out.2.2.2.2.2, HL2.out.1, HL2.out.2⟩)
              go_wp2_with fail
              go_end0
              exact HF.out
            · have d4 : decide (s < mid) = false := decide_eq_false hsmid
              have z4 : ¬ (s : Int) < (mid : Int) := by omega
              have hme3 : ¬ mid < e := by omega
              clear hse hmide2
              have HM := Lib.hid (show Chg L L2 a b ∧ AscT L2 a mid ∧ _ from ⟨HH.out.1, HH.out.2.first (by omega), HH.out.2.left (Chg.refl _ _ _)⟩)
              have HL2 := HL1
              obtain ⟨w2, hw2'⟩ : ∃ w2, w2 = w1 := ⟨_, rfl⟩
              obtain ⟨L3, hL3⟩ : ∃ L3, L3 = L2 := ⟨_, rfl⟩
              rw [← hw2'] at HL2 ⊢
              rw [← hL3] at HL2 HM
              clear HL1 HH hw2' hL3
              have d5 : decide (mid < e) = false := decide_eq_false hme3
              have z5 : ¬ (mid : Int) < (e : Int) := by omega
              have HF := Lib.hid (show SymEnd w B g n cap a b L (.returned (.tuple #[])) w2 from ⟨rfl, L3, HM.out.1, halves_done HM.out.2.1 (HM.out.2.2.2.2.1 (by omega)) (Chg.refl _ _ _) HM.out.2.2.2.2.2, HL2.out.1, HL2.out.2⟩)
              go_wp2_with fail
              go_end0
              exact HF.out
    · have hmz : ¬ (mid : Int) < (m : Int) := by omega
      have HC := Lib.hid (show (mid < m ∧ a + b = mid + m ∧ m = mid) ∨ (m ≤ mid ∧ a = a ∧ m = m) from .inr ⟨by omega, rfl, rfl⟩)
      have hsr : a ≤ m := by omega
      clear h hsX hsY hlen hma hbm hdm hdb hmid hnn hp hz
      unfold cmpV
      go_enter Try.func106, Try.ntmps106
      go_wp2_with fail
      have HB := Lib.hid (show (a < m ∧ m < b ∧ b ≤ n ∧ n ≤ 100000) ∧ mid ≤ 100000 ∧ nn ≤ 200000 ∧ a ≤ m from ⟨⟨ham, hmb, hb, hn⟩, hmn, hnb, hsr⟩)
      clear hw0 hw2 hw3 hw4 hw5  ham hmb hb hmn hnb hsr hdn hdn2 hhf hmz hmm
      go_loopw [20, 21] (fun u v wr => ∃ s r : Nat, u = .int .i64 (s : Int) ∧ v = .int .i64 (r : Int) ∧ a ≤ s ∧ s ≤ r ∧ r ≤ m ∧ (∀ c x y, a ≤ c → c < s → L[c]? = some x → L[p - c]? = some y → ch x ≤ ch y) ∧ (∀ c x y, r ≤ c → c < m → L[c]? = some x → L[p - c]? = some y → ch y < ch x) ∧ LiesIn w B g n cap L wr) (fun u v _ => (Go.RowKit.intOf v).toNat - (Go.RowKit.intOf u).toNat)
      case atStart => exact ⟨a, m, rfl, rfl, Nat.le_refl _, HB.out.2.2.2, Nat.le_refl _, fun c x y h1 h2 => by omega, fun c x y h1 h2 => by omega, H.out, grown_refl _ _⟩
      case round =>
        rename ∀ (a : Act) (w : World), Code.wp _ _ _ a w → _ => hKK
        have HKK := Lib.hid hKK
        clear hKK
        obtain ⟨s, r, rfl, rfl, hs0, hsr2, hr0, hlo, hhi, hlg⟩ := hrel
        have HLO := Lib.hid hlo
        have HHI := Lib.hid hhi
        have HLG := Lib.hid hlg
        have HS0 := Lib.hid (And.intro hs0 hr0)
        clear hlo hhi hlg hs0 hr0
        have hB := HB.out
        have hn1 := hB.1.2.2.2
        by_cases hlt : s < r
        · obtain ⟨c, hh⟩ : ∃ h : Nat, h = (s + r) / 2 := ⟨_, rfl⟩
          have hrn : r ≤ 100000 := by have := HS0.out; omega
          have hw7 : IntKind.i64.wrap ((s : Int) + (r : Int)) = (s : Int) + (r : Int) := IntWalk.i64_in _ (by omega)
          have hcf : ((s : Int) + (r : Int)) / 2 = (c : Int) := by omega
          have hsc : s ≤ c := by omega
          have hcr : c < r := by omega
          have hcX : a ≤ c ∧ c < m ∧ m ≤ p - c ∧ p - c < b ∧ c ≤ p := by have := HS0.out; have := HC.out; have := HNP.out; have := HMID.out; omega
          obtain ⟨pc, hpc⟩ : ∃ pc, pc = p - c := ⟨_, rfl⟩
          have hw8 : IntKind.i64.wrap ((p : Int) - (c : Int)) = (pc : Int) := by rw [show (p : Int) - (c : Int) = (pc : Int) by omega]; exact IntWalk.i64_in _ (by omega)
          have hc0 : (0 : Int) ≤ (c : Int) := by omega
          have hcn : (c : Int) < (n : Int) := by omega
          have hp0 : (0 : Int) ≤ (pc : Int) := by omega
          have hpn : (pc : Int) < (n : Int) := by omega
          obtain ⟨x, hx⟩ := some_at (show c < L.length by rw [HLEN.out]; omega)
          obtain ⟨y, hy⟩ := some_at (show pc < L.length by rw [HLEN.out]; omega)
          have HX := Lib.hid hx
          have HY := Lib.hid hy
          have HCX := Lib.hid hcX
          have HPC := Lib.hid hpc
          have HSC := Lib.hid (show s ≤ c ∧ c < r ∧ s < r ∧ s ≤ r from ⟨hsc, hcr, hlt, hsr2⟩)
          clear hx hy hcX hpc hh hsc hcr hsr2 hrn hB hn1
          by_cases hcmp : ch y < ch x
          · skip
            have hv : ci (ch y) (ch x) = -1 := by unfold ci; rw [if_pos hcmp]
            have HCM := Lib.hid hcmp
            have HV := Lib.hid hv
            clear hcmp hv
            go_wp2_with fail
            refine quiet_held (LiesIn w B g n cap L) (by kernel_rfl) (by kernel_rfl) HLG.out.drew ?_
            repeat (first
              | go_big_quiet_skip
              | (simp only [hw8])
              | (go_big_quiet_want; go_big_quiet_op; go_big_quiet_on)
              | (go_big_quiet_want; apply Exists.intro; refine ⟨fun wq hq => ?_, ?_⟩; (focus (obtain ⟨⟨d0, d1, d2, d3⟩, -⟩ := hq.1.facts HY.out; obtain ⟨⟨g0, g1, g2, g3⟩, -⟩ := hq.1.facts HX.out; unfold Oper.quietAt; go_simp; all_goals (first | rfl | (refine (ordF_c y x _).mono ?_; rintro e w5 ⟨rfl, hbn⟩; rw [HV.out]; exact ⟨rfl, hq.keep hbn⟩)))); simp only [Act.put, List.setIfInBounds_toArray, List.set_cons_zero, List.set_cons_succ]; go_big_quiet_on))
            refine wpQuiet_nil ?_
            intro wq hq
            have HQ := Lib.hid hq
            clear hq
            go_wp2_with fail
            go_roundw
            case rel =>
              have hB := HB.out
              have hSC := HSC.out
              refine ⟨s, c, rfl, rfl, HS0.out.1, by omega, by have := HS0.out; omega, HLO.out, fun k u v h1 h2 hu hv => ?_, HQ.out⟩
              have hcX := HCX.out
              have hpc := HPC.out
              have hkm : k < m ∧ m ≤ p - k ∧ p - k < b := by have := HS0.out; have := HC.out; have := HNP.out; have := HMID.out; omega
              have q1 := HSX.out.le hcX.1 h1 hkm.1 HX.out hu
              have q2 := HSY.out.le hkm.2.1 (show p - k ≤ pc by omega) (by omega) hv HY.out
              have := HCM.out
              omega
            case measure => simp only [Go.RowKit.intOf]; have := HSC.out; omega
          · skip
            obtain ⟨d, hd0, hv⟩ : ∃ d : Int, 0 ≤ d ∧ ci (ch y) (ch x) = d := ⟨_, by unfold ci; rw [if_neg hcmp]; split <;> omega, rfl⟩
            have HCM := Lib.hid hcmp
            have HV := Lib.hid hv
            have hdd : decide (d < 0) = false := decide_eq_false (by omega)
            clear hcmp hv
            go_wp2_with fail
            refine quiet_held (LiesIn w B g n cap L) (by kernel_rfl) (by kernel_rfl) HLG.out.drew ?_
            repeat (first
              | go_big_quiet_skip
              | (simp only [hw8])
              | (simp only [hdd, Bool.not_false])
              | (go_big_quiet_want; go_big_quiet_op; go_big_quiet_on)
              | (go_big_quiet_want; apply Exists.intro; refine ⟨fun wq hq => ?_, ?_⟩; (focus (obtain ⟨⟨d0, d1, d2, d3⟩, -⟩ := hq.1.facts HY.out; obtain ⟨⟨g0, g1, g2, g3⟩, -⟩ := hq.1.facts HX.out; unfold Oper.quietAt; go_simp; all_goals (first | rfl | (refine (ordF_c y x _).mono ?_; rintro e w5 ⟨rfl, hbn⟩; rw [HV.out]; exact ⟨rfl, hq.keep hbn⟩)))); simp only [Act.put, List.setIfInBounds_toArray, List.set_cons_zero, List.set_cons_succ]; go_big_quiet_on))
            refine wpQuiet_nil ?_
            intro wq hq
            have HQ := Lib.hid hq
            clear hq
            go_wp2_with fail
            go_roundw
            case rel =>
              have hB := HB.out
              have hSC := HSC.out
              refine ⟨c + 1, r, by go_num, rfl, by have := HS0.out; omega, by omega, HS0.out.2, fun k u v h1 h2 hu hv => ?_, HHI.out, HQ.out⟩
              have hcX := HCX.out
              have hpc := HPC.out
              have hkm : a ≤ k ∧ m ≤ p - k ∧ p - k < b := by have := HS0.out; have := HC.out; have := HNP.out; have := HMID.out; omega
              have q1 := HSX.out.le hkm.1 (show k ≤ c by omega) hcX.2.1 hu HX.out
              have q2 := HSY.out.le (show m ≤ pc by omega) (show pc ≤ p - k by omega) hkm.2.2 HY.out hv
              have := HCM.out
              omega
            case measure => simp only [Go.RowKit.intOf]; have := HSC.out; omega
        · have ham := hB.1.1
          have hmb := hB.1.2.1
          have hb := hB.1.2.2.1
          have hrs : r = s := by omega
          have hpart : Part L a m b mid s (mid + m - s) := part_of (s0 := a) (r0 := m) ham hmb HMID.out HS0.out.1 (by have := HS0.out; omega) HNP.out (by simpa using HC.out) HLO.out (by rw [← hrs]; exact HHI.out)
          obtain ⟨e, he⟩ : ∃ e, e = mid + m - s := ⟨_, rfl⟩
          rw [← he] at hpart
          have q1 := hpart.fa
          have q2 := hpart.fm
          have q3 := hpart.fe
          have q4 := hpart.fb
          have q5a : mid + m ≤ s + e := by have := hpart.mid; omega
          have q5b : s + e ≤ mid + m := by have := hpart.mid; omega
          have hnlt : ¬ (s : Int) < (r : Int) := by omega
          have hwe : IntKind.i64.wrap ((nn : Int) - (s : Int)) = (e : Int) := by rw [show (nn : Int) - (s : Int) = (e : Int) by have := HNN.out; omega]; exact IntWalk.i64_in _ (by omega)
          have HP := Lib.hid hpart
          have HLL := Lib.hid (lies_len HLG.out)
          clear hpart he hrs
          have hKK := HKK.out
          clear HKK
          by_cases hsm : s < m
          · have d1 : decide (s < m) = true := decide_eq_true hsm
            have z1 : (s : Int) < (m : Int) := by omega
            by_cases hme : m < e
            · have d2 : decide (m < e) = true := decide_eq_true hme
              have z2 : (m : Int) < (e : Int) := by omega
              obtain ⟨P, X, Y, S, hL, hP, hX, hY⟩ := cut4 L q2 q3 (show e ≤ L.length by rw [HLL.out]; omega)
              have hro := rotate_c B g n cap s m e P X Y S hP hX hY (by omega) (by omega) hn cmpV wr (by rw [← hL]; exact HLG.out.1)
              have hha := halves_rot HP.out HSX.out HSY.out (by rw [HLL.out]; exact hb) hsm hme hL hP hX hY
              have HRO := Lib.hid hro
              have HHA := Lib.hid hha
              have hsmid : s < mid := by omega
              have hmide : mid < e := by omega
              clear hro hha hL hP hX hY
              unfold cmpV at HRO
              go_wp2_with fail
              refine HRO.out.mono ?_
              rintro e1 w1 ⟨rfl, hl1, hg1⟩
              obtain ⟨L2, hL2⟩ : ∃ L2, P ++ Y ++ X ++ S = L2 := ⟨_, rfl⟩
              rw [hL2] at hl1
              have HH := Lib.hid (show Chg L L2 a b ∧ Halves L2 a mid b s e by rw [← hL2]; exact HHA.out)
              have HL1 := Lib.hid (show LiesIn w B g n cap L2 w1 from ⟨hl1, grown_trans HLG.out.2 hg1⟩)
              clear hl1 hg1 hL2 HRO HHA
              by_cases has : a < s
              · have d3 : decide (a < s) = true := decide_eq_true has
                have d4 : decide (s < mid) = true := decide_eq_true hsmid
                have z3 : (a : Int) < (s : Int) := by omega
                have z4 : (s : Int) < (mid : Int) := by omega
                have hih := IH.out a s mid L2 w1 (by have := HZ.out; omega) has hsmid (by omega) HH.out.2.h1 HH.out.2.h2 HL1.out.1
                have HIH := Lib.hid hih
                clear hih
                unfold cmpV at HIH
                go_wp2_with fail
                refine HIH.out.mono ?_
                rintro e2 w2 ⟨rfl, L3, hc3, ha3, hl3, hg3⟩
                have HM := Lib.hid (show Chg L L3 a b ∧ AscT L3 a mid ∧ _ from ⟨HH.out.1.trans (hc3.wide (Nat.le_refl _) (by have := HZ.out; omega)), ha3, HH.out.2.left hc3⟩)
                have HL2 := Lib.hid (show LiesIn w B g n cap L3 w2 from ⟨hl3, grown_trans HL1.out.2 hg3⟩)
                clear hc3 ha3 hl3 hg3 HIH HH HL1
                by_cases heb : e < b
                · skip
                  have d5 : decide (mid < e) = true := decide_eq_true hmide
                  have d6 : decide (e < b) = true := decide_eq_true heb
                  have z5 : (mid : Int) < (e : Int) := by omega
                  have z6 : (e : Int) < (b : Int) := by omega
                  have hih := IH.out mid e b L3 w2 (by have := HZ.out; omega) hmide heb hb HM.out.2.2.1 HM.out.2.2.2.1 HL2.out.1
                  have HIH := Lib.hid hih
                  clear hih
                  unfold cmpV at HIH
                  go_wp2_with fail
                  refine HIH.out.mono ?_
                  rintro e3 w3 ⟨rfl, L4, hc4, ha4, hl4, hg4⟩
                  have HF := Lib.hid (show SymEnd w B g n cap a b L (.returned (.tuple #[])) w3 from ⟨rfl, L4, HM.out.1.trans (hc4.wide (by have := HZ.out; omega) (Nat.le_refl _)), halves_done HM.out.2.1 ha4 hc4 HM.out.2.2.2.2.2, hl4, grown_trans HL2.out.2 hg4⟩)
                  clear hc4 ha4 hl4 hg4 HIH
                  go_wp2_with fail
                  go_end0
                  exact HF.out
                · skip
                  have d5 : decide (mid < e) = true := decide_eq_true hmide
                  have d6 : decide (e < b) = false := decide_eq_false heb
                  have z5 : (mid : Int) < (e : Int) := by omega
                  have z6 : ¬ (e : Int) < (b : Int) := by omega
                  have HF := Lib.hid (show SymEnd w B g n cap a b L (.returned (.tuple #[])) w2 from ⟨rfl, L3, HM.out.1, halves_done HM.out.2.1 (HM.out.2.2.2.2.1 (by omega)) (Chg.refl _ _ _) HM.out.2.2.2.2.2, HL2.out.1, HL2.out.2⟩)
                  go_wp2_with fail
                  go_end0
                  exact HF.out
              · have d3 : decide (a < s) = false := decide_eq_false has
                have z3 : ¬ (a : Int) < (s : Int) := by omega
                have HM := Lib.hid (show Chg L L2 a b ∧ AscT L2 a mid ∧ _ from ⟨HH.out.1, HH.out.2.first (by omega), HH.out.2.left (Chg.refl _ _ _)⟩)
                have HL2 := HL1
                obtain ⟨w2, hw2'⟩ : ∃ w2, w2 = w1 := ⟨_, rfl⟩
                obtain ⟨L3, hL3⟩ : ∃ L3, L3 = L2 := ⟨_, rfl⟩
                rw [← hw2'] at HL2 ⊢
                rw [← hL3] at HL2 HM
                clear HL1 HH hw2' hL3
                by_cases heb : e < b
                · skip
                  have d5 : decide (mid < e) = true := decide_eq_true hmide
                  have d6 : decide (e < b) = true := decide_eq_true heb
                  have z5 : (mid : Int) < (e : Int) := by omega
                  have z6 : (e : Int) < (b : Int) := by omega
                  have hih := IH.out mid e b L3 w2 (by have := HZ.out; omega) hmide heb hb HM.out.2.2.1 HM.out.2.2.2.1 HL2.out.1
                  have HIH := Lib.hid hih
                  clear hih
                  unfold cmpV at HIH
                  go_wp2_with fail
                  refine HIH.out.mono ?_
                  rintro e3 w3 ⟨rfl, L4, hc4, ha4, hl4, hg4⟩
                  have HF := Lib.hid (show SymEnd w B g n cap a b L (.returned (.tuple #[])) w3 from ⟨rfl, L4, HM.out.1.trans (hc4.wide (by have := HZ.out; omega) (Nat.le_refl _)), halves_done HM.out.2.1 ha4 hc4 HM.out.2.2.2.2.2, hl4, grown_trans HL2.out.2 hg4⟩)
                  clear hc4 ha4 hl4 hg4 HIH
                  go_wp2_with fail
                  go_end0
                  exact HF.out
                · skip
                  have d5 : decide (mid < e) = true := decide_eq_true hmide
                  have d6 : decide (e < b) = false := decide_eq_false heb
                  have z5 : (mid : Int) < (e : Int) := by omega
                  have z6 : ¬ (e : Int) < (b : Int) := by omega
                  have HF := Lib.hid (show SymEnd w B g n cap a b L (.returned (.tuple #[])) w2 from ⟨rfl, L3, HM.out.1, halves_done HM.out.2.1 (HM.out.2.2.2.2.1 (by omega)) (Chg.refl _ _ _) HM.out.2.2.2.2.2, HL2.out.1, HL2.out.2⟩)
                  go_wp2_with fail
                  go_end0
                  exact HF.out
            · have d2 : decide (m < e) = false := decide_eq_false hme
              have z2 : ¬ (m : Int) < (e : Int) := by omega
              have hme2 : mid = s := by omega
              have hem : e = m := by omega
              have HH := Lib.hid (show Chg L L a b ∧ Halves L a mid b s e from ⟨Chg.refl _ _ _, halves_same HP.out HSX.out HSY.out (by rw [HLL.out]; exact hb) (.inr hme)⟩)
              have HL1 := HLG
              obtain ⟨w1, hw1⟩ : ∃ w1, w1 = wr := ⟨_, rfl⟩
              obtain ⟨L2, hL2⟩ : ∃ L2, L2 = L := ⟨_, rfl⟩
              rw [← hw1] at HL1 ⊢
              rw [← hL2] at HL1
              have HH2 := Lib.hid (show Chg L L2 a b ∧ Halves L2 a mid b s e by rw [hL2]; exact HH.out)
              clear HH
              have HH := HH2
              clear HH2 hw1 hL2
              have has : a < s := by have := HZ.out; omega
              have d3 : decide (a < s) = true := decide_eq_true has
              have d4 : decide (s < mid) = false := decide_eq_false (by omega)
              have z3 : (a : Int) < (s : Int) := by omega
              have z4 : ¬ (s : Int) < (mid : Int) := by omega
              have hmide : mid < e := by omega
              clear hme2 hem
              have HM := Lib.hid (show Chg L L2 a b ∧ AscT L2 a mid ∧ _ from ⟨HH.out.1, HH.out.2.first (by omega), HH.out.2.left (Chg.refl _ _ _)⟩)
              have HL2 := HL1
              obtain ⟨w2, hw2'⟩ : ∃ w2, w2 = w1 := ⟨_, rfl⟩
              obtain ⟨L3, hL3⟩ : ∃ L3, L3 = L2 := ⟨_, rfl⟩
              rw [← hw2'] at HL2 ⊢
              rw [← hL3] at HL2 HM
              clear HL1 HH hw2' hL3
              have heb : e < b := by omega
              have d5 : decide (mid < e) = true := decide_eq_true hmide
              have d6 : decide (e < b) = true := decide_eq_true heb
              have z5 : (mid : Int) < (e : Int) := by omega
              have z6 : (e : Int) < (b : Int) := by omega
              have hih := IH.out mid e b L3 w2 (by have := HZ.out; omega) hmide heb hb HM.out.2.2.1 HM.out.2.2.2.1 HL2.out.1
              have HIH := Lib.hid hih
              clear hih
              unfold cmpV at HIH
              go_wp2_with fail
              refine HIH.out.mono ?_
              rintro e3 w3 ⟨rfl, L4, hc4, ha4, hl4, hg4⟩
              have HF := Lib.hid (show SymEnd w B g n cap a b L (.returned (.tuple #[])) w3 from ⟨rfl, L4, HM.out.1.trans (hc4.wide (by have := HZ.out; omega) (Nat.le_refl _)), halves_done HM.out.2.1 ha4 hc4 HM.out.2.2.2.2.2, hl4, grown_trans HL2.out.2 hg4⟩)
              clear hc4 ha4 hl4 hg4 HIH
              go_wp2_with fail
              go_end0
              exact HF.out
          · have d1 : decide (s < m) = false := decide_eq_false hsm
            have z1 : ¬ (s : Int) < (m : Int) := by omega
            have hse : s = m := by omega
            have hmide2 : mid = e := by omega
            have HH := Lib.hid (show Chg L L a b ∧ Halves L a mid b s e from ⟨Chg.refl _ _ _, halves_same HP.out HSX.out HSY.out (by rw [HLL.out]; exact hb) (.inl hsm)⟩)
            have HL1 := HLG
            obtain ⟨w1, hw1⟩ : ∃ w1, w1 = wr := ⟨_, rfl⟩
            obtain ⟨L2, hL2⟩ : ∃ L2, L2 = L := ⟨_, rfl⟩
            rw [← hw1] at HL1 ⊢
            rw [← hL2] at HL1
            have HH2 := Lib.hid (show Chg L L2 a b ∧ Halves L2 a mid b s e by rw [hL2]; exact HH.out)
            clear HH
            have HH := HH2
            clear HH2 hw1 hL2
            have has : a < s := by omega
            have d3 : decide (a < s) = true := decide_eq_true has
            have z3 : (a : Int) < (s : Int) := by omega
            by_cases hsmid : s < mid
            · have d4 : decide (s < mid) = true := decide_eq_true hsmid
              have z4 : (s : Int) < (mid : Int) := by omega
              have hme3 : ¬ mid < e := by omega
              clear hse hmide2
              have hih := IH.out a s mid L2 w1 (by have := HZ.out; omega) has hsmid (by omega) HH.out.2.h1 HH.out.2.h2 HL1.out.1
              have HIH := Lib.hid hih
              clear hih
              unfold cmpV at HIH
              go_wp2_with fail
              refine HIH.out.mono ?_
              rintro e2 w2 ⟨rfl, L3, hc3, ha3, hl3, hg3⟩
              have HM := Lib.hid (show Chg L L3 a b ∧ AscT L3 a mid ∧ _ from ⟨HH.out.1.trans (hc3.wide (Nat.le_refl _) (by have := HZ.out; omega)), ha3, HH.out.2.left hc3⟩)
              have HL2 := Lib.hid (show LiesIn w B g n cap L3 w2 from ⟨hl3, grown_trans HL1.out.2 hg3⟩)
              clear hc3 ha3 hl3 hg3 HIH HH HL1
              have d5 : decide (mid < e) = false := decide_eq_false hme3
              have z5 : ¬ (mid : Int) < (e : Int) := by omega
              have HF := Lib.hid (show SymEnd w B g n cap a b L (.returned (.tuple #[])) w2 from ⟨rfl, L3, HM.out.1, halves_done HM.out.2.1 (HM.out.2.2.2.2.1 (by omega)) (Chg.refl _ _ _) HM.out.2.2.2.2.2, HL2.out.1, HL2.out.2⟩)
              go_wp2_with fail
              go_end0
              exact HF.out
            · have d4 : decide (s < mid) = false := decide_eq_false hsmid
              have z4 : ¬ (s : Int) < (mid : Int) := by omega
              have hme3 : ¬ mid < e := by omega
              clear hse hmide2
              have HM := Lib.hid (show Chg L L2 a b ∧ AscT L2 a mid ∧ _ from ⟨HH.out.1, HH.out.2.first (by omega), HH.out.2.left (Chg.refl _ _ _)⟩)
              have HL2 := HL1
              obtain ⟨w2, hw2'⟩ : ∃ w2, w2 = w1 := ⟨_, rfl⟩
              obtain ⟨L3, hL3⟩ : ∃ L3, L3 = L2 := ⟨_, rfl⟩
              rw [← hw2'] at HL2 ⊢
              rw [← hL3] at HL2 HM
              clear HL1 HH hw2' hL3
              have d5 : decide (mid < e) = false := decide_eq_false hme3
              have z5 : ¬ (mid : Int) < (e : Int) := by omega
              have HF := Lib.hid (show SymEnd w B g n cap a b L (.returned (.tuple #[])) w2 from ⟨rfl, L3, HM.out.1, halves_done HM.out.2.1 (HM.out.2.2.2.2.1 (by omega)) (Chg.refl _ _ _) HM.out.2.2.2.2.2, HL2.out.1, HL2.out.2⟩)
              go_wp2_with fail
              go_end0
              exact HF.out
end Go.Proofs.Ytfeopchghpihoaa
end

section
namespace Go.Proofs.Ytfeopchghpihoaa
open Go.RowKit Go.IntWalk
open Fl
set_option maxRecDepth 100000

/-- each block of s rows, of the first k, is in order -/
def Blk (L : List Rw) (s k : Nat) : Prop := ∀ i, i < k → AscT L (i * s) (i * s + s)
/-- each block of s rows is in order -/
def Blks (L : List Rw) (s : Nat) : Prop := ∀ i, AscT L (i * s) (i * s + s)
theorem blk_le {i k s : Nat} (h : i < k) : i * s + s ≤ k * s := by
  have := Nat.mul_le_mul_right s (show i + 1 ≤ k by omega)
  rw [Nat.add_mul, Nat.one_mul] at this
  exact this
theorem Blk.one {L M : List Rw} {s k : Nat} (h : Blk L s k) (hc : Chg L M (k * s) (k * s + s)) (ha : AscT M (k * s) (k * s + s)) : Blk M s (k + 1) := fun i hi => by
  by_cases e : i = k
  · subst e; exact ha
  · have h1 := blk_le (s := s) (show i < k by omega)
    exact (h i (by omega)).same fun j _ hj => hc.out j (.inl (by omega))
theorem asc_beyond {L : List Rw} {a b n : Nat} (h : AscT L a n) (hl : L.length ≤ n) : AscT L a b := fun p q x y h1 h2 _ hx hy => by
  have := (List.getElem?_eq_some_iff.1 hy).1
  exact h p q x y h1 h2 (by omega) hx hy
theorem asc_none {L : List Rw} {a b : Nat} (hl : L.length ≤ a) : AscT L a b := fun p q x y h1 h2 _ hx hy => by
  have := (List.getElem?_eq_some_iff.1 hy).1
  omega
theorem Blk.last {L M : List Rw} {s k n : Nat} (h : Blk L s k) (hc : Chg L M (k * s) n) (ha : AscT M (k * s) n) (hl : M.length ≤ n) (hk : n < k * s + s) : Blks M s := fun i => by
  rcases Nat.lt_trichotomy i k with e | e | e
  · have h1 := blk_le (s := s) e
    exact (h i e).same fun j _ hj => hc.out j (.inl (by omega))
  · subst e; exact asc_beyond ha hl
  · have h1 := blk_le (s := s) e
    exact asc_none (by omega)
/-- blocks of twice as many rows are in order, of the first k; behind them those of s -/
structure Mix (L : List Rw) (s k : Nat) : Prop where
  two : Blk L (s + s) k
  one : ∀ i, k + k ≤ i → AscT L (i * s) (i * s + s)
theorem Mix.start {L : List Rw} {s : Nat} (h : Blks L s) : Mix L s 0 := ⟨fun i hi => by omega, fun i _ => h i⟩
theorem mix_at (s k : Nat) : (k + k) * s = k * (s + s) := by rw [Nat.add_mul, Nat.mul_add]
theorem Mix.pair {L : List Rw} {s k a : Nat} (h : Mix L s k) (ha : a = k * (s + s)) : AscT L a (a + s) ∧ AscT L (a + s) (a + s + s) := by
  have h1 := h.one (k + k) (Nat.le_refl _)
  have h2 := h.one (k + k + 1) (by omega)
  rw [mix_at, ← ha] at h1
  rw [Nat.add_mul, Nat.one_mul, mix_at, ← ha] at h2
  exact ⟨h1, h2⟩
theorem Mix.step {L M : List Rw} {s k a : Nat} (h : Mix L s k) (ha : a = k * (s + s)) (hc : Chg L M a (a + (s + s))) (hs : AscT M a (a + (s + s))) : Mix M s (k + 1) := by
  subst ha
  refine ⟨h.two.one hc hs, fun i hi => (h.one i (by omega)).same fun j hj _ => hc.out j (.inr ?_)⟩
  have h1 := Nat.mul_le_mul_right s (show k + k + 2 ≤ i by omega)
  rw [Nat.add_mul, mix_at] at h1
  omega
theorem Mix.last {L M : List Rw} {s k a n : Nat} (h : Mix L s k) (ha : a = k * (s + s)) (hc : Chg L M a n) (hs : AscT M a n) (hl : M.length ≤ n) (hk : n < a + (s + s)) : Blks M (s + s) := by
  subst ha
  exact h.two.last hc hs hl hk
theorem Blks.all {L : List Rw} {s n : Nat} (h : Blks L s) (hs : n ≤ s) : AscT L 0 n := by
  have := h 0
  rw [Nat.zero_mul, Nat.zero_add] at this
  exact this.sub (Nat.le_refl _) hs
end Go.Proofs.Ytfeopchghpihoaa
end

section
namespace Go.Proofs.Ytfeopchghpihoaa
open Go.RowKit Go.IntWalk
open Fl
set_option maxRecDepth 100000
attribute [local go_sem] Oper.semAt_some

/-- what a sort of all rows leaves -/
def StEnd (w : World) (B g n cap : Nat) (L : List Rw) (e : Ending) (w' : World) : Prop :=
  e = .returned (.tuple #[]) ∧ ∃ L', Chg L L' 0 n ∧ AscT L' 0 n ∧ Lies B g n cap L' w' ∧ w.grownBy w' (some g)

set_option maxHeartbeats 16000000 in
theorem stable_c (B g n cap : Nat) (L : List Rw) (hn : n ≤ 100000) (w : World) (h : Lies B g n cap L w) :
    Calls Try.prog 101 #[.slice (some ⟨g, 0, none⟩) n cap, .int .i64 (n : Int), cmpV] w (StEnd w B g n cap L) := by
  have H := Lib.hid h
  clear h
  unfold cmpV
  go_enter Try.func101, Try.ntmps101
  go_wp2_with fail
  go_loopw [7, 8] (fun va vb wr => ∃ (a k : Nat) (M : List Rw), va = .int .i64 (a : Int) ∧ vb = .int .i64 ((a + 20 : Nat) : Int) ∧ a ≤ n ∧ Hid (a = k * 20) ∧ Chg L M 0 n ∧ Blk M 20 k ∧ LiesIn w B g n cap M wr) (fun va _ _ => n - (Go.RowKit.intOf va).toNat)
  case atStart => exact ⟨0, 0, L, rfl, rfl, Nat.zero_le _, Lib.hid rfl, Chg.refl _ _ _, fun i hi => by omega, H.out, grown_refl _ _⟩
  case round =>
    clear H
    obtain ⟨a, k, M, rfl, rfl, han, HK, hchg, hblk, hlies⟩ := hrel
    have HC := Lib.hid hchg
    have HB := Lib.hid hblk
    have HL := Lib.hid hlies
    clear hchg hblk hlies
    by_cases hle : a + 20 ≤ n
    · have hz : ((a + 20 : Nat) : Int) ≤ (n : Int) := by omega
      have hw1 : IntKind.i64.wrap (((a + 20 : Nat) : Int) + 20) = ((a + 20 + 20 : Nat) : Int) := by rw [show ((a + 20 : Nat) : Int) + 20 = ((a + 20 + 20 : Nat) : Int) by omega]; exact IntWalk.i64_in _ (by omega)
      have hin := insertion_c B g n cap a (a + 20) M (by omega) hle hn wr HL.out.1
      have HIN := Lib.hid hin
      clear hin
      unfold cmpV at HIN
      go_wp2_with fail
      refine HIN.out.mono ?_
      rintro e w1 ⟨rfl, M', hc', ha', hl', hg'⟩
      have HC' := Lib.hid hc'
      have HA' := Lib.hid ha'
      have HL' := Lib.hid (show LiesIn w B g n cap M' w1 from ⟨hl', grown_trans HL.out.2 hg'⟩)
      clear hc' ha' hl' hg'
      go_wp2_with fail
      go_roundw
      case rel =>
        refine ⟨a + 20, k + 1, M', rfl, rfl, hle, Lib.hid (by have := HK.out; omega), HC.out.trans (HC'.out.wide (Nat.zero_le _) hle), ?_, HL'.out⟩
        have hk := HK.out
        have h1 := HC'.out
        have h2 := HA'.out
        rw [hk] at h1 h2
        exact HB.out.one h1 h2
      case measure => simp only [Go.RowKit.intOf]; omega
    · have hz : ¬ ((a + 20 : Nat) : Int) ≤ (n : Int) := by omega
      have hin := insertion_c B g n cap a n M han (Nat.le_refl _) hn wr HL.out.1
      have HIN := Lib.hid hin
      clear hin
      unfold cmpV at HIN
      go_wp2_with fail
      refine HIN.out.mono ?_
      rintro e w1 ⟨rfl, M', hc', ha', hl', hg'⟩
      have hbs : Blks M' 20 := by
        have hk := HK.out
        rw [hk] at hc' ha' hle
        exact HB.out.last hc' ha' (by rw [hl'.len]; exact Nat.le_refl _) (by omega)
      have HBS := Lib.hid hbs
      have HC2 := Lib.hid (HC.out.trans (hc'.wide (Nat.zero_le _) (Nat.le_refl _)))
      have HL2 := Lib.hid (show LiesIn w B g n cap M' w1 from ⟨hl', grown_trans HL.out.2 hg'⟩)
      clear hc' ha' hl' hg' hbs HC HL HB HK
      go_wp2_with fail
      go_loopw [6] (fun vs w2 => ∃ (s : Nat) (M : List Rw), vs = .int .i64 (s : Int) ∧ 0 < s ∧ s ≤ n + n + 20 ∧ Chg L M 0 n ∧ Blks M s ∧ LiesIn w B g n cap M w2) (fun vs _ => n - (Go.RowKit.intOf vs).toNat)
      case atStart => exact ⟨20, M', rfl, by omega, by omega, HC2.out, HBS.out, HL2.out⟩
      case round =>
        rename World => w2
        clear HBS HC2 HL2
        obtain ⟨s, N, rfl, hs0, hs1, hchg, hblk, hlies⟩ := hrel
        have HC := Lib.hid hchg
        have HB := Lib.hid hblk
        have HL := Lib.hid hlies
        clear hchg hblk hlies
        by_cases hsn : s < n
        · have hz : (s : Int) < (n : Int) := by omega
          obtain ⟨t, ht⟩ : ∃ t, t = s + s := ⟨_, rfl⟩
          have hw1 : IntKind.i64.wrap (2 * (s : Int)) = (t : Int) := by rw [show 2 * (s : Int) = (t : Int) by omega]; exact IntWalk.i64_in _ (by omega)
          have hw2 : IntKind.i64.wrap ((s : Int) * 2) = (t : Int) := by rw [show (s : Int) * 2 = (t : Int) by omega]; exact IntWalk.i64_in _ (by omega)
          have htn : t ≤ 200000 := by omega
          have HT := Lib.hid ht
          clear ht
          go_wp2_with fail
          go_loopw [7, 8] (fun va vb w3 => ∃ (a k : Nat) (M : List Rw), va = .int .i64 (a : Int) ∧ vb = .int .i64 ((a + t : Nat) : Int) ∧ a ≤ n ∧ Hid (a = k * (s + s)) ∧ Chg L M 0 n ∧ Mix M s k ∧ LiesIn w B g n cap M w3) (fun va _ _ => n - (Go.RowKit.intOf va).toNat)
          case atStart => exact ⟨0, 0, N, rfl, by rw [Nat.zero_add], Nat.zero_le _, Lib.hid (Nat.zero_mul _).symm, HC.out, Mix.start HB.out, HL.out⟩
          case round =>
            rename World => w3
            clear HC HB HL
            obtain ⟨a, k, M, rfl, rfl, han, HK, hchg, hmix, hlies⟩ := hrel
            have HC := Lib.hid hchg
            have HM := Lib.hid hmix
            have HL := Lib.hid hlies
            clear hchg hmix hlies
            have hws : IntKind.i64.wrap ((a : Int) + (s : Int)) = ((a + s : Nat) : Int) := by rw [show (a : Int) + (s : Int) = ((a + s : Nat) : Int) by omega]; exact IntWalk.i64_in _ (by omega)
            by_cases hle : a + t ≤ n
            · have hz2 : ((a + t : Nat) : Int) ≤ (n : Int) := by omega
              have hw3 : IntKind.i64.wrap (((a + t : Nat) : Int) + (t : Int)) = ((a + t + t : Nat) : Int) := by rw [show ((a + t : Nat) : Int) + (t : Int) = ((a + t + t : Nat) : Int) by omega]; exact IntWalk.i64_in _ (by omega)
              have hin := symMerge_c B g n cap hn n a (a + s) (a + t) M w3 (by omega) (by omega) (by have := HT.out; omega) hle (HM.out.pair HK.out).1 (by have h := (HM.out.pair HK.out).2; rw [HT.out, ← Nat.add_assoc]; exact h) HL.out.1
              have HIN := Lib.hid hin
              clear hin
              unfold cmpV at HIN
              go_wp2_with fail
              refine HIN.out.mono ?_
              rintro e w4 ⟨rfl, M', hc', ha', hl', hg'⟩
              have HC' := Lib.hid hc'
              have HA' := Lib.hid ha'
              have HL' := Lib.hid (show LiesIn w B g n cap M' w4 from ⟨hl', grown_trans HL.out.2 hg'⟩)
              clear hc' ha' hl' hg'
              go_wp2_with fail
              go_roundw
              case rel =>
                refine ⟨a + t, k + 1, M', rfl, rfl, hle, Lib.hid (by rw [Nat.add_mul, Nat.one_mul, ← HK.out, HT.out]), HC.out.trans (HC'.out.wide (Nat.zero_le _) hle), ?_, HL'.out⟩
                have h1 := HC'.out
                have h2 := HA'.out
                rw [HT.out] at h1 h2
                exact HM.out.step HK.out h1 h2
              case measure => simp only [Go.RowKit.intOf]; have := HT.out; omega
            · have hz2 : ¬ ((a + t : Nat) : Int) ≤ (n : Int) := by omega
              by_cases hlm : a + s < n
              · have hz3 : ((a + s : Nat) : Int) < (n : Int) := by omega
                have hin := symMerge_c B g n cap hn n a (a + s) n M w3 (by omega) (by omega) hlm (Nat.le_refl _) (HM.out.pair HK.out).1 (asc_beyond (n := a + s + s) (HM.out.pair HK.out).2 (by rw [HL.out.1.len]; have := HT.out; omega)) HL.out.1
                have HIN := Lib.hid hin
                clear hin
                unfold cmpV at HIN
                go_wp2_with fail
                refine HIN.out.mono ?_
                rintro e w4 ⟨rfl, M', hc', ha', hl', hg'⟩
                have hbs : Blks M' t := by
                  have ht := HT.out
                  rw [ht]
                  exact HM.out.last HK.out hc' ha' (by rw [hl'.len]; exact Nat.le_refl _) (by omega)
                have HBS := Lib.hid hbs
                have HC' := Lib.hid (HC.out.trans (hc'.wide (Nat.zero_le _) (Nat.le_refl _)))
                have HL' := Lib.hid (show LiesIn w B g n cap M' w4 from ⟨hl', grown_trans HL.out.2 hg'⟩)
                clear hc' ha' hl' hg' hbs
                go_wp2_with fail
                go_roundw
                case rel => exact ⟨t, M', rfl, by have := HT.out; omega, by have := HT.out; omega, HC'.out, HBS.out, HL'.out⟩
                case measure => simp only [Go.RowKit.intOf]; have := HT.out; omega
              · have hz3 : ¬ ((a + s : Nat) : Int) < (n : Int) := by omega
                have hbs : Blks M t := by
                  have ht := HT.out
                  rw [ht]
                  exact HM.out.last HK.out (Chg.refl _ _ _) (asc_beyond (n := a + s) (HM.out.pair HK.out).1 (by rw [HL.out.1.len]; omega)) (by rw [HL.out.1.len]; exact Nat.le_refl _) (by omega)
                have HBS := Lib.hid hbs
                clear hbs
                go_wp2_with fail
                go_roundw
                case rel => exact ⟨t, M, rfl, by have := HT.out; omega, by have := HT.out; omega, HC.out, HBS.out, HL.out⟩
                case measure => simp only [Go.RowKit.intOf]; have := HT.out; omega
        · have hz : ¬ (s : Int) < (n : Int) := by omega
          go_wp2_with fail
          go_end0
          exact ⟨rfl, N, HC.out, HB.out.all (by omega), HL.out.1, HL.out.2⟩

theorem sortStable_c (B g n cap : Nat) (L : List Rw) (hn : n ≤ 100000) (w : World) (h : Lies B g n cap L w) :
    Calls Try.prog 85 #[.slice (some ⟨g, 0, none⟩) n cap, cmpV] w (StEnd w B g n cap L) := by
  have H := Lib.hid (stable_c B g n cap L hn w h)
  clear h
  unfold cmpV at H ⊢
  go_enter Try.func85, Try.ntmps85
  go_wp2_with fail
  refine H.out.mono ?_
  rintro e w1 ⟨rfl, h1⟩
  go_wp2_with fail
  go_end0
  exact ⟨rfl, h1⟩

/-- any rows are put in order -/
theorem ordOk_all {l : List Rw} (hl : l.length ≤ 100000) : OrdOk l := by
  by_cases hs : ascB l = true
  · exact ordOk_asc hs (by unfold maxLen; omega)
  · intro A cap w hc
    have hs2 : ascB l = false := by simpa using hs
    have hpos : 0 < l.length := by
      cases l with
      | nil => exact absurd rfl hs
      | cons _ _ => simp
    obtain ⟨r, hr⟩ := some_at hpos
    obtain ⟨b0, o0, rfl, -⟩ := row_cells hc hr
    have HC := Lib.hid hc
    have HS := Lib.hid hs2
    clear hc hs hs2 hr
    go_enter Try.func64, Try.ntmps64
    go_wp2_with fail
    refine (sorted_c (some ⟨b0, o0, none⟩) cap l (by unfold maxLen; omega) _ HC.out).mono ?_
    rintro e w1 ⟨rfl, hb1⟩
    rw [HS.out]
    have HB1 := Lib.hid hb1
    clear hb1
    go_wp2_with fail
    refine (clone_c (some ⟨b0, o0, none⟩) cap l hl (fun h => by cases h) _ (HC.out.keep HB1.out)).mono ?_
    rintro e w2 ⟨A2, c2, rfl, hown, hb2⟩
    obtain ⟨g, c3, hv, hg, -, -, -, -⟩ := own_some hown hpos
    cases hv
    have HO := Lib.hid hown
    have HB2 := Lib.hid hb2
    have hst := sortStable_c w1.heap.size g l.length c2 l hl w2 hown
    have HST := Lib.hid hst
    clear hown hb2 hst
    unfold cmpV at HST
    go_wp2_with fail
    refine HST.out.mono ?_
    rintro e w3 ⟨rfl, L', hchg, hasc, hlies, hgr⟩
    have hL : L' = srt l := srt_of (asc_all (by rw [hchg.len]; exact hasc)) hchg.flt
    subst hL
    have hb23 : Below w1.heap.size w1 w3 := HB2.out.grown hgr HB2.out.size (fun k hk => by cases hk; exact hg)
    have HL := Lib.hid hlies
    have HB23 := Lib.hid hb23
    clear hchg hasc hlies hgr hb23
    go_wp2_with fail
    go_ret
    obtain ⟨A9, c9, hv, ha9, -, -⟩ := own_at HL.out
    cases hv
    exact ⟨some ⟨g, 0, none⟩, c2, rfl, ha9, HB1.out.trans (HB23.out.mono HB1.out.size)⟩

theorem above_any {l : List Rw} (hl : l.length ≤ 100000) (A : Option Addr) (cap : Nat) (a b : Int) (w : World) (hc : At w w.heap.size A (tvs l)) :
    Calls Try.prog 77 #[.slice A l.length cap, .int .i64 a, .int .i64 b] w fun e W' => e = .returned (.bool (abv l a l.length b)) ∧ Below w.heap.size w W' :=
  above_k A cap l a b hl (ordOk_all hl) w hc
end Go.Proofs.Ytfeopchghpihoaa
end
