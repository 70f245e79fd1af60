/-
  The walk of DictJoins.
-/
import Derived.Test.YtiehmeheilfocaaTo
import Derived.Laws.AppendOwnNone
namespace Go.Proofs.Ytiehmeheilfocaa
open Go.RowKit Go.IntWalk
open Pk Dc Wd
set_option maxRecDepth 100000
attribute [local go_sem] Oper.semAt_some

theorem at_news {w : World} {B b o : Nat} {xs : List Value} (h : At w B (some ⟨b, o, none⟩) xs) : ∀ j u, xs[j]? = some u → w.cell? ((⟨b, o, none⟩ : Addr).add j) = some u := by
  intro j u hu
  obtain ⟨b', o', e, _, hc⟩ := h j u hu
  cases e
  rw [Go.WideShapes.add_plain]
  exact hc
theorem svs_app (a b : List Tx) : svs (a ++ b) = svs a ++ svs b := by simp [svs]
theorem below_own2 {B : Nat} {w w1 w2 : World} {v : Value} {e : TypeId} {size n : Nat} {xs : List Value} (hb : Below B w w1) (hB : B ≤ w1.heap.size) (hown : w1.ownsRow B e size v n xs) (hg : w1.grownBy w2 v.ownBlock) : Below B w w2 :=
  hb.grown hg hB (fun k hk => (hown.lt k hk).1)
theorem own_emptyS (w : World) : (w.alloc (.cells #[] 9)).ownsRow w.heap.size 9 1 (.slice (some ⟨w.heap.size, 0, none⟩) 0 0) 0 (svs []) :=
  World.ownsRow_made w #[] 0 (Nat.le_refl _) (by unfold maxLen; omega) rfl

/-- append of texts that came in, or of none -/
theorem append_optS (w : World) {ops : Array Oper} {rest : List Oper} {o : Oper} {a : Act} {Q : Exit → Act → World → Prop}
    (hg : o.guard = none) (s x : Operand) (hop : o.op = Op.call { callee := Callee.builtin Builtin.append, args := #[s, x], argTypes := #[39, 39] })
    (base : Nat) (v : Value) (k : Nat) (us : List Tx) (hs : a.eval s = v) (hown : w.ownsRow base 9 1 v k (svs us)) (A : Option Addr) (c : Nat) (vs : List Tx) (hx : a.eval x = .slice A vs.length c) (hn : A = none → c = 0) (hvl : vs.length ≤ c)
    (hc : At w base A (svs vs)) (hlen : k + vs.length ≤ 100000) (b3 : base ≤ w.heap.size)
    (hK : ∀ v' w', w'.ownsRow base 9 1 v' (k + vs.length) (svs (us ++ vs)) → w.grownBy w' v.ownBlock → wpList Try.prog ops Q rest (a.put o.dst v') w') :
    wpList Try.prog ops Q (o :: rest) a w := by
  obtain ⟨i0, hi, hz0, hz1, hz2⟩ := info_parts Try.info9
  rcases A with _ | ⟨b, off, spot⟩
  · obtain rfl : c = 0 := hn rfl
    obtain rfl : vs = [] := List.eq_nil_of_length_eq_zero (by omega)
    exact wpList_append_own_none hg s x _ hop base _ i0 1 Try.underlying39 hi v k (svs us) hs hown hx (hK v w (by simpa using hown) (World.grownBy.refl w _))
  · by_cases hv : vs = []
    · subst hv
      refine wpList_append_own w hg s x _ hop base _ i0 (.string ByteArray.empty) 1 16 Try.underlying39 hi hz0 hz1 hz2 rfl (by decide) v k (svs us) hs hown ⟨b, off, spot⟩ 0 c [] hx rfl (fun j u hu => by simp at hu) (fun u hu => by simp at hu) (by unfold maxLen; simp at hlen; omega) (by simp at hlen; omega) b3 ?_
      intro v' w' h1 h2 _
      exact hK v' w' (by simpa using h1) h2
    · obtain ⟨y, ys, rfl⟩ : ∃ y ys, vs = y :: ys := by cases vs with | nil => exact absurd rfl hv | cons y ys => exact ⟨y, ys, rfl⟩
      obtain ⟨b', off', e, _, _⟩ := hc 0 _ rfl
      cases e
      refine wpList_append_own w hg s x _ hop base _ i0 (.string ByteArray.empty) 1 16 Try.underlying39 hi hz0 hz1 hz2 rfl (by decide) v k (svs us) hs hown ⟨b, off, none⟩ (y :: ys).length c (svs (y :: ys)) hx (by rw [svs_len, Nat.mul_one]) (at_news hc) (svs_one _) (by unfold maxLen; omega) (by omega) b3 ?_
      intro v' w' h1 h2 _
      exact hK v' w' (by rw [svs_app]; exact h1) h2

theorem at_pre {w : World} {B : Nat} {A : Option Addr} {xs ys : List Value} (h : At w B A (xs ++ ys)) : At w B A xs := fun j u hj => h j u (by rw [List.getElem?_append_left (List.getElem?_eq_some_iff.1 hj).1]; exact hj)
theorem same4_e {A1 A2 : Option Addr} {c1 c2 n m : Nat} (xs : List Tx) (hn : xs.length = n) (hm : xs.length = m) (hx : n ≤ 100000) {w : World} (h1 : At w w.heap.size A1 (svs xs)) (h2 : At w w.heap.size A2 (svs xs)) :
    Calls Try.prog 32 #[.slice A1 n c1, .slice A2 m c2] w fun e w' => e = .returned (.bool true) ∧ Below w.heap.size w w' := by
  refine (same4_k xs xs hn hm hx (by omega) h1 h2).mono ?_
  rintro e w' ⟨rfl, h⟩
  exact ⟨by simp, h⟩
theorem same6_e {A1 A2 : Option Addr} {c1 c2 n m : Nat} (xs : List Nat) (hn : xs.length = n) (hm : xs.length = m) (hx : n ≤ 100000) {w : World} (h1 : At w w.heap.size A1 (uvs xs)) (h2 : At w w.heap.size A2 (uvs xs)) :
    Calls Try.prog 33 #[.slice A1 n c1, .slice A2 m c2] w fun e w' => e = .returned (.bool true) ∧ Below w.heap.size w w' := by
  refine (same6_k xs xs hn hm hx (by omega) h1 h2).mono ?_
  rintro e w' ⟨rfl, h⟩
  exact ⟨by simp, h⟩
/-- a word of l ++ m that stands beyond the words of l is m's and not l's -/
theorem beyond {l m : List Tx} {k : Nat} {x : Tx} (hk : (ws [] l).length ≤ k) (hx : (ws [] (l ++ m))[k]? = some x) : x ∉ l ∧ x ∈ m := by
  obtain ⟨Y, hY⟩ : ∃ Y, ws [] (l ++ m) = ws [] l ++ Y := by rw [ws_app]; exact ws_pre m _
  have hn := ws_nil_nodup (l ++ m)
  have h1 : x ∈ ws [] (l ++ m) := List.mem_of_getElem? hx
  have h2 : x ∈ l ++ m := by rw [mem_ws] at h1; simpa using h1
  have h3 : x ∉ l := by
    intro hl
    have h4 : x ∈ ws [] l := by rw [mem_ws]; exact Or.inr hl
    rw [hY] at hn hx
    rw [List.getElem?_append_right hk] at hx
    exact (List.nodup_append.1 hn).2.2 x h4 x (List.mem_of_getElem? hx) rfl
  exact ⟨h3, by rcases List.mem_append.1 h2 with h | h; exact absurd h h3; exact h⟩

theorem cell_drewE {w w' : World} {a : Addr} {v : Value} (h : w.cell? a = some v) (hq : ∃ q, w' = w.drewN q) : w'.cell? a = some v := by
  obtain ⟨q, rfl⟩ := hq
  exact h
theorem take_not {m : List Tx} {i : Nat} {x y : Tx} (hy : m[i]? = some y) (h : x ∉ m.take i) (hxy : ¬ y = x) : x ∉ m.take (i + 1) := by
  rw [List.take_add_one, hy]
  simp [h]
  exact fun e => hxy e.symm

namespace dictJoins
set_option maxHeartbeats 16000000 in
theorem walk (A1 : Option Addr) (c1 : Nat) (l : List Tx) (A2 : Option Addr) (c2 : Nat) (m : List Tx) (hn1 : A1 = none → c1 = 0) (hk1 : l.length ≤ c1) (hz1 : l.length ≤ maxLen) (ht1 : ∀ t ∈ l, t.length ≤ maxLen) (hn2 : A2 = none → c2 = 0) (hk2 : m.length ≤ c2) (hz2 : m.length ≤ maxLen) (ht2 : ∀ t ∈ m, t.length ≤ maxLen) (w : World) (h1 : At w w.heap.size A1 (svs l)) (h2 : At w w.heap.size A2 (svs m)) :
    Calls Try.prog 12 #[.slice A1 l.length c1, .slice A2 m.length c2] w fun e w' => e = .returned (.bool true) ∧ Below w.heap.size w w' := by
  have hnot : ∀ (x : Bool) (w : World), (Op.unary .not (.bool x)).run Try.prog w = .ok (.bool (!x)) w := fun _ _ => rfl
  have H1 := Lib.hid h1
  have H2 := Lib.hid h2
  have HN1 := Lib.hid hn1
  have HN2 := Lib.hid hn2
  have HF1 := Lib.hid (few_c A1 c1 l 40 60 40 60 rfl rfl (by decide) (by decide) hz1 ht1 w h1)
  have HF2 := Lib.hid (few_c A2 c2 m 40 60 40 60 rfl rfl (by decide) (by decide) hz2 ht2 w h2)
  clear h1 h2 hn1 hn2 ht1 ht2
  cases hf1 : fewV l 40 60
  · rw [hf1] at HF1
    clear hf1 HF2
    go_enter Try.func12, Try.ntmps12
    go_wp2_with fail
    refine HF1.out.mono ?_
    rintro e w ⟨rfl, rfl⟩
    go_wp2_with fail
    refine (live8_c _).mono ?_
    rintro e w1 ⟨rfl, hb1⟩
    go_wp2
    go_ret
    exact ⟨rfl, hb1⟩
  · cases hf2 : fewV m 40 60
    · rw [hf1] at HF1
      rw [hf2] at HF2
      clear hf1 hf2
      go_enter Try.func12, Try.ntmps12
      go_wp2_with fail
      refine HF1.out.mono ?_
      rintro e w ⟨rfl, rfl⟩
      go_wp2_with fail
      refine HF2.out.mono ?_
      rintro e w ⟨rfl, rfl⟩
      go_wp2_with fail
      refine (live8_c _).mono ?_
      rintro e w1 ⟨rfl, hb1⟩
      go_wp2
      go_ret
      exact ⟨rfl, hb1⟩
    · obtain ⟨l40, lt60⟩ := few_true hf1
      obtain ⟨m40, mt60⟩ := few_true hf2
      rw [hf1] at HF1
      rw [hf2] at HF2
      clear hf1 hf2 hz1 hz2
      have hlx : l.length ≤ 100000 := by omega
      have hmx : m.length ≤ 100000 := by omega
      have HT := Lib.hid (show ∀ t ∈ l, t.length ≤ 100000 from fun t ht => Nat.le_trans (lt60 t ht) (by omega))
      have HTA := Lib.hid (show ∀ t ∈ l ++ m, t.length ≤ 100000 from fun t ht => by
        rcases List.mem_append.1 ht with h | h
        · exact Nat.le_trans (lt60 t h) (by omega)
        · exact Nat.le_trans (mt60 t h) (by omega))
      have HOL := Lib.hid (own_emptyS w)
      have hal : (l ++ m).length = l.length + m.length := List.length_append
      have HAL := Lib.hid hal
      have hax : l.length + m.length ≤ 100000 := by omega
      obtain ⟨V, hV⟩ : ∃ V, V = ws [] l := ⟨_, rfl⟩
      have hVl : V.length ≤ l.length := by rw [hV]; have := ws_len l []; simp at this; omega
      obtain ⟨X, hX⟩ : ∃ X, X = ws [] (l ++ m) := ⟨_, rfl⟩
      have hXl : X.length ≤ l.length + m.length := by rw [hX]; have := ws_len (l ++ m) []; simp at this; omega
      obtain ⟨Y, hY⟩ : ∃ Y, X = V ++ Y := by rw [hX, hV, ws_app]; exact ws_pre m _
      have hVX : V.length ≤ X.length := by rw [hY, List.length_append]; omega
      have HV := Lib.hid hV
      have HX := Lib.hid hX
      have HY := Lib.hid hY
      have HPL := Lib.hid (show (pl [] l).length = l.length from pl_len l [])
      have HPA := Lib.hid (show (pl [] (l ++ m)).length = l.length + m.length by rw [pl_len]; exact hal)
      have HPP := Lib.hid (show (pl [] (l ++ m)).take l.length = pl [] l by rw [pl_app, List.take_left' (pl_len l [])])
      clear lt60 mt60 hal hV hX hY
      go_enter Try.func12, Try.ntmps12
      go_wp2_with fail
      refine HF1.out.mono ?_
      rintro e w ⟨rfl, rfl⟩
      go_wp2_with fail
      refine HF2.out.mono ?_
      rintro e w ⟨rfl, rfl⟩
      go_wp2_with (first
        | (at_builtin; refine append_optS _ rfl _ _ rfl w.heap.size _ 0 [] rfl HOL.out A1 c1 l rfl HN1.out hk1 (H1.out.below ((Below.refl _ _).alloc (Nat.le_refl _) _)) (by omega) (by simp) ?_; intro v1 w1 hown1 hgrow1; have hb1 := below_own2 ((Below.refl w.heap.size w).alloc (Nat.le_refl _) _) (by simp) HOL.out hgrow1; have hs1 := hb1.size; have HOWN := Lib.hid hown1; clear HOL hown1 hgrow1)
        | (at_builtin; refine append_optS _ rfl _ _ rfl w.heap.size _ _ _ rfl HOWN.out A2 c2 m rfl HN2.out hk2 (H2.out.below hb1) (by omega) hs1 ?_; intro v2 w2 hown2 hgrow2; have hb2 := below_own2 hb1 hs1 HOWN.out hgrow2; have hown3 : w2.ownsRow w.heap.size 9 1 v2 (l.length + m.length) (svs (l ++ m)) := (by simpa using hown2); obtain ⟨Aa, ca, rfl, hata, -, -⟩ := own_at hown3; have HATA := Lib.hid hata; clear HOWN hown2 hown3 hgrow2 hb1 hs1 hata))
      refine (words_k l V (pl [] l) HV.out.symm rfl rfl rfl hlx HT.out (H1.out.keep hb2)).mono ?_
      rintro e w3 ⟨B1, k1, B2, k2, rfl, hk31, hk32, hat1, hat2, hm3⟩
      have HW := Lib.hid hat1
      have HP := Lib.hid hat2
      have HATA := Lib.hid (HATA.out.keep hm3)
      have hb3 := hb2.trans (hm3.mono hb2.size)
      clear hat1 hat2 hm3 hb2
      go_wp2_with fail
      refine (words_k (l ++ m) X (pl [] (l ++ m)) HX.out.symm rfl HAL.out rfl hax HTA.out HATA.out).mono ?_
      rintro e w4 ⟨B3, k3, B4, k4, rfl, hk41, hk42, hat3, hat4, hm4⟩
      have HXA := Lib.hid hat3
      have HQA := Lib.hid hat4
      have HW := Lib.hid (HW.out.keep hm4)
      have HP := Lib.hid (HP.out.keep hm4)
      have HATA := Lib.hid (HATA.out.keep hm4)
      have hb4 := hb3.trans (hm4.mono hb3.size)
      clear hat3 hat4 hm4 hb3
      have g1 : decide ((X.length : Int) < (V.length : Int)) = false := by simp; omega
      have g2 : ((l.length : Int) + (m.length : Int) != (l.length : Int) + (m.length : Int)) = false := by simp
      have g3 : (V.length : Int) ≤ (k3 : Int) := by omega
      have g4 : (l.length : Int) ≤ (k4 : Int) := by omega
      go_wp2_with fail
      refine (same4_e V rfl rfl (by omega) (at_pre (by rw [← svs_app, ← HY.out]; exact HXA.out)) HW.out).mono ?_
      rintro e w5 ⟨rfl, hm5⟩
      have HP := Lib.hid (HP.out.keep hm5)
      have HXA := Lib.hid (HXA.out.keep hm5)
      have HQA := Lib.hid (HQA.out.keep hm5)
      have HATA := Lib.hid (HATA.out.keep hm5)
      have hb5 := hb4.trans (hm5.mono hb4.size)
      clear hm5 hb4 HW
      go_wp2_with fail
      refine (same6_e (pl [] l) HPL.out HPL.out (by omega) (at_pre (ys := uvs (pl (ws [] l) m)) (by rw [show uvs (pl [] l) ++ uvs (pl (ws [] l) m) = uvs (pl [] (l ++ m)) from by rw [pl_app]; simp [uvs]]; exact HQA.out)) HP.out).mono ?_
      rintro e w6 ⟨rfl, hm6⟩
      have HXA := Lib.hid (HXA.out.keep hm6)
      have HQA := Lib.hid (HQA.out.keep hm6)
      have HATA := Lib.hid (HATA.out.keep hm6)
      have hb6 := hb5.trans (hm6.mono hb5.size)
      clear hm6 hb5 HP
      go_wp2_with fail
      refine (pick_k X (pl [] (l ++ m)) (l ++ m) true (by rw [HX.out]; exact pk_ws (l ++ m)) rfl HPA.out HAL.out (by omega) hax HXA.out HQA.out).mono ?_
      rintro e w7 ⟨A5, c5, rfl, hat5, hm7⟩
      have HBK := Lib.hid hat5
      have HXA := Lib.hid (HXA.out.keep hm7)
      have HATA := Lib.hid (HATA.out.keep hm7)
      have hb7 := hb6.trans (hm7.mono hb6.size)
      clear hm7 hb6 HQA hat5
      go_wp2_with fail
      refine (same4_e (l ++ m) HAL.out HAL.out hax HBK.out HATA.out).mono ?_
      rintro e w8 ⟨rfl, hm8⟩
      have HXA := Lib.hid (HXA.out.keep hm8)
      have hb8 := hb7.trans (hm8.mono hb7.size)
      have HL := Lib.hid (H1.out.keep hb8)
      have HM := Lib.hid (H2.out.keep hb8)
      have HB8 := Lib.hid hb8
      have HQ := Lib.hid (show ∃ q, w8 = w8.drewN q from ⟨0, rfl⟩)
      clear hm8 hb7 hb8 HBK HATA
      go_wp2_with fail
      go_loopg [12] X.length (fun g i wr2 => ∃ k : Nat, i = .int .i64 (k : Int) ∧ X.length - k ≤ g ∧ V.length ≤ k ∧ k ≤ X.length ∧ ∃ q, wr2 = w8.drewN q)
      case atStart => exact ⟨V.length, rfl, Nat.sub_le _ _, Nat.le_refl _, hVX, HQ.out⟩
      case round =>
        clear HQ
        obtain ⟨k, rfl, hmk, hvk, hk, hq⟩ := hrel
        have HQ := Lib.hid hq
        clear hq
        by_cases hlt : k < X.length
        · obtain ⟨x, hx⟩ := some_at hlt
          have hb := beyond (l := l) (m := m) (by rw [← HV.out]; exact hvk) (by rw [← HX.out]; exact hx)
          have HNL := Lib.hid hb.1
          have HIM := Lib.hid hb.2
          obtain ⟨b1, o1, rfl, _, hcx0⟩ := HXA.out k _ (svs_at hx)
          have HCX := Lib.hid hcx0
          have hk2 : (k : Int) < (X.length : Int) := by omega
          clear hb hx hcx0
          go_wp2_with fail
          go_loopg [13, 14] m.length (fun g bv j wr2 => ∃ (i : Nat) (c : Bool), bv = .bool c ∧ j = .int .i64 (i : Int) ∧ m.length - i ≤ g ∧ i ≤ m.length ∧ (c = false → x ∉ m.take i) ∧ ∃ q, wr2 = w8.drewN q)
          case atStart => exact ⟨0, false, rfl, rfl, Nat.le_refl _, Nat.zero_le _, by simp, HQ.out⟩
          case round =>
            clear HQ
            obtain ⟨i, c, rfl, rfl, hmi, hi, hnot', hq⟩ := hrel
            have HQ := Lib.hid hq
            have HNO := Lib.hid hnot'
            clear hq hnot'
            by_cases hil : i < m.length
            · cases c
              · obtain ⟨y, hy⟩ := some_at hil
                obtain ⟨b2, o2, rfl, _, hcy⟩ := (at_drewE HM.out HQ.out) i _ (svs_at hy)
                have hi2 : (i : Int) < (m.length : Int) := by omega
                have hcx := cell_drewE HCX.out HQ.out
                have HST := Lib.hid (take_not hy (HNO.out rfl))
                clear hy HNO
                by_cases hxy : y = x
                · have hs0 : ((ba y).toList == (ba x).toList) = true := by rw [ba_beq]; simp [hxy]
                  go_wp2_with fail
                  go_quiet (fail)
                  go_wp2_with fail
                  go_roundg (m.length - (i + 1))
                  case measure => omega
                  case rel => exact ⟨i + 1, true, rfl, by go_num, Nat.le_refl _, by omega, by simp, drewE HQ.out _⟩
                · have hs0 : ((ba y).toList == (ba x).toList) = false := by rw [ba_beq]; simp [hxy]
                  go_wp2_with fail
                  go_quiet (fail)
                  go_wp2_with fail
                  go_roundg (m.length - (i + 1))
                  case measure => omega
                  case rel => exact ⟨i + 1, false, rfl, by go_num, Nat.le_refl _, by omega, fun _ => HST.out hxy, drewE HQ.out _⟩
              · go_wp2_with fail
                go_quiet (fail)
                go_wp2_with fail
                go_roundg (m.length - (i + 1))
                case measure => omega
                case rel => exact ⟨i + 1, true, rfl, by go_num, Nat.le_refl _, by omega, by simp, drewE HQ.out _⟩
            · obtain rfl : i = m.length := by omega
              obtain rfl : c = true := by
                cases c
                · exact absurd HIM.out (by have := HNO.out rfl; rwa [List.take_length] at this)
                · rfl
              clear HNO hmi hi hil
              go_wp2_with fail
              go_loopg [13, 15] l.length (fun g bv j wr2 => ∃ i : Nat, bv = .bool true ∧ j = .int .i64 (i : Int) ∧ l.length - i ≤ g ∧ i ≤ l.length ∧ ∃ q, wr2 = w8.drewN q)
              case atStart => exact ⟨0, rfl, rfl, Nat.le_refl _, Nat.zero_le _, HQ.out⟩
              case round =>
                clear HQ
                obtain ⟨i, rfl, rfl, hmi, hi, hq⟩ := hrel
                have HQ := Lib.hid hq
                clear hq
                by_cases hil : i < l.length
                · obtain ⟨y, hy⟩ := some_at hil
                  obtain ⟨b2, o2, rfl, _, hcy⟩ := (at_drewE HL.out HQ.out) i _ (svs_at hy)
                  have hi2 : (i : Int) < (l.length : Int) := by omega
                  have hcx := cell_drewE HCX.out HQ.out
                  have hxy : y ≠ x := fun e => HNL.out (e ▸ List.mem_of_getElem? hy)
                  have hs0 : ((ba y).toList == (ba x).toList) = false := by rw [ba_beq]; simp [hxy]
                  have hs1 : ((ba y).toList != (ba x).toList) = true := by rw [bne, hs0]; rfl
                  clear hy hxy
                  go_wp2_with fail
                  go_quiet (fail)
                  go_wp2_with fail
                  go_roundg (l.length - (i + 1))
                  case measure => omega
                  case rel => exact ⟨i + 1, rfl, by go_num, Nat.le_refl _, by omega, drewE HQ.out _⟩
                · obtain rfl : i = l.length := by omega
                  go_wp2_with fail
                  go_roundg (X.length - (k + 1))
                  case measure => omega
                  case rel => exact ⟨k + 1, by go_num, Nat.le_refl _, by omega, by omega, HQ.out⟩
        · obtain rfl : k = X.length := by omega
          obtain ⟨q, hq⟩ := HQ.out
          have hb9 : Below w.heap.size w wr := by rw [hq]; exact below_drewN HB8.out q
          clear hq hmk hk hlt
          go_wp2_with fail
          refine (live8_c _).mono ?_
          rintro e w4 ⟨rfl, hm4⟩
          go_wp2
          go_ret
          exact ⟨rfl, hb9.trans (hm4.mono hb9.size)⟩
end dictJoins
end Go.Proofs.Ytiehmeheilfocaa
