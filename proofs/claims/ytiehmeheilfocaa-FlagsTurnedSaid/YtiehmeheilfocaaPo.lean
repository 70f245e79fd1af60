/-
  The walk of FlagsTurned.
-/
import Derived.Test.YtiehmeheilfocaaPl
namespace Go.Proofs.Ytiehmeheilfocaa
open Go.RowKit Go.IntWalk
open Pk
set_option maxRecDepth 100000
attribute [local go_sem] Oper.semAt_some

def nots (l : List Bool) : List Bool := l.map fun b => !b
theorem nots_len (l : List Bool) : (nots l).length = l.length := by simp [nots]
theorem nots_take {l : List Bool} {k : Nat} {x : Bool} (h : l[k]? = some x) : nots (l.take (k + 1)) = nots (l.take k) ++ [!x] := by
  rw [List.take_add_one, h]; simp [nots]
theorem lens_nots (l : List Bool) : ∀ f, lens f (nots l) = lens (!f) l := by
  induction l with
  | nil => intro f; rfl
  | cons b t ih =>
    intro f
    show lens f ((!b) :: nots t) = _
    rw [lens, lens]
    by_cases h : b = !f
    · have h1 : (!b) = f := by rw [h, Bool.not_not]
      rw [if_pos h, if_pos h1, ih]
    · have h1 : ¬ (!b) = f := fun e => h (by rw [← e, Bool.not_not])
      rw [if_neg h, if_neg h1, ih, Bool.not_not]
theorem cnt_nots (l : List Bool) : cnt l + cnt (nots l) = l.length := by
  induction l with
  | nil => rfl
  | cons b t ih =>
    show cnt (b :: t) + cnt ((!b) :: nots t) = _
    unfold cnt at ih ⊢
    cases b <;> simp <;> omega
/-- the lengths of a list and of the one turned about -/
theorem turn_cons (l : List Bool) (f : Bool) (hl : l[0]? = some f) : ∃ (r0 : Nat) (rs : List Int), 1 ≤ r0 ∧ r0 ≤ l.length ∧ rs.length ≤ l.length ∧
    (f = true → lenI l = 0 :: (r0 : Int) :: rs ∧ lenI (nots l) = (r0 : Int) :: rs) ∧ (f = false → lenI l = (r0 : Int) :: rs ∧ lenI (nots l) = 0 :: (r0 : Int) :: rs) := by
  cases l with
  | nil => simp at hl
  | cons b t =>
    simp at hl
    subst hl
    obtain ⟨n, hn⟩ := incL_head (lens b t)
    have hb : lens b (b :: t) = (n + 1) :: (lens b t).tail := by rw [lens_eq, hn]
    have hle : n + 1 ≤ (b :: t).length := lens_le (f := b) (by rw [hb]; simp)
    have hlen := lens_len b t
    refine ⟨n + 1, (lens b t).tail.map fun (n : Nat) => (n : Int), by omega, hle, by rw [List.length_map, List.length_tail]; simp; omega, ?_, ?_⟩
    · rintro rfl
      unfold lenI
      rw [lens_nots]
      have h0 := lens_not false t
      simp only [Bool.not_false] at h0
      rw [h0, Bool.not_false, hb]
      exact ⟨rfl, rfl⟩
    · rintro rfl
      unfold lenI
      rw [lens_nots]
      have h0 : lens true (false :: t) = 0 :: lens false (false :: t) := by have := lens_not true t; simpa using this
      rw [Bool.not_false, h0, hb]
      exact ⟨rfl, rfl⟩

theorem three_keep {w1 W W' : World} {p q r : Addr} {x y z : Value} (hp : p.block < w1.heap.size) (hq : q.block < w1.heap.size) (hr : r.block < w1.heap.size)
    (h : W.cell? p = some x ∧ W.cell? q = some y ∧ W.cell? r = some z ∧ Below w1.heap.size w1 W) (hm : Below W.heap.size W W') : W'.cell? p = some x ∧ W'.cell? q = some y ∧ W'.cell? r = some z ∧ Below w1.heap.size w1 W' :=
  have hs := h.2.2.2.size
  ⟨(hm.cell (Nat.lt_of_lt_of_le hp hs)).trans h.1, (hm.cell (Nat.lt_of_lt_of_le hq hs)).trans h.2.1, (hm.cell (Nat.lt_of_lt_of_le hr hs)).trans h.2.2.1, h.2.2.2.trans (hm.mono hs)⟩

namespace flagsTurned
set_option maxHeartbeats 8000000 in
theorem walk (A : Option Addr) (cap : Nat) (l : List Bool) (hz : l.length ≤ maxLen) (w : World) (hc : At w w.heap.size A (bvs l)) :
    Calls Try.prog 6 #[.slice A l.length cap] w fun e w' => e = .returned (.bool true) ∧ Below w.heap.size w w' := by
  have HC := Lib.hid hc
  unfold maxLen at hz
  clear hc
  by_cases h : 200 < l.length ∨ l.length = 0
  · by_cases h2 : 200 < l.length
    · clear h
      go_enter Try.func6, Try.ntmps6
      go_wp2_with fail
      refine (live7_c _).mono ?_
      rintro e w1 ⟨rfl, hb1⟩
      go_wp2
      go_ret
      exact ⟨rfl, hb1⟩
    · have h3 : l.length = 0 := by omega
      rw [h3] at h2 ⊢
      clear h h3
      go_enter Try.func6, Try.ntmps6
      go_wp2_with fail
      refine (live7_c _).mono ?_
      rintro e w1 ⟨rfl, hb1⟩
      go_wp2
      go_ret
      exact ⟨rfl, hb1⟩
  · have h1 : l.length ≤ 200 := by omega
    have h2 : 0 < l.length := by omega
    have hx : l.length ≤ 100000 := by omega
    have t2 : ((l.length : Int) == 0) = false := by simp only [beq_eq_false_iff_ne, ne_eq]; omega
    obtain ⟨i0, hi, hz0, hz1, hz2⟩ := info_parts Try.info4
    have hnot : ∀ (x : Bool) (w : World), (Op.unary .not (.bool x)).run Try.prog w = .ok (.bool (!x)) w := fun _ _ => rfl
    clear h hz
    go_enter Try.func6, Try.ntmps6
    go_wp2_with fail
    go_loopg [3, 4] l.length (fun m s i wr => ∃ k : Nat, i = .int .i64 (k : Int) ∧ k ≤ l.length ∧ l.length - k ≤ m ∧ (∃ A1 c1, s = .slice A1 k c1) ∧ wr.ownsRow w.heap.size 4 1 s k (bvs (nots (l.take k))) ∧ Below w.heap.size w wr)
    case atStart => exact ⟨0, rfl, Nat.zero_le _, Nat.le_refl _, ⟨none, 0, rfl⟩, World.ownsRow_nil _ _ _ _, Below.refl _ _⟩
    case round =>
      obtain ⟨k, rfl, hk, hmk, ⟨A1, c1, rfl⟩, hown, hb⟩ := hrel
      have hb0 := hb.size
      by_cases hlt : k < l.length
      · obtain ⟨x, hxk⟩ := some_at hlt
        obtain ⟨b, off, rfl, hbl, hcell⟩ := (HC.out.below hb) k _ (bvs_at hxk)
        have HX := Lib.hid hxk
        clear hxk
        go_wp2_with (at_builtin; refine wpList_append_own _ rfl _ _ 22 rfl w.heap.size 4 i0 (.bool false) 1 1 Try.underlying22 hi hz0 hz1 hz2 rfl (by decide) _ _ _ rfl (hown.alloc _) ⟨wr.heap.size, 0, none⟩ 1 1 [.bool (!x)] rfl rfl (cell_one_new _ _ _) (by simp [Value.oneCell']) (by unfold maxLen; omega) (by omega) (by simp; omega) ?_; intro v' w2 hown' hgrow _)
        have hb2 := below_ownI hb hb0 hown hgrow
        obtain ⟨g', cap', rfl⟩ := ownsRow_succ hown'
        have ho2 := own_snocB hown'
        rw [← nots_take HX.out] at ho2
        clear hown hown' hgrow hb hcell
        go_roundg (l.length - (k + 1))
        case measure => omega
        case rel => exact ⟨k + 1, by go_num, by omega, Nat.le_refl _, ⟨_, _, rfl⟩, ho2, hb2⟩
      · obtain rfl : k = l.length := by omega
        rw [List.take_length] at hown
        obtain ⟨A2, c2, hA2, hat, -, -⟩ := own_at hown
        cases hA2
        obtain ⟨f, hf⟩ := some_at h2
        obtain ⟨r0, rs, hr1, hr2, hr3, hT, hF⟩ := turn_cons l f hf
        have HCN := Lib.hid (cnt_nots l)
        have hcl := cnt_le l
        have hcl2 := cnt_le (nots l)
        rw [nots_len] at hcl2
        have HAT := Lib.hid hat
        have HF := Lib.hid hf
        have hnl := nots_len l
        have HNL := Lib.hid hnl
        clear hown hat hf hlt hk hmk hnl
        cases f
        · obtain ⟨ha, hbb⟩ := hF rfl
          have HA := Lib.hid ha
          have HBB := Lib.hid hbb
          clear hT hF ha hbb
          go_wp2_with fail
          refine (lengths_k l ((r0 : Int) :: rs) HA.out rfl rfl hx (HC.out.keep hb)).mono ?_
          rintro e w2 ⟨B2, k2, rfl, hk2, hat2, hm2⟩
          have HAT2 := Lib.hid hat2
          have HAT := Lib.hid (HAT.out.keep hm2)
          have hb2 := hb.trans (hm2.mono hb.size)
          clear hat2 hm2 hb
          go_wp2_with fail
          refine (lengths_k (nots l) (0 :: (r0 : Int) :: rs) HBB.out HNL.out rfl hx HAT.out).mono ?_
          rintro e w3 ⟨B3, k3, rfl, hk3, hat3, hm3⟩
          have HAT2 := Lib.hid (HAT2.out.keep hm3)
          have HAT := Lib.hid (HAT.out.keep hm3)
          have hb3 := hb2.trans (hm3.mono hb2.size)
          have HC3 := Lib.hid (HC.out.keep hb3)
          obtain ⟨b2, o2, rfl, hl2, hc2⟩ := HAT2.out 0 _ rfl
          obtain ⟨b3, o3, rfl, hl3, hc3⟩ := hat3 0 _ rfl
          obtain ⟨b, o, rfl, hl, hc0⟩ := HC3.out 0 _ (bvs_at HF.out)
          rw [Nat.add_zero] at hc0 hc2 hc3
          have HAT3 := Lib.hid hat3
          clear hat3 hm3 hb2
          go_wp2_with fail
          have HS := Lib.hid (show w3.cell? ⟨b2, o2, none⟩ = some (.int .i64 (r0 : Int)) ∧ w3.cell? ⟨b3, o3, none⟩ = some (.int .i64 0) ∧ w3.cell? ⟨b, o, none⟩ = some (.bool false) ∧ Below w3.heap.size w3 w3 from ⟨hc2, hc3, hc0, Below.refl _ _⟩)
          have g1 : ((r0 : Int) == 0) = false := by simp only [beq_eq_false_iff_ne, ne_eq]; omega
          have g2 : IntKind.i64.wrap ((cnt l : Int) + (cnt (nots l) : Int)) = (cnt l : Int) + (cnt (nots l) : Int) := IntWalk.i64_in _ (by omega)
          have g3 : (((cnt l : Int) + (cnt (nots l) : Int)) != (l.length : Int)) = false := by have := HCN.out; simp only [bne_eq_false_iff_eq]; omega
          have gl : 0 < l.length := h2
          have g4 : ((rs.length : Int) + 1 == 0) = false := by simp only [beq_eq_false_iff_ne, ne_eq]; omega
          have g5 : ((rs.length : Int) + 1 + 1 == 0) = false := by simp only [beq_eq_false_iff_ne, ne_eq]; omega
          have g6 : (0 : Int) < (rs.length : Int) + 1 := by omega
          have g7 : (0 : Int) < (rs.length : Int) + 1 + 1 := by omega
          have g8 : 0 < rs.length + 1 := by omega
          have g9 : 0 < rs.length + 1 + 1 := by omega
          have g10 : (0 : Int) < (l.length : Int) := by omega
          clear hc2 hc3 hc0
          go_region_held3 (fun w' => w'.cell? ⟨b2, o2, none⟩ = some (.int .i64 (r0 : Int)) ∧ w'.cell? ⟨b3, o3, none⟩ = some (.int .i64 0) ∧ w'.cell? ⟨b, o, none⟩ = some (.bool false) ∧ Below w3.heap.size w3 w')
            (first
              | (exact HS.out)
              | (exact three_keep hl2 hl3 hl HS.out (Below.refl _ _).drew)
              | (exact three_keep hl2 hl3 hl (by assumption) (Below.refl _ _).drew)
              | go_keep)
            (first
              | (go_at_call 21; with_reducible refine (count_k l (cnt l : Int) rfl rfl hx (HC3.out.keep (Below.refl _ _).drew)).mono ?_; rintro e wA ⟨rfl, rfl⟩)
              | (go_at_call 21; with_reducible refine (count_k (nots l) (cnt (nots l) : Int) rfl HNL.out hx (HAT.out.keep (Below.refl _ _).drew)).mono ?_; rintro e wA ⟨rfl, rfl⟩))
          have hd := three_keep hl2 hl3 hl HS.out (Below.refl _ _).drew
          obtain ⟨-, -, hc0, -⟩ := hd
          have hb4 := hb3.drew
          have hk3' : rs.length + 1 + 1 ≤ k3 := hk3
          clear g1 g2 g3 g4 g5 hb3 hk3
          go_wp2_with fail
          refine (same5_k ((r0 : Int) :: rs) ((r0 : Int) :: rs) rfl rfl (by simp; omega) (by simp; omega) (HAT2.out.keep (Below.refl _ _).drew) ((HAT3.out.drop 1 : At w3 w3.heap.size (some ⟨b3, o3 + 1, none⟩) (ivs ((r0 : Int) :: rs))).keep (Below.refl _ _).drew)).mono ?_
          rintro e w5 ⟨rfl, hm5⟩
          rw [show decide ((r0 : Int) :: rs = (r0 : Int) :: rs) = true by simp]
          have hb5 := hb4.trans (hm5.mono hb4.size)
          clear hm5 hb4 hc0
          go_wp2_with fail
          refine (live7_c _).mono ?_
          rintro e w11 ⟨rfl, hm11⟩
          go_wp2
          go_ret
          exact ⟨rfl, hb5.trans (hm11.mono hb5.size)⟩
        · obtain ⟨ha, hbb⟩ := hT rfl
          have HA := Lib.hid ha
          have HBB := Lib.hid hbb
          clear hT hF ha hbb
          go_wp2_with fail
          refine (lengths_k l (0 :: (r0 : Int) :: rs) HA.out rfl rfl hx (HC.out.keep hb)).mono ?_
          rintro e w2 ⟨B2, k2, rfl, hk2, hat2, hm2⟩
          have HAT2 := Lib.hid hat2
          have HAT := Lib.hid (HAT.out.keep hm2)
          have hb2 := hb.trans (hm2.mono hb.size)
          clear hat2 hm2 hb
          go_wp2_with fail
          refine (lengths_k (nots l) ((r0 : Int) :: rs) HBB.out HNL.out rfl hx HAT.out).mono ?_
          rintro e w3 ⟨B3, k3, rfl, hk3, hat3, hm3⟩
          have HAT2 := Lib.hid (HAT2.out.keep hm3)
          have HAT := Lib.hid (HAT.out.keep hm3)
          have hb3 := hb2.trans (hm3.mono hb2.size)
          have HC3 := Lib.hid (HC.out.keep hb3)
          obtain ⟨b2, o2, rfl, hl2, hc2⟩ := HAT2.out 0 _ rfl
          obtain ⟨b3, o3, rfl, hl3, hc3⟩ := hat3 0 _ rfl
          obtain ⟨b, o, rfl, hl, hc0⟩ := HC3.out 0 _ (bvs_at HF.out)
          rw [Nat.add_zero] at hc0 hc2 hc3
          have HAT3 := Lib.hid hat3
          clear hat3 hm3 hb2
          go_wp2_with fail
          have HS := Lib.hid (show w3.cell? ⟨b2, o2, none⟩ = some (.int .i64 0) ∧ w3.cell? ⟨b3, o3, none⟩ = some (.int .i64 (r0 : Int)) ∧ w3.cell? ⟨b, o, none⟩ = some (.bool true) ∧ Below w3.heap.size w3 w3 from ⟨hc2, hc3, hc0, Below.refl _ _⟩)
          have g1 : ((r0 : Int) == 0) = false := by simp only [beq_eq_false_iff_ne, ne_eq]; omega
          have g2 : IntKind.i64.wrap ((cnt l : Int) + (cnt (nots l) : Int)) = (cnt l : Int) + (cnt (nots l) : Int) := IntWalk.i64_in _ (by omega)
          have g3 : (((cnt l : Int) + (cnt (nots l) : Int)) != (l.length : Int)) = false := by have := HCN.out; simp only [bne_eq_false_iff_eq]; omega
          have gl : 0 < l.length := h2
          have g4 : ((rs.length : Int) + 1 == 0) = false := by simp only [beq_eq_false_iff_ne, ne_eq]; omega
          have g5 : ((rs.length : Int) + 1 + 1 == 0) = false := by simp only [beq_eq_false_iff_ne, ne_eq]; omega
          have g6 : (0 : Int) < (rs.length : Int) + 1 := by omega
          have g7 : (0 : Int) < (rs.length : Int) + 1 + 1 := by omega
          have g8 : 0 < rs.length + 1 := by omega
          have g9 : 0 < rs.length + 1 + 1 := by omega
          have g10 : (0 : Int) < (l.length : Int) := by omega
          clear hc2 hc3 hc0
          go_region_held3 (fun w' => w'.cell? ⟨b2, o2, none⟩ = some (.int .i64 0) ∧ w'.cell? ⟨b3, o3, none⟩ = some (.int .i64 (r0 : Int)) ∧ w'.cell? ⟨b, o, none⟩ = some (.bool true) ∧ Below w3.heap.size w3 w')
            (first
              | (exact HS.out)
              | (exact three_keep hl2 hl3 hl HS.out (Below.refl _ _).drew)
              | (exact three_keep hl2 hl3 hl (by assumption) (Below.refl _ _).drew)
              | go_keep)
            (first
              | (go_at_call 21; with_reducible refine (count_k l (cnt l : Int) rfl rfl hx (HC3.out.keep (Below.refl _ _).drew)).mono ?_; rintro e wA ⟨rfl, rfl⟩)
              | (go_at_call 21; with_reducible refine (count_k (nots l) (cnt (nots l) : Int) rfl HNL.out hx (HAT.out.keep (Below.refl _ _).drew)).mono ?_; rintro e wA ⟨rfl, rfl⟩))
          have hd := three_keep hl2 hl3 hl HS.out (Below.refl _ _).drew
          obtain ⟨-, -, hc0, -⟩ := hd
          have hb4 := hb3.drew
          have hk2' : rs.length + 1 + 1 ≤ k2 := hk2
          clear g1 g2 g3 g4 g5 hb3 hk2
          go_wp2_with fail
          refine (same5_k ((r0 : Int) :: rs) ((r0 : Int) :: rs) rfl rfl (by simp; omega) (by simp; omega) ((HAT2.out.drop 1 : At w3 w3.heap.size (some ⟨b2, o2 + 1, none⟩) (ivs ((r0 : Int) :: rs))).keep (Below.refl _ _).drew) (HAT3.out.keep (Below.refl _ _).drew)).mono ?_
          rintro e w5 ⟨rfl, hm5⟩
          rw [show decide ((r0 : Int) :: rs = (r0 : Int) :: rs) = true by simp]
          have hb5 := hb4.trans (hm5.mono hb4.size)
          clear hm5 hb4 hc0
          go_wp2_with fail
          refine (live7_c _).mono ?_
          rintro e w11 ⟨rfl, hm11⟩
          go_wp2
          go_ret
          exact ⟨rfl, hb5.trans (hm11.mono hb5.size)⟩
end flagsTurned
end Go.Proofs.Ytiehmeheilfocaa
