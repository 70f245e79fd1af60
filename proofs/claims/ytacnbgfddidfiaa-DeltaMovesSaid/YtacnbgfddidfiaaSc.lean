/-
  The walk of DeltaMoves.
-/
import Derived.Test.YtacnbgfddidfiaaSa
namespace Go.Proofs.Ytacnbgfddidfiaa
open Go.RowKit Go.IntWalk
open Pk
set_option maxRecDepth 100000

theorem w64_move (a y c : Int) : w64 (w64 (y + c) - w64 (a + c)) = w64 (y - a) := by unfold w64; omega
theorem dl_move (c : Int) (l : List Int) : ∀ a, dl (w64 (a + c)) (l.map fun y => w64 (y + c)) = dl a l := by
  induction l with
  | nil => intro a; rfl
  | cons y l ih => intro a; rw [List.map_cons, dl_cons, dl_cons, ih, w64_move]
theorem encL_cons (x : Int) (l : List Int) (h : In64 x) : encL (x :: l) = put (zig x) ++ encD (dl x l) := by
  unfold encL
  rw [dl_cons, encD_cons, Int.sub_zero, w64_id h]
theorem same5_quiet {A1 A2 : Option Addr} {c1 c2 n : Nat} (xs : List Int) (hn : xs.length = n) (hx : n ≤ 100000) {w : World} {m : Nat} (h1 : At w w.heap.size A1 (ivs xs)) (h2 : At w w.heap.size A2 (ivs xs)) :
    Calls Try.prog 14 #[.slice A1 n c1, .slice A2 n c2] (w.drewN m) fun e w' => e = .returned (.bool true) ∧ ∃ q, w' = w.drewN q := by
  subst hn
  refine (same5_q A1 A2 c1 c2 xs xs (by unfold maxLen; omega) (by unfold maxLen; omega) (w.drewN m) (at_drewN h1 m) (at_drewN h2 m)).mono ?_
  rintro e w' ⟨rfl, q, rfl⟩
  rw [show decide (xs = xs) = true by simp]
  exact ⟨rfl, drewE ⟨m, rfl⟩ q⟩

namespace deltaMoves
theorem walk_out (A : Option Addr) (cap n : Nat) (c : Int) (hn : n ≤ maxLen) (h : 200 < n ∨ n = 0) (w : World) :
    Calls Try.prog 6 #[.slice A n cap, .int .i64 c] w fun e w' => e = .returned (.bool true) ∧ Below w.heap.size w w' := by
  unfold maxLen at hn
  rcases h with h | h
  · go_enter Try.func6, Try.ntmps6
    go_wp2_with fail
    refine (live5_c _).mono ?_
    rintro e w1 ⟨rfl, hb1⟩
    go_wp2
    go_ret
    exact ⟨rfl, hb1⟩
  · subst h
    go_enter Try.func6, Try.ntmps6
    go_wp2_with fail
    refine (live5_c _).mono ?_
    rintro e w1 ⟨rfl, hb1⟩
    go_wp2
    go_ret
    exact ⟨rfl, hb1⟩

set_option maxHeartbeats 8000000 in
theorem walk_in (A : Option Addr) (cap : Nat) (x0 : Int) (ys : List Int) (c : Int) (hx : ys.length + 1 ≤ 200) (hxi : Ints (x0 :: ys)) (w : World) (hc : At w w.heap.size A (ivs (x0 :: ys))) :
    Calls Try.prog 6 #[.slice A (ys.length + 1) cap, .int .i64 c] w fun e w' => e = .returned (.bool true) ∧ Below w.heap.size w w' := by
  obtain ⟨i0, hi, hz0, hz1, hz2⟩ := info_parts Try.info3
  have hx0 := hxi x0 (by simp)
  obtain ⟨m0, hm0⟩ : ∃ m0, m0 = w64 (x0 + c) := ⟨_, rfl⟩
  obtain ⟨ms, hms⟩ : ∃ ms, ms = ys.map (fun y => w64 (y + c)) := ⟨_, rfl⟩
  have hmap : m0 :: ms = (x0 :: ys).map (fun y => w64 (y + c)) := by rw [hm0, hms]; rfl
  have hml : ms.length = ys.length := by rw [hms]; simp
  have hm0i : In64 m0 := by rw [hm0]; exact w64_in _
  have hdm : dl m0 ms = dl x0 ys := by rw [hm0, hms]; exact dl_move c ys x0
  have HI := Lib.hid hxi
  have HC := Lib.hid hc
  have HMAP := Lib.hid hmap
  have HML := Lib.hid hml
  have HDM := Lib.hid hdm
  have HM0I := Lib.hid hm0i
  have HX0 := Lib.hid hx0
  have hwr : wrap64 (x0 + c) = m0 := by rw [hm0]; exact wrap_w64 _
  have HWR := Lib.hid hwr
  have HZ1 := Lib.hid (zig_lt hx0.1 (by have := hx0.2; omega))
  have HZ2 := Lib.hid (zig_lt hm0i.1 (by have := hm0i.2; omega))
  obtain ⟨E, hE⟩ : ∃ E, E = encD (dl x0 ys) := ⟨_, rfl⟩
  obtain ⟨P, hP⟩ : ∃ P, put (zig x0) = P := ⟨_, rfl⟩
  obtain ⟨Q, hQ⟩ : ∃ Q, put (zig m0) = Q := ⟨_, rfl⟩
  obtain ⟨S, hS⟩ : ∃ S, S = P ++ E := ⟨_, rfl⟩
  obtain ⟨T, hT⟩ : ∃ T, T = Q ++ E := ⟨_, rfl⟩
  have hse : encL (x0 :: ys) = S := by rw [encL_cons x0 ys hx0, hP, hS, hE]
  have hte : encL (m0 :: ms) = T := by rw [encL_cons m0 ms hm0i, hQ, hT, hE, hdm]
  have HSE := Lib.hid hse
  have HTE := Lib.hid hte
  have HP := Lib.hid hP
  have HQ := Lib.hid hQ
  have hsP := ba_size P
  have hsQ := ba_size Q
  have hsS := ba_size S
  have hsT := ba_size T
  have hlS : P.length ≤ S.length := by rw [hS]; simp
  have hlT : Q.length ≤ T.length := by rw [hT]; simp
  have hSl : S.length ≤ 2000 := by rw [← hse]; have := (encL_len (x0 :: ys)).2; simp at this; omega
  have hTl : T.length ≤ 2000 := by rw [← hte]; have := (encL_len (m0 :: ms)).2; rw [List.length_cons, hml] at this; omega
  have hext1 : (ba S).extract P.length S.length = ba E := by rw [extract_drop, hS, List.drop_left]
  have hext2 : (ba T).extract Q.length T.length = ba E := by rw [extract_drop, hT, List.drop_left]
  have hdS : decide ((P.length : Int) ≤ (S.length : Int)) = true := by simp; omega
  have hdT : decide ((Q.length : Int) ≤ (T.length : Int)) = true := by simp; omega
  clear hE hP hQ hS hT hse hte
  have hbA : decide (200 < (ys.length : Int) + 1) = false := by simp; omega
  have hbB : ((ys.length : Int) + 1 == 0) = false := by simp; omega
  clear hxi hc hm0 hms hmap hml hdm hm0i hx0 hwr
  go_enter Try.func6, Try.ntmps6
  go_wp2_with fail
  go_loopw [5, 6] (fun v i wr => ∃ k : Nat, i = .int .i64 (k : Int) ∧ k ≤ ys.length + 1 ∧ wr.ownsRow w.heap.size 3 1 v ((m0 :: ms).take k).length (ivs ((m0 :: ms).take k)) ∧ ((m0 :: ms).take k).length = k ∧ Below w.heap.size w wr)
    (fun _ i _ => ys.length + 1 - (intOf i).toNat)
  case atStart => exact ⟨0, rfl, Nat.zero_le _, World.ownsRow_nil _ _ _ _, rfl, Below.refl _ _⟩
  case round =>
    obtain ⟨k, rfl, hk, hown, hkl, hb⟩ := hrel
    have hb0 := hb.size
    have hle : ((m0 :: ms).take k).length ≤ 100000 := by omega
    have HKL := Lib.hid hkl
    clear hkl
    by_cases hlt : k < ys.length + 1
    · obtain ⟨x, hxk⟩ := some_at (show k < (x0 :: ys).length by simp; omega)
      obtain ⟨b, off, rfl, hbl, hcell⟩ := (HC.out.below hb) k _ (ivs_at hxk)
      have hmk : (m0 :: ms)[k]? = some (wrap64 (x + c)) := by rw [HMAP.out, List.getElem?_map, hxk]; exact congrArg some (wrap_w64 _).symm
      have HMK := Lib.hid hmk
      clear hxk hmk
      go_wp2_with (at_builtin; refine wpList_append_own _ rfl _ _ 22 rfl w.heap.size 3 i0 (.int .i64 0) 1 8 Try.underlying22 hi hz0 hz1 hz2 rfl (by decide) _ _ _ rfl (hown.alloc _) ⟨wr.heap.size, 0, none⟩ 1 1 [.int .i64 (wrap64 (x + c))] rfl rfl (cell_one_new _ _ _) (by simp [Value.oneCell']) (by unfold maxLen; omega) (by omega) (by simp; omega) ?_; intro v' w2 hown' hgrow _)
      have hb2 := below_ownI hb hb0 hown hgrow
      have ho2 := own_snocI hown'
      clear hown hown' hgrow hb
      go_wp2
      go_roundw
      case rel => exact ⟨k + 1, by go_num, by omega, by rw [List.take_add_one, HMK.out]; exact ho2, by rw [List.take_add_one, HMK.out, Option.toList_some, List.length_append, HKL.out]; rfl, hb2⟩
      case measure => simp only [intOf]; omega
    · obtain rfl : k = ys.length + 1 := by omega
      obtain ⟨Am, capm, rfl, hatm, -, -⟩ := own_at hown
      rw [HKL.out]
      have htk : (m0 :: ms).take (ys.length + 1) = m0 :: ms := List.take_of_length_le (by simp [HML.out])
      rw [htk] at hatm
      have HATM := Lib.hid hatm
      clear hown hatm htk hle
      go_wp2_with fail
      refine (deltas_k (x0 :: ys) rfl (by simp; omega) (HC.out.keep hb)).mono ?_
      rintro e w1 ⟨A1, cap1, rfl, hcap1, -, hat1, hm1⟩
      rw [dl_cons, Int.sub_zero, w64_id HX0.out] at hat1
      have HAT1 := Lib.hid hat1
      have HATM := Lib.hid (HATM.out.keep hm1)
      have hb1 := hb.trans (hm1.mono hb0)
      clear hat1 hm1 hb
      go_wp2_with fail
      refine (deltas_k (m0 :: ms) (by simp [HML.out]) (by omega) HATM.out).mono ?_
      rintro e w2 ⟨A2, cap2, rfl, hcap2, -, hat2, hm2⟩
      rw [dl_cons, Int.sub_zero, w64_id HM0I.out, HDM.out] at hat2
      have HAT1 := Lib.hid (HAT1.out.keep hm2)
      have HATM := Lib.hid (HATM.out.keep hm2)
      have hb2 := hb1.trans (hm2.mono hb1.size)
      have HAT2 := Lib.hid hat2
      have HC2 := Lib.hid (HC.out.keep hb2)
      clear hat2 hm2 hb1
      obtain ⟨b1, o1, rfl, _, hc1⟩ := HAT1.out 0 _ rfl
      obtain ⟨b2, o2, rfl, _, hc2⟩ := HAT2.out 0 _ rfl
      obtain ⟨b, o, rfl, _, hc0⟩ := HC2.out 0 _ rfl
      rw [Nat.add_zero] at hc1 hc2 hc0
      have hx1 : (1 : Int) ≤ (ys.length : Int) + 1 := by omega
      have hx2 : (0 : Int) < (ys.length : Int) + 1 := by omega
      have hne1 : (x0 != x0) = false := by simp
      have hne2 : (m0 != m0) = false := by simp
      have hwr := HWR.out
      rw [List.length_cons] at hcap1
      have HDY := Lib.hid (dl_len x0 ys)
      have hyl : ys.length ≤ 100000 := by omega
      have HA1 := Lib.hid (HAT1.out.drop 1)
      have HA2 := Lib.hid (HAT2.out.drop 1)
      have HY1 := Lib.hid (fun (h : cap1 = 1) => List.eq_nil_of_length_eq_zero (l := ys) (by omega))
      have HY2 := Lib.hid (fun (h : cap2 = 1) => List.eq_nil_of_length_eq_zero (l := ys) (by omega))
      clear hcap1 hcap2
      go_wp2_with fail
      by_cases k1 : cap1 = 1
      · by_cases k2 : cap2 = 1
        · have HT1 : Hid (At w2 w2.heap.size (some ⟨b1, o1, none⟩) (ivs (dl x0 ys))) := Lib.hid (by rw [HY1.out k1]; exact At.nil _ _ _)
          have HT2 : Hid (At w2 w2.heap.size (some ⟨b2, o2, none⟩) (ivs (dl x0 ys))) := Lib.hid (by rw [HY2.out k2]; exact At.nil _ _ _)
          subst k1
          subst k2
          go_quiet ((go_at_call 14; exact same5_quiet (dl x0 ys) HDY.out hyl HT1.out HT2.out))
          have hb3 := below_drewN hb2 nq
          obtain ⟨w3, hw3⟩ : ∃ w3, w3 = w2.drewN nq := ⟨_, rfl⟩
          have HATM3 : Hid (At w3 w3.heap.size Am (ivs (m0 :: ms))) := Lib.hid (by rw [hw3]; exact at_drewN HATM.out nq)
          rw [← hw3] at hb3 ⊢
          clear hw3 hb2 hc1 hc2 hc0
          go_wp2_with fail
          refine (encode_k (x0 :: ys) rfl (by simp; omega) (HC.out.keep hb3)).mono ?_
          rintro e w4 ⟨rfl, hm4⟩
          rw [HSE.out]
          have HATM4 := Lib.hid (HATM3.out.keep hm4)
          have hb4 := hb3.trans (hm4.mono hb3.size)
          clear hm4 hb3
          go_wp2_with fail
          refine (encode_k (m0 :: ms) (by simp [HML.out]) (by omega) HATM4.out).mono ?_
          rintro e w5 ⟨rfl, hm5⟩
          rw [HTE.out]
          have hb5 := hb4.trans (hm5.mono hb4.size)
          clear hm5 hb4
          obtain ⟨b', o', hbe, _, hc0⟩ := (HC.out.keep hb5) 0 _ rfl
          cases hbe
          rw [Nat.add_zero] at hc0
          go_wp2_with fail
          refine (rZig_c x0 HX0.out.1 (by have := HX0.out.2; omega) _).mono ?_
          rintro e wz ⟨rfl, rfl⟩
          go_wp2_with fail
          refine (rPut_c (zig x0) HZ1.out _).mono ?_
          rintro e w6 ⟨rfl, hm6⟩
          rw [HP.out]
          have hb6 := hb5.trans (hm6.mono hb5.size)
          clear hm6 hb5 hc0
          obtain ⟨b', o', hbe, _, hc0⟩ := (HC.out.keep hb6) 0 _ rfl
          cases hbe
          rw [Nat.add_zero] at hc0
          go_wp2_with fail
          refine (rZig_c m0 HM0I.out.1 (by have := HM0I.out.2; omega) _).mono ?_
          rintro e wz ⟨rfl, rfl⟩
          go_wp2_with fail
          refine (rPut_c (zig m0) HZ2.out _).mono ?_
          rintro e w7 ⟨rfl, hm7⟩
          rw [HQ.out]
          have hb7 := hb6.trans (hm7.mono hb6.size)
          clear hm7 hb6 hc0
          go_wp2_with fail
          have hg7 := hb7.size
          go_region_held3 (fun w' => Below w.heap.size w w')
            (first
              | (exact hb7.drew)
              | (exact hb8)
              | (exact hb8.drew)
              | go_keep)
            (first
              | (go_at_call 13; refine (live5_c _).mono ?_; rintro e w8 ⟨rfl, hm8⟩; have hb8 := hb7.drew.trans (hm8.mono hg7); clear hm8))
          go_wp2
          go_ret
          exact ⟨rfl, hb8⟩
        · have HT1 : Hid (At w2 w2.heap.size (some ⟨b1, o1, none⟩) (ivs (dl x0 ys))) := Lib.hid (by rw [HY1.out k1]; exact At.nil _ _ _)
          have HT2 : Hid (At w2 w2.heap.size (some ⟨b2, o2 + 1, none⟩) (ivs (dl x0 ys))) := Lib.hid (HA2.out)
          subst k1
          go_quiet ((go_at_call 14; exact same5_quiet (dl x0 ys) HDY.out hyl HT1.out HT2.out))
          have hb3 := below_drewN hb2 nq
          obtain ⟨w3, hw3⟩ : ∃ w3, w3 = w2.drewN nq := ⟨_, rfl⟩
          have HATM3 : Hid (At w3 w3.heap.size Am (ivs (m0 :: ms))) := Lib.hid (by rw [hw3]; exact at_drewN HATM.out nq)
          rw [← hw3] at hb3 ⊢
          clear hw3 hb2 hc1 hc2 hc0
          go_wp2_with fail
          refine (encode_k (x0 :: ys) rfl (by simp; omega) (HC.out.keep hb3)).mono ?_
          rintro e w4 ⟨rfl, hm4⟩
          rw [HSE.out]
          have HATM4 := Lib.hid (HATM3.out.keep hm4)
          have hb4 := hb3.trans (hm4.mono hb3.size)
          clear hm4 hb3
          go_wp2_with fail
          refine (encode_k (m0 :: ms) (by simp [HML.out]) (by omega) HATM4.out).mono ?_
          rintro e w5 ⟨rfl, hm5⟩
          rw [HTE.out]
          have hb5 := hb4.trans (hm5.mono hb4.size)
          clear hm5 hb4
          obtain ⟨b', o', hbe, _, hc0⟩ := (HC.out.keep hb5) 0 _ rfl
          cases hbe
          rw [Nat.add_zero] at hc0
          go_wp2_with fail
          refine (rZig_c x0 HX0.out.1 (by have := HX0.out.2; omega) _).mono ?_
          rintro e wz ⟨rfl, rfl⟩
          go_wp2_with fail
          refine (rPut_c (zig x0) HZ1.out _).mono ?_
          rintro e w6 ⟨rfl, hm6⟩
          rw [HP.out]
          have hb6 := hb5.trans (hm6.mono hb5.size)
          clear hm6 hb5 hc0
          obtain ⟨b', o', hbe, _, hc0⟩ := (HC.out.keep hb6) 0 _ rfl
          cases hbe
          rw [Nat.add_zero] at hc0
          go_wp2_with fail
          refine (rZig_c m0 HM0I.out.1 (by have := HM0I.out.2; omega) _).mono ?_
          rintro e wz ⟨rfl, rfl⟩
          go_wp2_with fail
          refine (rPut_c (zig m0) HZ2.out _).mono ?_
          rintro e w7 ⟨rfl, hm7⟩
          rw [HQ.out]
          have hb7 := hb6.trans (hm7.mono hb6.size)
          clear hm7 hb6 hc0
          go_wp2_with fail
          have hg7 := hb7.size
          go_region_held3 (fun w' => Below w.heap.size w w')
            (first
              | (exact hb7.drew)
              | (exact hb8)
              | (exact hb8.drew)
              | go_keep)
            (first
              | (go_at_call 13; refine (live5_c _).mono ?_; rintro e w8 ⟨rfl, hm8⟩; have hb8 := hb7.drew.trans (hm8.mono hg7); clear hm8))
          go_wp2
          go_ret
          exact ⟨rfl, hb8⟩
      · by_cases k2 : cap2 = 1
        · have HT1 : Hid (At w2 w2.heap.size (some ⟨b1, o1 + 1, none⟩) (ivs (dl x0 ys))) := Lib.hid (HA1.out)
          have HT2 : Hid (At w2 w2.heap.size (some ⟨b2, o2, none⟩) (ivs (dl x0 ys))) := Lib.hid (by rw [HY2.out k2]; exact At.nil _ _ _)
          subst k2
          go_quiet ((go_at_call 14; exact same5_quiet (dl x0 ys) HDY.out hyl HT1.out HT2.out))
          have hb3 := below_drewN hb2 nq
          obtain ⟨w3, hw3⟩ : ∃ w3, w3 = w2.drewN nq := ⟨_, rfl⟩
          have HATM3 : Hid (At w3 w3.heap.size Am (ivs (m0 :: ms))) := Lib.hid (by rw [hw3]; exact at_drewN HATM.out nq)
          rw [← hw3] at hb3 ⊢
          clear hw3 hb2 hc1 hc2 hc0
          go_wp2_with fail
          refine (encode_k (x0 :: ys) rfl (by simp; omega) (HC.out.keep hb3)).mono ?_
          rintro e w4 ⟨rfl, hm4⟩
          rw [HSE.out]
          have HATM4 := Lib.hid (HATM3.out.keep hm4)
          have hb4 := hb3.trans (hm4.mono hb3.size)
          clear hm4 hb3
          go_wp2_with fail
          refine (encode_k (m0 :: ms) (by simp [HML.out]) (by omega) HATM4.out).mono ?_
          rintro e w5 ⟨rfl, hm5⟩
          rw [HTE.out]
          have hb5 := hb4.trans (hm5.mono hb4.size)
          clear hm5 hb4
          obtain ⟨b', o', hbe, _, hc0⟩ := (HC.out.keep hb5) 0 _ rfl
          cases hbe
          rw [Nat.add_zero] at hc0
          go_wp2_with fail
          refine (rZig_c x0 HX0.out.1 (by have := HX0.out.2; omega) _).mono ?_
          rintro e wz ⟨rfl, rfl⟩
          go_wp2_with fail
          refine (rPut_c (zig x0) HZ1.out _).mono ?_
          rintro e w6 ⟨rfl, hm6⟩
          rw [HP.out]
          have hb6 := hb5.trans (hm6.mono hb5.size)
          clear hm6 hb5 hc0
          obtain ⟨b', o', hbe, _, hc0⟩ := (HC.out.keep hb6) 0 _ rfl
          cases hbe
          rw [Nat.add_zero] at hc0
          go_wp2_with fail
          refine (rZig_c m0 HM0I.out.1 (by have := HM0I.out.2; omega) _).mono ?_
          rintro e wz ⟨rfl, rfl⟩
          go_wp2_with fail
          refine (rPut_c (zig m0) HZ2.out _).mono ?_
          rintro e w7 ⟨rfl, hm7⟩
          rw [HQ.out]
          have hb7 := hb6.trans (hm7.mono hb6.size)
          clear hm7 hb6 hc0
          go_wp2_with fail
          have hg7 := hb7.size
          go_region_held3 (fun w' => Below w.heap.size w w')
            (first
              | (exact hb7.drew)
              | (exact hb8)
              | (exact hb8.drew)
              | go_keep)
            (first
              | (go_at_call 13; refine (live5_c _).mono ?_; rintro e w8 ⟨rfl, hm8⟩; have hb8 := hb7.drew.trans (hm8.mono hg7); clear hm8))
          go_wp2
          go_ret
          exact ⟨rfl, hb8⟩
        · have HT1 : Hid (At w2 w2.heap.size (some ⟨b1, o1 + 1, none⟩) (ivs (dl x0 ys))) := Lib.hid (HA1.out)
          have HT2 : Hid (At w2 w2.heap.size (some ⟨b2, o2 + 1, none⟩) (ivs (dl x0 ys))) := Lib.hid (HA2.out)
          go_quiet ((go_at_call 14; exact same5_quiet (dl x0 ys) HDY.out hyl HT1.out HT2.out))
          have hb3 := below_drewN hb2 nq
          obtain ⟨w3, hw3⟩ : ∃ w3, w3 = w2.drewN nq := ⟨_, rfl⟩
          have HATM3 : Hid (At w3 w3.heap.size Am (ivs (m0 :: ms))) := Lib.hid (by rw [hw3]; exact at_drewN HATM.out nq)
          rw [← hw3] at hb3 ⊢
          clear hw3 hb2 hc1 hc2 hc0
          go_wp2_with fail
          refine (encode_k (x0 :: ys) rfl (by simp; omega) (HC.out.keep hb3)).mono ?_
          rintro e w4 ⟨rfl, hm4⟩
          rw [HSE.out]
          have HATM4 := Lib.hid (HATM3.out.keep hm4)
          have hb4 := hb3.trans (hm4.mono hb3.size)
          clear hm4 hb3
          go_wp2_with fail
          refine (encode_k (m0 :: ms) (by simp [HML.out]) (by omega) HATM4.out).mono ?_
          rintro e w5 ⟨rfl, hm5⟩
          rw [HTE.out]
          have hb5 := hb4.trans (hm5.mono hb4.size)
          clear hm5 hb4
          obtain ⟨b', o', hbe, _, hc0⟩ := (HC.out.keep hb5) 0 _ rfl
          cases hbe
          rw [Nat.add_zero] at hc0
          go_wp2_with fail
          refine (rZig_c x0 HX0.out.1 (by have := HX0.out.2; omega) _).mono ?_
          rintro e wz ⟨rfl, rfl⟩
          go_wp2_with fail
          refine (rPut_c (zig x0) HZ1.out _).mono ?_
          rintro e w6 ⟨rfl, hm6⟩
          rw [HP.out]
          have hb6 := hb5.trans (hm6.mono hb5.size)
          clear hm6 hb5 hc0
          obtain ⟨b', o', hbe, _, hc0⟩ := (HC.out.keep hb6) 0 _ rfl
          cases hbe
          rw [Nat.add_zero] at hc0
          go_wp2_with fail
          refine (rZig_c m0 HM0I.out.1 (by have := HM0I.out.2; omega) _).mono ?_
          rintro e wz ⟨rfl, rfl⟩
          go_wp2_with fail
          refine (rPut_c (zig m0) HZ2.out _).mono ?_
          rintro e w7 ⟨rfl, hm7⟩
          rw [HQ.out]
          have hb7 := hb6.trans (hm7.mono hb6.size)
          clear hm7 hb6 hc0
          go_wp2_with fail
          have hg7 := hb7.size
          go_region_held3 (fun w' => Below w.heap.size w w')
            (first
              | (exact hb7.drew)
              | (exact hb8)
              | (exact hb8.drew)
              | go_keep)
            (first
              | (go_at_call 13; refine (live5_c _).mono ?_; rintro e w8 ⟨rfl, hm8⟩; have hb8 := hb7.drew.trans (hm8.mono hg7); clear hm8))
          go_wp2
          go_ret
          exact ⟨rfl, hb8⟩

theorem walk (A : Option Addr) (cap : Nat) (xs : List Int) (c : Int) (hz : xs.length ≤ maxLen) (hw : ∀ x ∈ xs, (Lit.int .i64 x).wf = true) (_ : (Lit.int .i64 c).wf = true) (w : World) (hc : At w w.heap.size A (ivs xs)) :
    Calls Try.prog 6 #[.slice A xs.length cap, .int .i64 c] w fun e w' => e = .returned (.bool true) ∧ Below w.heap.size w w' := by
  rcases Nat.lt_or_ge 200 xs.length with h | h
  · exact walk_out A cap _ c hz (.inl h) w
  · cases xs with
    | nil => exact walk_out A cap _ c hz (.inr rfl) w
    | cons x0 ys => exact walk_in A cap x0 ys c h (ints_of hw) w hc
end deltaMoves
end Go.Proofs.Ytacnbgfddidfiaa
