/-
 takeMoves, that panics: the program's, its walk.
-/
import Derived.Test.YtojhenpaeedimaaGreatOq
import Derived.Test.YtojhenpaeedimaaGreatZs
import Derived.Test.YtojhenpaeedimaaGreatOj
import Derived.BigRegion
namespace Go.Proofs.YtojhenpaeedimaaGreat
open Go.RowKit Go.IntWalk
open Pk Rf Fl Wd Ol Dl Ru Fg Dt Rl
set_option maxRecDepth 100000
attribute [local go_sem] Oper.semAt_some
/-- the columns that were read, and the row of moves, behind k of them -/
structure TmLi (w : World) (L n : Nat) (zs : List Mv) (cs ps ks : List Int) (rs ys : List Nat) (ns : List (List UInt8)) (AC AR AP AK AN AF : Option Addr) (W : World) (k : Nat) : Prop where
 row : Is W L 51 (mvs (zs.take k ++ List.replicate (n - k) zM))
 c : At W L AC (ivs cs)
 r : At W L AR (uvs rs)
 p : At W L AP (ivs ps)
 k : At W L AK (ivs ks)
 s : At W L AN (svs ns)
 f : At W L AF (fvs ys)
 own : Below w.heap.size w W
 wL : w.heap.size ≤ L
theorem TmLi.below {w W W' : World} {L n k : Nat} {zs : List Mv} {cs ps ks : List Int} {rs ys : List Nat} {ns : List (List UInt8)} {AC AR AP AK AN AF : Option Addr} (h : TmLi w L n zs cs ps ks rs ys ns AC AR AP AK AN AF W k) (hb : Below W.heap.size W W') : TmLi w L n zs cs ps ks rs ys ns AC AR AP AK AN AF W' k :=
 have hL := Nat.le_of_lt (is_lt h.row)
 ⟨is_below h.row hb (is_lt h.row), h.c.belowG hL hb, h.r.belowG hL hb, h.p.belowG hL hb, h.k.belowG hL hb, h.s.belowG hL hb, h.f.belowG hL hb, h.own.trans (hb.mono h.own.size), h.wL⟩
theorem at_row {W : World} {L j : Nat} {v : Value} {A : Option Addr} {xs : List Value} (h : At W L A xs) : At (W.setCell ⟨L, j, none⟩ v) L A xs := fun i u hu => by
 obtain ⟨b, o, e, hb, hcell⟩ := h i u hu
 exact ⟨b, o, e, hb, (World.cell?_setCell_other _ _ _ _ (by intro e2; injection e2 with e2 _ _; omega)).trans hcell⟩
theorem at_row6 {W : World} {L j : Nat} {v0 v1 v2 v3 v4 v5 : Value} {A : Option Addr} {xs : List Value} (h : At W L A xs) :
  At ((((((W.setCell ⟨L, j, none⟩ v0).setCell ⟨L, j + 1, none⟩ v1).setCell ⟨L, j + 2, none⟩ v2).setCell ⟨L, j + 3, none⟩ v3).setCell ⟨L, j + 4, none⟩ v4).setCell ⟨L, j + 5, none⟩ v5) L A xs :=
 at_row (at_row (at_row (at_row (at_row (at_row h)))))
theorem TmLi.put {w W : World} {L n k : Nat} {zs : List Mv} {cs ps ks : List Int} {rs ys : List Nat} {ns : List (List UInt8)} {AC AR AP AK AN AF : Option Addr} (h : TmLi w L n zs cs ps ks rs ys ns AC AR AP AK AN AF W k) (hk : k < n) (hz : zs.length = n) (m : Mv) (hm : zs[k]? = some m) :
  TmLi w L n zs cs ps ks rs ys ns AC AR AP AK AN AF ((((((W.setCell ⟨L, k * 6, none⟩ (.int .i64 (mc m))).setCell ⟨L, k * 6 + 1, none⟩ (.int .i64 (mr m))).setCell ⟨L, k * 6 + 2, none⟩ (.int .i64 (pa (mw m)))).setCell ⟨L, k * 6 + 3, none⟩ (.int .i64 (ch (mw m)))).setCell ⟨L, k * 6 + 4, none⟩ (.string (ba (nm (mw m))))).setCell ⟨L, k * 6 + 5, none⟩ (.float .f64 (rk (mw m)))) (k + 1) := by
 obtain ⟨j, hj⟩ : ∃ j, n - k = j + 1 := ⟨n - k - 1, by omega⟩
 have hl : (zs.take k).length = k := by rw [List.length_take]; omega
 have hw := h.wL
 refine ⟨?_, at_row6 h.c, at_row6 h.r, at_row6 h.p, at_row6 h.k, at_row6 h.s, at_row6 h.f, set6_belowG h.own hw, hw⟩
 have hr := h.row
 rw [hj] at hr
 rw [show n - (k + 1) = j by omega, List.take_add_one, hm]
 simp only [Option.toList_some]
 rw [← mvs_put (zs.take k) j m k hl]
 exact is_set (is_set (is_set (is_set (is_set (is_set hr _ _) _ _) _ _) _ _) _ _) _ _
theorem TmLi.cells {w W : World} {L n k : Nat} {zs : List Mv} {cs ps ks : List Int} {rs ys : List Nat} {ns : List (List UInt8)} {AC AR AP AK AN AF : Option Addr} (h : TmLi w L n zs cs ps ks rs ys ns AC AR AP AK AN AF W k) (hk : k < n) (hz : zs.length = n) (j : Nat) (hj : j < 6) :
  ∃ u, W.cell? ⟨L, k * 6 + j, none⟩ = some u := is_at h.row (by rw [mvs_len6, List.length_append, List.length_replicate, List.length_take]; omega)
theorem TmLi.at {w W : World} {L n k : Nat} {zs : List Mv} {cs ps ks : List Int} {rs ys : List Nat} {ns : List (List UInt8)} {AC AR AP AK AN AF : Option Addr} {m : Mv} (h : TmLi w L n zs cs ps ks rs ys ns AC AR AP AK AN AF W (k + 1)) (_ : k < n) (hm : zs[k]? = some m) :
  W.cell? ⟨L, k * 6, none⟩ = some (.int .i64 (mc m)) ∧ W.cell? ⟨L, k * 6 + 1, none⟩ = some (.int .i64 (mr m)) ∧ W.cell? ⟨L, k * 6 + 2, none⟩ = some (.int .i64 (pa (mw m))) ∧ W.cell? ⟨L, k * 6 + 3, none⟩ = some (.int .i64 (ch (mw m))) ∧ W.cell? ⟨L, k * 6 + 4, none⟩ = some (.string (ba (nm (mw m)))) ∧ W.cell? ⟨L, k * 6 + 5, none⟩ = some (.float .f64 (rk (mw m))) := by
 have hk := (List.getElem?_eq_some_iff.1 hm).1
 have hz : (zs.take (k + 1) ++ List.replicate (n - (k + 1)) zM)[k]? = some m := by
  rw [List.getElem?_append_left (by rw [List.length_take]; omega), List.getElem?_take, if_pos (by omega)]; exact hm
 obtain ⟨h1, h2, h3, h4, h5, h6⟩ := mvs_at hz
 exact ⟨(is_cell h.row _).trans h1, (is_cell h.row _).trans h2, (is_cell h.row _).trans h3, (is_cell h.row _).trans h4, (is_cell h.row _).trans h5, (is_cell h.row _).trans h6⟩
theorem pone_k (m : Mv) (hn : (nm (mw m)).length ≤ maxLen) (w : World) :
  Calls Tryz.prog 92 #[.agg #[.int .i64 (mc m), .int .i64 (mr m), .int .i64 (pa (mw m)), .int .i64 (ch (mw m)), .string (ba (nm (mw m))), .float .f64 (rk (mw m))]] w fun e w' => e = .returned (.bool (oneM m)) ∧ Below w.heap.size w w' := mone_c m hn w
theorem ival {cs : List Int} {k : Nat} {c : Int} (h : cs[k]? = some c) : (ivs cs)[k]? = some (.int .i64 c) := by simp [ivs, h]
theorem uval {cs : List Nat} {k : Nat} {c : Nat} (h : cs[k]? = some c) : (uvs cs)[k]? = some (.int .u64 (c : Int)) := by simp [uvs, h]
theorem sval {cs : List (List UInt8)} {k : Nat} {c : List UInt8} (h : cs[k]? = some c) : (svs cs)[k]? = some (.string (ba c)) := by simp [svs, h]; rfl
theorem fval {cs : List Nat} {k : Nat} {c : Nat} (h : cs[k]? = some c) : (fvs cs)[k]? = some (.float .f64 c) := by simp [fvs, h]
theorem u2i {r : Nat} (h : r < 18446744073709551616) : IntKind.i64.wrap (r : Int) = i64 r ∧ Go.RowKit.wrap64 (r : Int) = i64 r := by
 refine ⟨i64_wrap h, ?_⟩
 unfold Go.RowKit.wrap64 i64; split <;> omega
set_option maxHeartbeats 16000000 in
theorem takeMoves_c (A : Option Addr) (cap : Nat) (l : List Ck.Chk) (hl : l.length ≤ 100000) (hs : ∀ c ∈ l, c.2.length ≤ 90000) (w : World) (hc : At w w.heap.size A (Ck.cvs l)) :
  Calls Tryz.prog 70 #[.slice A l.length cap] w (TmEnd (decO l) w) := by
 obtain ⟨RES, hres⟩ : ∃ r, decO l = r := ⟨_, rfl⟩
 rw [hres]
 have HRES := Lib.hid hres
 clear hres
 have hkc := colK_c A cap l 121 hl egK w hc (fun W m _ _ => kind_w m W)
 have HKC := Lib.hid hkc
 have HC := Lib.hid hc
 clear hkc hc
 have hkl : (l.map fun m => m.1).length = l.length := List.length_map ..
 have HKL := Lib.hid hkl
 clear hkl
 go_enter Tryz.func70, Tryz.ntmps70
 go_wp2_with fail
 refine HKC.out.mono ?_
 rintro e w1 ⟨AK0, cK0, rfl, -, -, -, hat, hb⟩
 have B1 := Lib.hid hb
 have K1 := Lib.hid hat
 clear hat hb
 obtain ⟨W2, hW2⟩ : ∃ W2, W2 = w1.alloc (.cells #[.int .i64 4, .int .i64 5, .int .i64 6, .int .i64 7, .int .i64 8] 3) := ⟨_, rfl⟩
 have b2 : Below w1.heap.size w1 W2 := by rw [hW2]; exact (Below.refl _ _).alloc (Nat.le_refl _) _
 have heq := eqI_c AK0 (some ⟨w1.heap.size, 0, none⟩) cK0 5 (l.map fun m => m.1) [4, 5, 6, 7, 8] (by rw [HKL.out]; unfold maxLen; omega) (by unfold maxLen; decide) W2 (K1.out.keep b2) (by rw [hW2]; exact at_newO w1 3 (ivs [4, 5, 6, 7, 8]))
 rw [HKL.out] at heq
 have HEQ := Lib.hid heq
 have HW2 := Lib.hid hW2
 have B2 := Lib.hid (B1.out.trans (b2.mono B1.out.size))
 clear heq hW2 b2 K1
 go_wp2_with fail
 rw [← HW2.out]
 refine HEQ.out.mono ?_
 rintro e w3 ⟨rfl, q, rfl⟩
 have B3 := Lib.hid (B2.out.trans ((below_drewN (Below.refl _ W2) q).mono B2.out.size))
 rcases Decidable.em (¬ (l.map fun m => m.1) = [4, 5, 6, 7, 8]) with hno | hyes
 ·have hd : RES = ([], 5) := HRES.out.symm.trans (decO_kinds hno)
  have HD := Lib.hid hd
  have hdec : decide ((l.map fun m => m.1) = [4, 5, 6, 7, 8]) = false := decide_eq_false hno
  rw [hdec]
  clear hd hno hdec
  go_wp2_with fail
  exact ⟨rfl, tmEnd_no (by rw [HD.out]) (show (5 : Int) ≠ 0 by simp) B3.out⟩
 have hyes2 : (l.map fun m => m.1) = [4, 5, 6, 7, 8] := Decidable.not_not.1 hyes
 rw [decide_eq_true hyes2]
 obtain ⟨b0, b1, b2, b3, b4, rfl⟩ := kinds_five hyes2
 clear hyes hyes2 HKC HEQ HKL
 have s0 : b0.length ≤ 90000 := hs (4, b0) (by simp)
 have s1 : b1.length ≤ 90000 := hs (5, b1) (by simp)
 have s2 : b2.length ≤ 90000 := hs (6, b2) (by simp)
 have s3 : b3.length ≤ 90000 := hs (7, b3) (by simp)
 have s4 : b4.length ≤ 90000 := hs (8, b4) (by simp)
 clear hs hl
 obtain ⟨bA, oA, rfl, hbA, z0, z1, z2, z3, z4⟩ := five_cells HC.out
 have CE0 := Lib.hid z0
 have CE1 := Lib.hid z1
 have CE2 := Lib.hid z2
 have CE3 := Lib.hid z3
 have CE4 := Lib.hid z4
 clear z0 z1 z2 z3 z4
 obtain ⟨d, hd⟩ : ∃ d, doneV (numS ⟨b0, 0⟩) = d := ⟨_, rfl⟩
 obtain ⟨n, hn⟩ : ∃ n, numV ⟨b0, 0⟩ = n := ⟨_, rfl⟩
 have htc := tcount_c b0 (by omega) (W2.drewN q)
 rw [hd, hn] at htc
 have hdo := HRES.out.symm.trans (decO_at (b1 := b1) (b2 := b2) (b3 := b3) (b4 := b4) hd hn)
 have HTC := Lib.hid htc
 have HDO := Lib.hid hdo
 clear htc hdo hd hn HRES
 have y0 := cell_below CE0.out B3.out hbA
 rcases Decidable.em (d ≠ 0) with hd0 | hd0
 ·have htc := HTC.out.mono (R' := fun e w' => e = Pn d ∧ Below (W2.drewN q).heap.size (W2.drewN q) w') (fun e w' h => by
   obtain ⟨h1, h2⟩ := h
   rw [if_pos hd0] at h2
   exact ⟨h2, h1⟩)
  have hr := HDO.out
  rw [if_pos hd0] at hr
  have HT := Lib.hid htc
  have HR := Lib.hid hr
  clear htc hr HTC HDO
  go_wp2_with fail
  refine HT.out.mono ?_
  rintro e w4 ⟨rfl, hb⟩
  go_wp2_with fail
  exact ⟨rfl, tmEnd_no (by rw [HR.out]) hd0 (B3.out.trans (hb.mono B3.out.size))⟩
 obtain rfl : d = 0 := by simpa using hd0
 clear hd0
 rcases Decidable.em (2000 < n) with hn2 | hn2
 ·have htc := HTC.out.mono (R' := fun e w' => e = Pn 10 ∧ Below (W2.drewN q).heap.size (W2.drewN q) w') (fun e w' h => by
   obtain ⟨h1, h2⟩ := h
   rw [if_neg (show ¬ ((0 : Int) ≠ 0) by simp), if_pos hn2] at h2
   exact ⟨h2, h1⟩)
  have hr := HDO.out
  rw [if_neg (show ¬ ((0 : Int) ≠ 0) by simp), if_pos hn2] at hr
  have HT := Lib.hid htc
  have HR := Lib.hid hr
  clear htc hr HTC HDO
  go_wp2_with fail
  refine HT.out.mono ?_
  rintro e w4 ⟨rfl, hb⟩
  go_wp2_with fail
  exact ⟨rfl, tmEnd_no (by rw [HR.out]) (show (10 : Int) ≠ 0 by simp) (B3.out.trans (hb.mono B3.out.size))⟩
 have htc := HTC.out.mono (R' := fun e w' => e = .returned (.int .i64 (n : Int)) ∧ Below (W2.drewN q).heap.size (W2.drewN q) w') (fun e w' h => by
  obtain ⟨h1, h2⟩ := h
  rw [if_neg (show ¬ ((0 : Int) ≠ 0) by simp), if_neg hn2] at h2
  exact ⟨h2, h1⟩)
 have hr := HDO.out
 rw [if_neg (show ¬ ((0 : Int) ≠ 0) by simp), if_neg hn2] at hr
 have HT := Lib.hid htc
 have hn3 : n ≤ 2000 := by omega
 clear htc HTC HDO hn2
 obtain ⟨⟨a1, a2, x1⟩, e1⟩ : ∃ q, cutP b1 = q := ⟨_, rfl⟩
 obtain ⟨⟨cs, x2⟩, e2⟩ : ∃ q, decV a1 n = q := ⟨_, rfl⟩
 obtain ⟨⟨rs, x3⟩, e3⟩ : ∃ q, decU a2 n = q := ⟨_, rfl⟩
 obtain ⟨⟨a3, a4, x4⟩, e4⟩ : ∃ q, cutP b2 = q := ⟨_, rfl⟩
 obtain ⟨⟨ps, x5⟩, e5⟩ : ∃ q, decV a3 n = q := ⟨_, rfl⟩
 obtain ⟨⟨ks, x6⟩, e6⟩ : ∃ q, decV a4 n = q := ⟨_, rfl⟩
 obtain ⟨⟨ns, x7⟩, e7⟩ : ∃ q, Dt.decD b3 n 64 = q := ⟨_, rfl⟩
 obtain ⟨⟨us, x8⟩, e8⟩ : ∃ q, takeU b4 n = q := ⟨_, rfl⟩
 rw [decN_at e1 e2 e3 e4 e5 e6 e7 e8] at hr
 have c1 := cutP_len b1
 rw [e1] at c1
 have c2 := cutP_len b2
 rw [e4] at c2
 have t1 : a1.length ≤ 90000 := by have := c1.1; simp only at this; omega
 have t2 : a2.length ≤ 90000 := by have := c1.2; simp only at this; omega
 have t3 : a3.length ≤ 90000 := by have := c2.1; simp only at this; omega
 have t4 : a4.length ≤ 90000 := by have := c2.2; simp only at this; omega
 have R0 := Lib.hid hr
 have E1 := Lib.hid e1
 have E2 := Lib.hid e2
 have E3 := Lib.hid e3
 have E4 := Lib.hid e4
 have E5 := Lib.hid e5
 have E6 := Lib.hid e6
 have E7 := Lib.hid e7
 have E8 := Lib.hid e8
 clear hr e1 e2 e3 e4 e5 e6 e7 e8 c1 c2
 have hn0 : (-9223372036854775808 : Int) ≤ (n : Int) := by omega
 have hn9 : (n : Int) ≤ 9223372036854775807 := by omega
 go_wp2_with fail
 refine HT.out.mono ?_
 rintro e w4 ⟨rfl, hb⟩
 have B4 := Lib.hid (B3.out.trans (hb.mono B3.out.size))
 clear hb HT y0
 have y := cell_below CE1.out B4.out hbA
 rcases Decidable.em (x1 ≠ 0) with hx | hx
 ·have hr := R0.out
  rw [if_pos hx] at hr
  have HR := Lib.hid hr
  clear hr
  go_wp2_with fail
  refine (tcut_n (by omega) E1.out hx _).mono ?_
  rintro e w9 ⟨rfl, hb⟩
  go_wp2_with fail
  exact ⟨rfl, tmEnd_no (by rw [HR.out]) hx (B4.out.trans (hb.mono B4.out.size))⟩
 obtain rfl : x1 = 0 := by simpa using hx
 have hr := R0.out
 rw [if_neg (show ¬ ((0 : Int) ≠ 0) by simp)] at hr
 have R1 := Lib.hid hr
 clear hr hx R0
 go_wp2_with fail
 refine (tcut_y (by omega) E1.out _).mono ?_
 rintro e w5 ⟨rfl, hb⟩
 have B5 := Lib.hid (B4.out.trans (hb.mono B4.out.size))
 clear hb y  B4
 go_wp2_with fail
 refine (vdec_k E2.out rfl hn0 hn9 (by omega) _).mono ?_
 rintro e w6 ⟨AC, cC, rfl, hat, hb⟩
 have B6 := Lib.hid (B5.out.trans (hb.mono B5.out.size))
 have HC6 := Lib.hid hat
 clear hb hat  B5
 rcases Decidable.em (x2 ≠ 0) with hx | hx
 ·have hr := R1.out
  rw [if_pos hx] at hr
  have HR := Lib.hid hr
  clear hr
  go_wp2_with fail
  refine (mustI_n _ hx _).mono ?_
  rintro e w9 ⟨rfl, hw⟩
  subst hw
  go_wp2_with fail
  exact ⟨rfl, tmEnd_no (by rw [HR.out]) hx B6.out⟩
 obtain rfl : x2 = 0 := by simpa using hx
 have hr := R1.out
 rw [if_neg (show ¬ ((0 : Int) ≠ 0) by simp)] at hr
 have R2 := Lib.hid hr
 clear hr hx R1
 go_wp2_with fail
 refine (mustI_y _ _).mono ?_
 rintro e wx ⟨rfl, hw⟩
 subst hw
 go_wp2_with fail
 refine (udec_k E3.out rfl hn0 hn9 (by omega) _).mono ?_
 rintro e w7 ⟨AR, cR, rfl, hat, hb⟩
 have B7 := Lib.hid (B6.out.trans (hb.mono B6.out.size))
 have HC7 := Lib.hid (HC6.out.keep hb)
 have HR7 := Lib.hid hat
 clear hb hat HC6 B6
 rcases Decidable.em (x3 ≠ 0) with hx | hx
 ·have hr := R2.out
  rw [if_pos hx] at hr
  have HR := Lib.hid hr
  clear hr
  go_wp2_with fail
  refine (mustU_n _ hx _).mono ?_
  rintro e w9 ⟨rfl, hw⟩
  subst hw
  go_wp2_with fail
  exact ⟨rfl, tmEnd_no (by rw [HR.out]) hx B7.out⟩
 obtain rfl : x3 = 0 := by simpa using hx
 have hr := R2.out
 rw [if_neg (show ¬ ((0 : Int) ≠ 0) by simp)] at hr
 have R3 := Lib.hid hr
 clear hr hx R2
 go_wp2_with fail
 refine (mustU_y _ _).mono ?_
 rintro e wx ⟨rfl, hw⟩
 subst hw
 have y := cell_below CE2.out B7.out hbA
 rcases Decidable.em (x4 ≠ 0) with hx | hx
 ·have hr := R3.out
  rw [if_pos hx] at hr
  have HR := Lib.hid hr
  clear hr
  go_wp2_with fail
  refine (tcut_n (by omega) E4.out hx _).mono ?_
  rintro e w9 ⟨rfl, hb⟩
  go_wp2_with fail
  exact ⟨rfl, tmEnd_no (by rw [HR.out]) hx (B7.out.trans (hb.mono B7.out.size))⟩
 obtain rfl : x4 = 0 := by simpa using hx
 have hr := R3.out
 rw [if_neg (show ¬ ((0 : Int) ≠ 0) by simp)] at hr
 have R4 := Lib.hid hr
 clear hr hx R3
 go_wp2_with fail
 refine (tcut_y (by omega) E4.out _).mono ?_
 rintro e w8 ⟨rfl, hb⟩
 have B8 := Lib.hid (B7.out.trans (hb.mono B7.out.size))
 have HC8 := Lib.hid (HC7.out.keep hb)
 have HR8 := Lib.hid (HR7.out.keep hb)
 clear hb y HC7 HR7 B7
 go_wp2_with fail
 refine (vdec_k E5.out rfl hn0 hn9 (by omega) _).mono ?_
 rintro e w9 ⟨AP, cP, rfl, hat, hb⟩
 have B9 := Lib.hid (B8.out.trans (hb.mono B8.out.size))
 have HC9 := Lib.hid (HC8.out.keep hb)
 have HR9 := Lib.hid (HR8.out.keep hb)
 have HP9 := Lib.hid hat
 clear hb hat HC8 HR8 B8
 rcases Decidable.em (x5 ≠ 0) with hx | hx
 ·have hr := R4.out
  rw [if_pos hx] at hr
  have HR := Lib.hid hr
  clear hr
  go_wp2_with fail
  refine (mustI_n _ hx _).mono ?_
  rintro e w9 ⟨rfl, hw⟩
  subst hw
  go_wp2_with fail
  exact ⟨rfl, tmEnd_no (by rw [HR.out]) hx B9.out⟩
 obtain rfl : x5 = 0 := by simpa using hx
 have hr := R4.out
 rw [if_neg (show ¬ ((0 : Int) ≠ 0) by simp)] at hr
 have R5 := Lib.hid hr
 clear hr hx R4
 go_wp2_with fail
 refine (mustI_y _ _).mono ?_
 rintro e wx ⟨rfl, hw⟩
 subst hw
 go_wp2_with fail
 refine (vdec_k E6.out rfl hn0 hn9 (by omega) _).mono ?_
 rintro e w10 ⟨AK, cK, rfl, hat, hb⟩
 have B10 := Lib.hid (B9.out.trans (hb.mono B9.out.size))
 have HC10 := Lib.hid (HC9.out.keep hb)
 have HR10 := Lib.hid (HR9.out.keep hb)
 have HP10 := Lib.hid (HP9.out.keep hb)
 have HK10 := Lib.hid hat
 clear hb hat HC9 HR9 HP9 B9
 rcases Decidable.em (x6 ≠ 0) with hx | hx
 ·have hr := R5.out
  rw [if_pos hx] at hr
  have HR := Lib.hid hr
  clear hr
  go_wp2_with fail
  refine (mustI_n _ hx _).mono ?_
  rintro e w9 ⟨rfl, hw⟩
  subst hw
  go_wp2_with fail
  exact ⟨rfl, tmEnd_no (by rw [HR.out]) hx B10.out⟩
 obtain rfl : x6 = 0 := by simpa using hx
 have hr := R5.out
 rw [if_neg (show ¬ ((0 : Int) ≠ 0) by simp)] at hr
 have R6 := Lib.hid hr
 clear hr hx R5
 go_wp2_with fail
 refine (mustI_y _ _).mono ?_
 rintro e wx ⟨rfl, hw⟩
 subst hw
 have y := cell_below CE3.out B10.out hbA
 go_wp2_with fail
 refine (sdec_k E7.out rfl hn0 hn9 (by omega) (by omega) _).mono ?_
 rintro e w11 ⟨AN, cN, rfl, hat, hb⟩
 have B11 := Lib.hid (B10.out.trans (hb.mono B10.out.size))
 have HC11 := Lib.hid (HC10.out.keep hb)
 have HR11 := Lib.hid (HR10.out.keep hb)
 have HP11 := Lib.hid (HP10.out.keep hb)
 have HK11 := Lib.hid (HK10.out.keep hb)
 have HN11 := Lib.hid hat
 clear hb hat y HC10 HR10 HP10 HK10 B10
 rcases Decidable.em (x7 ≠ 0) with hx | hx
 ·have hr := R6.out
  rw [if_pos hx] at hr
  have HR := Lib.hid hr
  clear hr
  go_wp2_with fail
  refine (mustS_n _ hx _).mono ?_
  rintro e w9 ⟨rfl, hw⟩
  subst hw
  go_wp2_with fail
  exact ⟨rfl, tmEnd_no (by rw [HR.out]) hx B11.out⟩
 obtain rfl : x7 = 0 := by simpa using hx
 have hr := R6.out
 rw [if_neg (show ¬ ((0 : Int) ≠ 0) by simp)] at hr
 have R7 := Lib.hid hr
 clear hr hx R6
 go_wp2_with fail
 refine (mustS_y _ _).mono ?_
 rintro e wx ⟨rfl, hw⟩
 subst hw
 have y := cell_below CE4.out B11.out hbA
 rcases Decidable.em (x8 ≠ 0) with hx | hx
 ·have hr := R7.out
  rw [if_pos hx] at hr
  have HR := Lib.hid hr
  clear hr
  go_wp2_with fail
  refine (tranks_n E8.out hx (by omega) hn0 hn9 _).mono ?_
  rintro e w9 ⟨rfl, hb⟩
  go_wp2_with fail
  exact ⟨rfl, tmEnd_no (by rw [HR.out]) hx (B11.out.trans (hb.mono B11.out.size))⟩
 obtain rfl : x8 = 0 := by simpa using hx
 have hr := R7.out
 rw [if_neg (show ¬ ((0 : Int) ≠ 0) by simp)] at hr
 have R8 := Lib.hid hr
 clear hr hx R7
 go_wp2_with fail
 refine (tranks_y E8.out (by omega) hn0 hn9 _).mono ?_
 rintro e w12 ⟨AF, cF, ys, rfl, hcb, hwy, hat, hb⟩
 have B12 := Lib.hid (B11.out.trans (hb.mono B11.out.size))
 have HC12 := Lib.hid (HC11.out.keep hb)
 have HR12 := Lib.hid (HR11.out.keep hb)
 have HP12 := Lib.hid (HP11.out.keep hb)
 have HK12 := Lib.hid (HK11.out.keep hb)
 have HN12 := Lib.hid (HN11.out.keep hb)
 have HF12 := Lib.hid hat
 clear hb hat y HC11 HR11 HP11 HK11 HN11 B11
 obtain ⟨l1, l2, l3, l4, l5, l6, hrs⟩ := dec_lens E2.out E3.out E5.out E6.out E7.out E8.out
 have hnm := decD_names E7.out
 have l7 : ys.length = n := by rw [← l6, ← hcb, cbs_len]
 obtain ⟨zs, hzs⟩ : ∃ zs, zipY cs rs ps ks ns ys = zs := ⟨_, rfl⟩
 have hzl := zipY_len n l1 l2 l3 l4 l5 l7
 have hsim := zipY_sim cs rs ps ks ns ys hwy
 have hznm := zipY_nm cs rs ps ks ns ys hnm
 rw [hzs] at hzl hsim hznm
 rw [hcb] at hsim
 have HZS := Lib.hid hzs
 have HSIM := Lib.hid hsim
 have HNM := Lib.hid hznm
 have HRS := Lib.hid hrs
 have HCB := Lib.hid hcb
 clear hzs hsim hznm hrs hcb hnm hwy E1 E2 E3 E4 E5 E6 E7 E8 CE0 CE1 CE2 CE3 CE4
 have hmk := make_movesI n hn3
 go_wp2_with fail
 obtain ⟨L, hL⟩ : ∃ L, w12.heap.size = L := ⟨_, rfl⟩
 obtain ⟨W5, hW5⟩ : ∃ W5, W5 = w12.alloc (.cells (mvs (List.replicate n zM)).toArray 51) := ⟨_, rfl⟩
 have b5 : Below w12.heap.size w12 W5 := by rw [hW5]; exact (Below.refl _ _).alloc (Nat.le_refl _) _
 have m5 : TmLi w L n zs cs ps ks rs ys ns AC AR AP AK AN AF W5 0 := by
  refine ⟨?_, ?_, ?_, ?_, ?_, ?_, ?_, B12.out.trans (b5.mono B12.out.size), by rw [← hL]; exact B12.out.size⟩
  ·rw [hW5, ← hL, List.take_zero, List.nil_append, Nat.sub_zero]; exact is_new w12 51 _
  ·rw [← hL]; exact HC12.out.below b5
  ·rw [← hL]; exact HR12.out.below b5
  ·rw [← hL]; exact HP12.out.below b5
  ·rw [← hL]; exact HK12.out.below b5
  ·rw [← hL]; exact HN12.out.below b5
  ·rw [← hL]; exact HF12.out.below b5
 rw [← hW5, hL]
 have M5 := Lib.hid m5
 clear m5 b5 hW5 hL hmk HC12 HR12 HP12 HK12 HN12 HF12 B12
 go_loopw [87] (fun i wr => ∃ k : Nat, i = .int .i64 (k : Int) ∧ k ≤ n ∧ (∀ m ∈ zs.take k, oneM m = true) ∧ TmLi w L n zs cs ps ks rs ys ns AC AR AP AK AN AF wr k) (fun i _ => n - (Go.RowKit.intOf i).toNat)
 case atStart => exact ⟨0, rfl, Nat.zero_le _, by simp, M5.out⟩
 case round =>
  obtain ⟨k, rfl, hk, hone, hli⟩ := hrel
  have HLI := Lib.hid hli
  have HONE := Lib.hid hone
  clear hli hone M5
  by_cases hlt : k < n
  ·have hki : (0 : Int) ≤ (k : Int) := by omega
   have hkn : (k : Int) < (n : Int) := by omega
   obtain ⟨c, hc⟩ := some_at (show k < cs.length by omega)
   obtain ⟨r, hr⟩ := some_at (show k < rs.length by omega)
   obtain ⟨p, hp⟩ := some_at (show k < ps.length by omega)
   obtain ⟨kk, hkk⟩ := some_at (show k < ks.length by omega)
   obtain ⟨x, hx⟩ := some_at (show k < ns.length by omega)
   obtain ⟨y, hy⟩ := some_at (show k < ys.length by omega)
   have hm := zipY_at hc hr hp hkk hx hy
   rw [HZS.out] at hm
   obtain ⟨w1i, w2i⟩ := u2i (HRS.out r (mem_at hr))
   obtain ⟨bC, oC, rfl, hbC, y1⟩ := HLI.out.c k _ (ival hc)
   obtain ⟨bR, oR, rfl, hbR, y2⟩ := HLI.out.r k _ (uval hr)
   obtain ⟨bP, oP, rfl, hbP, y3⟩ := HLI.out.p k _ (ival hp)
   obtain ⟨bK, oK, rfl, hbK, y4⟩ := HLI.out.k k _ (ival hkk)
   obtain ⟨bN, oN, rfl, hbN, y5⟩ := HLI.out.s k _ (sval hx)
   obtain ⟨bF, oF, rfl, hbF, y6⟩ := HLI.out.f k _ (fval hy)
   have k1 : (k : Int) < (cs.length : Int) := by omega
   have k2 : (k : Int) < (rs.length : Int) := by omega
   have k3 : (k : Int) < (ps.length : Int) := by omega
   have k4 : (k : Int) < (ks.length : Int) := by omega
   have k5 : (k : Int) < (ns.length : Int) := by omega
   have k6 : (k : Int) < (us.length : Int) := by omega
   have HM := Lib.hid hm
   clear hc hr hp hkk hx hy hm
   go_wp2_with fail
   have hLw := is_lt HLI.out.row
   have hbT : Below wr.heap.size wr (wr.alloc (.cells #[.int .i64 0, .int .i64 0] 48)) := (Below.refl _ _).alloc (Nat.le_refl _) _
   have z1 := cell_below y1 hbT (Nat.lt_trans hbC hLw)
   have z2 := cell_below y2 hbT (Nat.lt_trans hbR hLw)
   clear hbT
   go_region
   obtain ⟨G, hG⟩ : ∃ G, wr.heap.size = G := ⟨_, rfl⟩
   obtain ⟨W7, hW7⟩ : ∃ W7, W7 = (wr.alloc (.cells #[.int .i64 c, .int .i64 (i64 r)] 48)).drew := ⟨_, rfl⟩
   have b7 : Below wr.heap.size wr W7 := by rw [hW7]; exact ((Below.refl _ _).alloc (Nat.le_refl _) _).drew
   have i7 : Is W7 G 48 [.int .i64 c, .int .i64 (i64 r)] := by rw [hW7, ← hG]; exact is_new wr 48 [.int .i64 c, .int .i64 (i64 r)]
   rw [← hW7, hG]
   have M7 := Lib.hid (HLI.out.below b7)
   have g0 := is_cell i7 0
   have g1 := is_cell i7 1
   simp only [List.getElem?_cons_zero, List.getElem?_cons_succ] at g0 g1
   have v3 := cell_below y3 b7 (Nat.lt_trans hbP hLw)
   have v4 := cell_below y4 b7 (Nat.lt_trans hbK hLw)
   have v5 := cell_below y5 b7 (Nat.lt_trans hbN hLw)
   have v6 := cell_below y6 b7 (Nat.lt_trans hbF hLw)
   obtain ⟨q0, l0⟩ := M7.out.cells hlt hzl 0 (by omega)
   obtain ⟨q1, l1⟩ := M7.out.cells hlt hzl 1 (by omega)
   obtain ⟨q2, l2⟩ := M7.out.cells hlt hzl 2 (by omega)
   obtain ⟨q3, l3⟩ := M7.out.cells hlt hzl 3 (by omega)
   obtain ⟨q4, l4⟩ := M7.out.cells hlt hzl 4 (by omega)
   obtain ⟨q5, l5⟩ := M7.out.cells hlt hzl 5 (by omega)
   have f0 := is_free M7.out.row (k * 6)
   have f1 := is_free M7.out.row (k * 6 + 1)
   have f2 := is_free M7.out.row (k * 6 + 2)
   have f3 := is_free M7.out.row (k * 6 + 3)
   have f4 := is_free M7.out.row (k * 6 + 4)
   have f5 := is_free M7.out.row (k * 6 + 5)
   rw [Nat.add_zero] at l0
   clear y1 y2 y3 y4 y5 y6 z1 z2 b7 i7 hW7 hG hbC hbR hbP hbK hbN hbF w1i w2i hLw
   go_wp2_with fail
   go_region
   obtain ⟨W8, hW8⟩ : ∃ W8, W8 = (((((((W7.setCell ⟨L, k * 6, none⟩ (.int .i64 c)).setCell ⟨L, k * 6 + 1, none⟩ (.int .i64 (i64 r))).setCell ⟨L, k * 6 + 2, none⟩ (.int .i64 p)).setCell ⟨L, k * 6 + 3, none⟩ (.int .i64 kk)).setCell ⟨L, k * 6 + 4, none⟩ (.string (ba x))).setCell ⟨L, k * 6 + 5, none⟩ (.float .f64 y)).drew) := ⟨_, rfl⟩
   have m8 : TmLi w L n zs cs ps ks rs ys ns (some ⟨bC, oC, none⟩) (some ⟨bR, oR, none⟩) (some ⟨bP, oP, none⟩) (some ⟨bK, oK, none⟩) (some ⟨bN, oN, none⟩) (some ⟨bF, oF, none⟩) W8 (k + 1) := by
    rw [hW8]; exact (M7.out.put hlt hzl (c, i64 r, kk, p, x, y) HM.out).below (Below.refl _ _).drew
   rw [← hW8]
   have hmm := mem_at HM.out
   obtain ⟨d0, d1, d2, d3, d4, d5⟩ := m8.at hlt HM.out
   have M8 := Lib.hid m8
   clear m8 hW8 M7 l0 l1 l2 l3 l4 l5 f0 f1 f2 f3 f4 f5 g0 g1 v3 v4 v5 v6
   have hnl := HNM.out _ hmm
   have hcall := pone_k (c, i64 r, kk, p, x, y) (by unfold maxLen; omega) W8
   have HCA := Lib.hid hcall
   obtain ⟨b, ho⟩ : ∃ b, oneM (c, i64 r, kk, p, x, y) = b := ⟨_, rfl⟩
   have HO := Lib.hid ho
   have HMM := Lib.hid hmm
   clear hcall ho hnl hmm
   go_wp2_with fail
   with_reducible refine HCA.out.mono ?_
   rintro e w9 ⟨rfl, hb9⟩
   rw [HO.out]
   have M9 := Lib.hid (M8.out.below hb9)
   clear hb9 M8 d0 d1 d2 d3 d4 d5
   cases b with
   | false =>
    have hall : zs.all oneM = false := by
     cases hq : zs.all oneM with
     | false => rfl
     | true => exact absurd (List.all_eq_true.1 hq _ HMM.out) (by rw [HO.out]; simp)
    rw [sim_all HSIM.out] at hall
    have hend := R8.out
    unfold endO at hend
    rw [if_pos hall] at hend
    have HEND := Lib.hid hend
    clear hall hend
    go_wp2_with fail
    exact ⟨rfl, tmEnd_no (by rw [HEND.out]) (show (5 : Int) ≠ 0 by simp) M9.out.own⟩
   | true =>
    go_wp2_with fail
    go_roundw
    case rel =>
     refine ⟨k + 1, by go_num, by omega, fun m hm => ?_, M9.out⟩
     rw [List.take_add_one, HM.out] at hm
     simp only [Option.toList_some] at hm
     rcases List.mem_append.1 hm with hm | hm
     ·exact HONE.out m hm
     ·rw [List.mem_singleton.1 hm]; exact HO.out
    case measure => simp only [Go.RowKit.intOf]; omega
  ·obtain rfl : k = n := by omega
   have hall : zs.all oneM = true := List.all_eq_true.2 fun m hm => HONE.out m (by rw [← hzl, List.take_length]; exact hm)
   have hrow := HLI.out.row
   rw [Nat.sub_self, List.replicate_zero, List.append_nil, show zs.take k = zs by rw [← hzl, List.take_length]] at hrow
   have hat : At wr wr.heap.size (some ⟨L, 0, none⟩) (mvs zs) := fun i v hv => ⟨L, 0, rfl, is_lt hrow, by rw [Nat.zero_add]; exact (is_cell hrow i).trans hv⟩
   have hcall := mmay_c (some ⟨L, 0, none⟩) k zs (by unfold maxLen; omega) (fun m hm => by have := HNM.out m hm; unfold maxLen; omega) wr hat
   rw [hzl] at hcall
   have hend := R8.out
   unfold endO at hend
   rw [← sim_all HSIM.out, hall, if_neg (by simp), ← sim_may HSIM.out] at hend
   obtain ⟨b, ho⟩ : ∃ b, mayM zs = b := ⟨_, rfl⟩
   rw [ho] at hcall hend
   have HCA := Lib.hid hcall
   have HEND := Lib.hid hend
   have HAT := Lib.hid hat
   clear hall hrow hat hcall hend ho
   go_wp2_with fail
   refine HCA.out.mono ?_
   rintro e w9 ⟨rfl, hb9⟩
   have hb := HLI.out.own.trans (hb9.mono HLI.out.own.size)
   have ha9 := HAT.out.keep hb9
   cases b with
   | false =>
    have hend := HEND.out
    rw [if_pos rfl] at hend
    have HE2 := Lib.hid hend
    clear hend
    go_wp2_with fail
    exact ⟨rfl, tmEnd_no (by rw [HE2.out]) (show (12 : Int) ≠ 0 by simp) hb⟩
   | true =>
    have hend := HEND.out
    rw [if_neg (by simp)] at hend
    have HE2 := Lib.hid hend
    clear hend
    go_wp2_with fail
    go_ret
    have hy := tmEnd_yes (cap := k) HE2.out HSIM.out hb ha9 (by omega)
    rw [hzl] at hy
    exact hy
end Go.Proofs.YtojhenpaeedimaaGreat
