/-
 Decode of columns: the document's.
-/
import Derived.Test.YtojhenpaeedimaaGreatOw
import Derived.Test.YtojhenpaeedimaaGreatUl
import Derived.Test.YtojhenpaeedimaaGreatDg
import Derived.Test.YtojhenpaeedimaaGreatQj
import Derived.Test.YtojhenpaeedimaaGreatJk
namespace Go.Proofs.YtojhenpaeedimaaGreat
open Go.RowKit Go.IntWalk
open Pk Rf Fl Wd Ol Dl Ru Fg Dt Rl
set_option maxRecDepth 100000
attribute [local go_sem] Oper.semAt_some
theorem vrdec_k {l : List UInt8} {n : Int} {ys : List Int} {x : Int} {k : Nat} (h : decV l n = (ys, x)) (hk : ys.length = k) (hn1 : -9223372036854775808 ≤ n) (hn2 : n ≤ 9223372036854775807) (hl : l.length ≤ 100000) (w : World) :
  Calls Tryz.prog 72 #[.string (ba l), .int .i64 n] w fun e w' => ∃ A cap, e = .returned (.tuple #[.slice A k cap, .int .i64 x]) ∧ At w' w'.heap.size A (ivs ys) ∧ Below w.heap.size w w' := by
 subst hk
 refine (Dl.rdecode_c l n hn1 hn2 hl w).mono ?_
 rintro e w' ⟨A, cap, rfl, -, -, ha, hb⟩
 rw [h] at ha ⊢
 exact ⟨A, cap, rfl, ha, hb⟩
theorem urdec_k {l : List UInt8} {n : Int} {ys : List Nat} {x : Int} {k : Nat} (h : decU l n = (ys, x)) (hk : ys.length = k) (hn1 : -9223372036854775808 ≤ n) (hn2 : n ≤ 9223372036854775807) (hl : l.length ≤ 100000) (w : World) :
  Calls Tryz.prog 73 #[.string (ba l), .int .i64 n] w fun e w' => ∃ A cap, e = .returned (.tuple #[.slice A k cap, .int .i64 x]) ∧ At w' w'.heap.size A (uvs ys) ∧ Below w.heap.size w w' := by
 subst hk
 refine (urdecode_c l n hn1 hn2 hl w).mono ?_
 rintro e w' ⟨A, cap, rfl, -, -, ha, hb⟩
 rw [h] at ha ⊢
 exact ⟨A, cap, rfl, ha, hb⟩
theorem srdec_k {l : List UInt8} {n most : Int} {ys : List Dc.Tx} {x : Int} {k : Nat} (h : Dt.decD l n most = (ys, x)) (hk : ys.length = k) (hn1 : -9223372036854775808 ≤ n) (hn2 : n ≤ 9223372036854775807) (hm : most ≤ 9223372036854775807) (hl : l.length ≤ 100000) (w : World) :
  Calls Tryz.prog 74 #[.string (ba l), .int .i64 n, .int .i64 most] w fun e w' => ∃ A cap, e = .returned (.tuple #[.slice A k cap, .int .i64 x]) ∧ At w' w'.heap.size A (svs ys) ∧ Below w.heap.size w w' := by
 subst hk
 refine (drdecode_c l n most hn1 hn2 hm hl w).mono ?_
 rintro e w' ⟨A, cap, rfl, -, -, ha, hb⟩
 rw [h] at ha ⊢
 exact ⟨A, cap, rfl, ha, hb⟩
theorem rtranks_k {s : List UInt8} {n : Int} {us : List Nat} {x : Int} (h : takeU s n = (us, x)) (hs : s.length ≤ 90000) (hn1 : -9223372036854775808 ≤ n) (hn2 : n ≤ 9223372036854775807) (w : World) :
  Calls Tryz.prog 24 #[.string (ba s), .int .i64 n] w fun e w' => ∃ A cap ys, e = .returned (.tuple #[.slice A us.length cap, .int .i64 x]) ∧ cbs ys = us ∧ Re.Words ys ∧ At w' w'.heap.size A (fvs ys) ∧ Below w.heap.size w w' := by
 refine (rtranks_c s n hs hn1 hn2 w).mono ?_
 rintro e w' ⟨hb, A, cap, ys, rfl, h1, h2, h3, -⟩
 rw [h] at h1 ⊢
 have hl : us.length = ys.length := by rw [show us = cbs ys from h1.symm, cbs_len]
 rw [hl]
 exact ⟨A, cap, ys, rfl, h1, h2, h3, hb⟩
theorem dmEnd_none {r : List Mv × Int} {w w' : World} {x : Int} (h : r = ([], x)) (hb : Below w.heap.size w w') : DmEnd r w (.returned (.tuple #[.slice none 0 0, .int .i64 x])) w' := by
 subst h
 exact ⟨hb, none, 0, [], rfl, trivial, At.nil _ _ _⟩
theorem rmone_d (m : Mv) (hn : (nm (mw m)).length ≤ maxLen) (w : World) :
  Calls Tryz.prog 75 #[.agg #[.int .i64 (mc m), .int .i64 (mr m), .int .i64 (pa (mw m)), .int .i64 (ch (mw m)), .string (ba (nm (mw m))), .float .f64 (rk (mw m))]] w fun e w' => e = .returned (.bool (oneM m)) ∧ Below w.heap.size w w' := rmone_c m hn w
theorem six_go {wr W W' : World} {a1 a2 a3 a4 a5 a6 : Addr} {u1 u2 u3 u4 u5 u6 : Value} (h1 : a1.block < wr.heap.size) (h2 : a2.block < wr.heap.size) (h3 : a3.block < wr.heap.size) (h4 : a4.block < wr.heap.size) (h5 : a5.block < wr.heap.size) (h6 : a6.block < wr.heap.size)
  (h : W.cell? a1 = some u1 ∧ W.cell? a2 = some u2 ∧ W.cell? a3 = some u3 ∧ W.cell? a4 = some u4 ∧ W.cell? a5 = some u5 ∧ W.cell? a6 = some u6 ∧ Below wr.heap.size wr W) (hb : Below wr.heap.size W W') :
  W'.cell? a1 = some u1 ∧ W'.cell? a2 = some u2 ∧ W'.cell? a3 = some u3 ∧ W'.cell? a4 = some u4 ∧ W'.cell? a5 = some u5 ∧ W'.cell? a6 = some u6 ∧ Below wr.heap.size wr W' := by
 obtain ⟨q1, q2, q3, q4, q5, q6, hw⟩ := h
 exact ⟨(hb.cell h1).trans q1, (hb.cell h2).trans q2, (hb.cell h3).trans q3, (hb.cell h4).trans q4, (hb.cell h5).trans q5, (hb.cell h6).trans q6, hw.trans hb⟩
theorem kinds_take {l : List Ck.Chk} {k : Nat} {c : Ck.Chk} (h : l[k]? = some c) (hk : (l.map fun m => m.1).take k = [4, 5, 6, 7, 8].take k) (h5 : k < 5) (he : c.1 = 4 + (k : Int)) : (l.map fun m => m.1).take (k + 1) = [4, 5, 6, 7, 8].take (k + 1) := by
 have h1 : (l.map fun m => m.1)[k]? = some c.1 := by rw [List.getElem?_map, h]; rfl
 rw [List.take_add_one, List.take_add_one, hk, h1, he]
 congr 1
 match k, h5 with
 | 0, _ => rfl
 | 1, _ => rfl
 | 2, _ => rfl
 | 3, _ => rfl
 | 4, _ => rfl
theorem kinds_off {l : List Ck.Chk} {k : Nat} {c : Ck.Chk} (h : l[k]? = some c) (h5 : k < 5) (he : c.1 ≠ 4 + (k : Int)) : ¬ (l.map fun m => m.1) = [4, 5, 6, 7, 8] := fun e => by
 have h1 : (l.map fun m => m.1)[k]? = some c.1 := by rw [List.getElem?_map, h]; rfl
 rw [e] at h1
 match k, h5 with
 | 0, _ => exact he (by simpa using h1.symm)
 | 1, _ => exact he (by simpa using h1.symm)
 | 2, _ => exact he (by simpa using h1.symm)
 | 3, _ => exact he (by simpa using h1.symm)
 | 4, _ => exact he (by simpa using h1.symm)
set_option maxHeartbeats 16000000 in
theorem rdecO_c (A : Option Addr) (cap : Nat) (l : List Ck.Chk) (_hl : l.length ≤ 100000) (hs : ∀ c ∈ l, c.2.length ≤ 90000) (w : World) (hc : At w w.heap.size A (Ck.cvs l)) :
  Calls Tryz.prog 22 #[.slice A l.length cap] w (DmEnd (decO l) w) := by
 obtain ⟨RES, hres⟩ : ∃ r, decO l = r := ⟨_, rfl⟩
 rw [hres]
 have HRES := Lib.hid hres
 have HC := Lib.hid hc
 clear hres hc
 rcases Decidable.em (¬ l.length = 5) with h5 | h5
 ·have hd : RES = ([], 5) := HRES.out.symm.trans (decO_kinds fun e => h5 (by have := congrArg List.length e; simpa using this))
  have HD := Lib.hid hd
  obtain ⟨N, hN⟩ : ∃ N, l.length = N := ⟨_, rfl⟩
  rw [hN] at h5 ⊢
  have hq1 : ((N : Int) != 5) = true := by simp; omega
  have hq2 : ((N : Int) == 5) = false := by simp; omega
  have hne : ¬ (N : Int) = 5 := by omega
  clear hd hN
  go_enter Tryz.func22, Tryz.ntmps22
  go_wp2_with fail
  go_ret2
  exact dmEnd_none HD.out (Below.refl _ _)
 have hl5 : l.length = 5 := Decidable.not_not.1 h5
 rw [hl5]
 have HL5 := Lib.hid hl5
 clear h5 hl5 _hl
 go_enter Tryz.func22, Tryz.ntmps22
 go_wp2_with fail
 go_loopw [4] (fun i wr => ∃ k : Nat, i = .int .i64 (k : Int) ∧ k ≤ 5 ∧ (l.map fun m => m.1).take k = [4, 5, 6, 7, 8].take k ∧ w = wr) (fun i _ => 5 - (Go.RowKit.intOf i).toNat)
 case atStart => exact ⟨0, rfl, Nat.zero_le _, rfl, rfl⟩
 case round =>
  obtain ⟨k, rfl, hk, htk, rfl⟩ := hrel
  by_cases hlt : k < 5
  ·obtain ⟨c, hcx⟩ := some_at (show k < l.length by have := HL5.out; omega)
   have hki : (0 : Int) ≤ (k : Int) := by omega
   have hkl : (k : Int) < 5 := by omega
   obtain ⟨b, o, rfl, hb, c0, -⟩ := Ck.chunk_cells HC.out hcx
   have hadd : IntKind.i64.wrap (4 + (k : Int)) = 4 + (k : Int) ∧ Go.RowKit.wrap64 (4 + (k : Int)) = 4 + (k : Int) := ⟨IntWalk.i64_in _ (by omega), wrap64_in _ (by omega)⟩
   obtain ⟨hadd1, hadd2⟩ := hadd
   have HCX := Lib.hid hcx
   have HTK := Lib.hid htk
   clear hcx htk
   rcases Decidable.em (c.1 = 4 + (k : Int)) with he | he
   ·have hq1 : (c.1 != 4 + (k : Int)) = false := by rw [he]; simp
    have hq2 : (c.1 == 4 + (k : Int)) = true := by rw [he]; simp
    have HEQ := Lib.hid he
    clear he
    go_wp2_with fail
    go_roundw
    case rel => exact ⟨k + 1, by go_num, by omega, kinds_take HCX.out HTK.out hlt HEQ.out, by trivial⟩
    case measure => simp only [Go.RowKit.intOf]; omega
   ·have hd : RES = ([], 5) := HRES.out.symm.trans (decO_kinds (kinds_off HCX.out hlt he))
    have HD := Lib.hid hd
    have hq1 : (c.1 != 4 + (k : Int)) = true := by simpa using he
    have hq2 : (c.1 == 4 + (k : Int)) = false := by simpa using he
    clear hd
    go_wp2_with fail
    go_ret2
    exact dmEnd_none HD.out (Below.refl _ _)
  have hkk : k = 5 := by omega
  subst hkk
  have hyes2 : (l.map fun m => m.1) = [4, 5, 6, 7, 8] := by
   rw [List.take_of_length_le (by rw [List.length_map, HL5.out]; exact Nat.le_refl _)] at htk
   exact htk
  obtain ⟨b0, b1, b2, b3, b4, rfl⟩ := kinds_five hyes2
  clear hyes2 htk hlt hk HL5
  have s0 : b0.length ≤ 90000 := hs (4, b0) (by simp)
  have s1 : b1.length ≤ 90000 := hs (5, b1) (by simp)
  have s2 : b2.length ≤ 90000 := hs (6, b2) (by simp)
  have s3 : b3.length ≤ 90000 := hs (7, b3) (by simp)
  have s4 : b4.length ≤ 90000 := hs (8, b4) (by simp)
  clear hs
  obtain ⟨bA, oA, rfl, hbA, z0, z1, z2, z3, z4⟩ := five_cells HC.out
  have CE0 := Lib.hid z0
  have CE1 := Lib.hid z1
  have CE2 := Lib.hid z2
  have CE3 := Lib.hid z3
  have CE4 := Lib.hid z4
  clear z1 z2 z3 z4
  obtain ⟨s1', hs1'⟩ : ∃ s, numS ⟨b0, 0⟩ = s := ⟨_, rfl⟩
  obtain ⟨d, hd⟩ : ∃ d, doneV s1' = d := ⟨_, rfl⟩
  obtain ⟨n, hn⟩ : ∃ n, numV ⟨b0, 0⟩ = n := ⟨_, rfl⟩
  have hnl := numV_lt ⟨b0, 0⟩
  rw [hn] at hnl
  have hdo := HRES.out.symm.trans (decO_at (d := d) (b1 := b1) (b2 := b2) (b3 := b3) (b4 := b4) (by rw [hs1']; exact hd) hn)
  have HDO := Lib.hid hdo
  have HS1 := Lib.hid hs1'
  have HDD := Lib.hid hd
  have HNV := Lib.hid hn
  clear hdo hd hn hs1' HRES
  obtain ⟨W1, hW1⟩ : ∃ W1, W1 = w.alloc (.cells #[.string (ba b0), .int .i64 0, .int .i64 0] 81) := ⟨_, rfl⟩
  have hr1 : Ref W1 w.heap.size b0 ⟨b0, 0⟩ := by rw [hW1]; exact ref_mk (Nat.zero_le _) rfl (is_new w 81 [.string (ba b0), .int .i64 0, .int .i64 0])
  have hb1 : Below w.heap.size w W1 := by rw [hW1]; exact (Below.refl _ _).alloc (Nat.le_refl _) _
  have HW := Lib.hid hW1
  have HB1 := Lib.hid hb1
  have HR1 := Lib.hid hr1
  obtain ⟨g, hg⟩ : ∃ g, w.heap.size = g := ⟨_, rfl⟩
  have HG := Lib.hid hg
  clear hr1 hb1 hW1 hg
  go_wp2_with fail
  rw [← HW.out]
  have hr1 := HR1.out
  rw [HG.out] at hr1
  rw [HG.out]
  refine (rnum_m g b0 ⟨b0, 0⟩ (by omega) _ hr1).mono ?_
  rintro e w2 ⟨rfl, hr2, hk2⟩
  rw [HS1.out] at hr2
  rw [HNV.out]
  have HB2 := Lib.hid (below_only HB1.out hk2 HB1.out.size (Nat.le_of_eq HG.out))
  have HR2 := Lib.hid hr2
  clear hk2 hr1 HR1 hr2 z0
  go_wp2_with fail
  refine (rdone_m g b0 s1' (by omega) _ HR2.out).mono ?_
  rintro e w3 ⟨rfl, q, rfl⟩
  rw [HDD.out]
  have B3 := Lib.hid (below_drewN HB2.out q)
  rcases Decidable.em (d ≠ 0) with hd0 | hd0
  ·have hr := HDO.out
   rw [if_pos hd0] at hr
   have HRR := Lib.hid hr
   have hq1 : (d != 0) = true := by simpa using hd0
   have hq2 : (d == 0) = false := by simpa using hd0
   clear hr HDO
   go_wp2_with fail
   refine (rdone_m g b0 s1' (by omega) _ (ref_drewN' HR2.out q)).mono ?_
   rintro e w3 ⟨rfl, q2, rfl⟩
   rw [HDD.out]
   go_wp2_with fail
   go_ret2
   exact dmEnd_none HRR.out (below_drewN HB2.out _)
  obtain rfl : d = 0 := by simpa using hd0
  have hr := HDO.out
  rw [if_neg (show ¬ ((0 : Int) ≠ 0) by simp)] at hr
  have HD1 := Lib.hid hr
  clear hd0 hr HDO
  rcases Decidable.em (2000 < n) with hn2 | hn2
  ·have hr := HD1.out
   rw [if_pos hn2] at hr
   have HRR := Lib.hid hr
   have hnn : (2000 : Int) < (n : Int) := by omega
   clear hr HD1
   go_wp2_with fail
   go_ret2
   exact dmEnd_none HRR.out B3.out
  have hr := HD1.out
  rw [if_neg hn2] at hr
  have hn3 : n ≤ 2000 := by omega
  have hnn : ¬ (2000 : Int) < (n : Int) := by omega
  have hwn : IntKind.i64.wrap (n : Int) = (n : Int) ∧ Go.RowKit.wrap64 (n : Int) = (n : Int) := ⟨IntWalk.i64_in _ (by omega), wrap64_in _ (by omega)⟩
  obtain ⟨hwn1, hwn2⟩ := hwn
  clear hn2 HD1 HS1 HDD HNV HR2 hnl
  obtain ⟨⟨a1, a2, x1⟩, e1⟩ : ∃ q, cutP b1 = q := ⟨_, rfl⟩
  obtain ⟨⟨cs, x2⟩, e2⟩ : ∃ q, decV a1 n = q := ⟨_, rfl⟩
  obtain ⟨⟨rs, x3⟩, e3⟩ : ∃ q, decU a2 n = q := ⟨_, rfl⟩
  obtain ⟨⟨a3, a4, x4⟩, e4⟩ : ∃ q, cutP b2 = q := ⟨_, rfl⟩
  obtain ⟨⟨ps, x5⟩, e5⟩ : ∃ q, decV a3 n = q := ⟨_, rfl⟩
  obtain ⟨⟨ks, x6⟩, e6⟩ : ∃ q, decV a4 n = q := ⟨_, rfl⟩
  obtain ⟨⟨ns, x7⟩, e7⟩ : ∃ q, Dt.decD b3 n 64 = q := ⟨_, rfl⟩
  obtain ⟨⟨us, x8⟩, e8⟩ : ∃ q, takeU b4 n = q := ⟨_, rfl⟩
  rw [decN_at e1 e2 e3 e4 e5 e6 e7 e8] at hr
  have c1 := cutP_len b1
  rw [e1] at c1
  have c2 := cutP_len b2
  rw [e4] at c2
  have t1 : a1.length ≤ 90000 := by have := c1.1; simp only at this; omega
  have t2 : a2.length ≤ 90000 := by have := c1.2; simp only at this; omega
  have t3 : a3.length ≤ 90000 := by have := c2.1; simp only at this; omega
  have t4 : a4.length ≤ 90000 := by have := c2.2; simp only at this; omega
  have R0 := Lib.hid hr
  have E1 := Lib.hid e1
  have E2 := Lib.hid e2
  have E3 := Lib.hid e3
  have E4 := Lib.hid e4
  have E5 := Lib.hid e5
  have E6 := Lib.hid e6
  have E7 := Lib.hid e7
  have E8 := Lib.hid e8
  clear hr e1 e2 e3 e4 e5 e6 e7 e8 c1 c2
  have hn0 : (-9223372036854775808 : Int) ≤ (n : Int) := by omega
  have hn9 : (n : Int) ≤ 9223372036854775807 := by omega
  obtain ⟨w3, hw3⟩ : ∃ w3, w3 = w2.drewN q := ⟨_, rfl⟩
  rw [← hw3] at B3 ⊢
  clear hw3
  have y := cell_below CE1.out B3.out hbA
  go_wp2_with fail
  refine (rcut_v (by omega) E1.out _).mono ?_
  rintro e w4 ⟨rfl, hb⟩
  have B4 := Lib.hid (B3.out.trans (hb.mono B3.out.size))
  clear hb y  B3
  rcases Decidable.em (x1 ≠ 0) with hx | hx
  ·have hr := R0.out
   rw [if_pos hx] at hr
   have HR := Lib.hid hr
   have hq1 : (x1 != 0) = true := by simpa using hx
   have hq2 : (x1 == 0) = false := by simpa using hx
   clear hr R0
   go_wp2_with fail
   go_ret2
   exact dmEnd_none HR.out B4.out
  obtain rfl : x1 = 0 := by simpa using hx
  have hr := R0.out
  rw [if_neg (show ¬ ((0 : Int) ≠ 0) by simp)] at hr
  have R1 := Lib.hid hr
  clear hr hx R0
  go_wp2_with fail
  refine (vrdec_k E2.out rfl hn0 hn9 (by omega) _).mono ?_
  rintro e w5 ⟨AC, cC, rfl, hat, hb⟩
  have B5 := Lib.hid (B4.out.trans (hb.mono B4.out.size))
  have HC5 := Lib.hid hat
  clear hb hat  B4
  rcases Decidable.em (x2 ≠ 0) with hx | hx
  ·have hr := R1.out
   rw [if_pos hx] at hr
   have HR := Lib.hid hr
   have hq1 : (x2 != 0) = true := by simpa using hx
   have hq2 : (x2 == 0) = false := by simpa using hx
   clear hr R1
   go_wp2_with fail
   go_ret2
   exact dmEnd_none HR.out B5.out
  obtain rfl : x2 = 0 := by simpa using hx
  have hr := R1.out
  rw [if_neg (show ¬ ((0 : Int) ≠ 0) by simp)] at hr
  have R2 := Lib.hid hr
  clear hr hx R1
  go_wp2_with fail
  refine (urdec_k E3.out rfl hn0 hn9 (by omega) _).mono ?_
  rintro e w6 ⟨AR, cR, rfl, hat, hb⟩
  have B6 := Lib.hid (B5.out.trans (hb.mono B5.out.size))
  have HC6 := Lib.hid (HC5.out.keep hb)
  have HR6 := Lib.hid hat
  clear hb hat HC5 B5
  rcases Decidable.em (x3 ≠ 0) with hx | hx
  ·have hr := R2.out
   rw [if_pos hx] at hr
   have HR := Lib.hid hr
   have hq1 : (x3 != 0) = true := by simpa using hx
   have hq2 : (x3 == 0) = false := by simpa using hx
   clear hr R2
   go_wp2_with fail
   go_ret2
   exact dmEnd_none HR.out B6.out
  obtain rfl : x3 = 0 := by simpa using hx
  have hr := R2.out
  rw [if_neg (show ¬ ((0 : Int) ≠ 0) by simp)] at hr
  have R3 := Lib.hid hr
  clear hr hx R2
  have y := cell_below CE2.out B6.out hbA
  go_wp2_with fail
  refine (rcut_v (by omega) E4.out _).mono ?_
  rintro e w7 ⟨rfl, hb⟩
  have B7 := Lib.hid (B6.out.trans (hb.mono B6.out.size))
  have HC7 := Lib.hid (HC6.out.keep hb)
  have HR7 := Lib.hid (HR6.out.keep hb)
  clear hb y HC6 HR6 B6
  rcases Decidable.em (x4 ≠ 0) with hx | hx
  ·have hr := R3.out
   rw [if_pos hx] at hr
   have HR := Lib.hid hr
   have hq1 : (x4 != 0) = true := by simpa using hx
   have hq2 : (x4 == 0) = false := by simpa using hx
   clear hr R3
   go_wp2_with fail
   go_ret2
   exact dmEnd_none HR.out B7.out
  obtain rfl : x4 = 0 := by simpa using hx
  have hr := R3.out
  rw [if_neg (show ¬ ((0 : Int) ≠ 0) by simp)] at hr
  have R4 := Lib.hid hr
  clear hr hx R3
  go_wp2_with fail
  refine (vrdec_k E5.out rfl hn0 hn9 (by omega) _).mono ?_
  rintro e w8 ⟨AP, cP, rfl, hat, hb⟩
  have B8 := Lib.hid (B7.out.trans (hb.mono B7.out.size))
  have HC8 := Lib.hid (HC7.out.keep hb)
  have HR8 := Lib.hid (HR7.out.keep hb)
  have HP8 := Lib.hid hat
  clear hb hat HC7 HR7 B7
  rcases Decidable.em (x5 ≠ 0) with hx | hx
  ·have hr := R4.out
   rw [if_pos hx] at hr
   have HR := Lib.hid hr
   have hq1 : (x5 != 0) = true := by simpa using hx
   have hq2 : (x5 == 0) = false := by simpa using hx
   clear hr R4
   go_wp2_with fail
   go_ret2
   exact dmEnd_none HR.out B8.out
  obtain rfl : x5 = 0 := by simpa using hx
  have hr := R4.out
  rw [if_neg (show ¬ ((0 : Int) ≠ 0) by simp)] at hr
  have R5 := Lib.hid hr
  clear hr hx R4
  go_wp2_with fail
  refine (vrdec_k E6.out rfl hn0 hn9 (by omega) _).mono ?_
  rintro e w9 ⟨AK, cK, rfl, hat, hb⟩
  have B9 := Lib.hid (B8.out.trans (hb.mono B8.out.size))
  have HC9 := Lib.hid (HC8.out.keep hb)
  have HR9 := Lib.hid (HR8.out.keep hb)
  have HP9 := Lib.hid (HP8.out.keep hb)
  have HK9 := Lib.hid hat
  clear hb hat HC8 HR8 HP8 B8
  rcases Decidable.em (x6 ≠ 0) with hx | hx
  ·have hr := R5.out
   rw [if_pos hx] at hr
   have HR := Lib.hid hr
   have hq1 : (x6 != 0) = true := by simpa using hx
   have hq2 : (x6 == 0) = false := by simpa using hx
   clear hr R5
   go_wp2_with fail
   go_ret2
   exact dmEnd_none HR.out B9.out
  obtain rfl : x6 = 0 := by simpa using hx
  have hr := R5.out
  rw [if_neg (show ¬ ((0 : Int) ≠ 0) by simp)] at hr
  have R6 := Lib.hid hr
  clear hr hx R5
  have y := cell_below CE3.out B9.out hbA
  go_wp2_with fail
  refine (srdec_k E7.out rfl hn0 hn9 (by omega) (by omega) _).mono ?_
  rintro e w10 ⟨AN, cN, rfl, hat, hb⟩
  have B10 := Lib.hid (B9.out.trans (hb.mono B9.out.size))
  have HC10 := Lib.hid (HC9.out.keep hb)
  have HR10 := Lib.hid (HR9.out.keep hb)
  have HP10 := Lib.hid (HP9.out.keep hb)
  have HK10 := Lib.hid (HK9.out.keep hb)
  have HN10 := Lib.hid hat
  clear hb hat y HC9 HR9 HP9 HK9 B9
  rcases Decidable.em (x7 ≠ 0) with hx | hx
  ·have hr := R6.out
   rw [if_pos hx] at hr
   have HR := Lib.hid hr
   have hq1 : (x7 != 0) = true := by simpa using hx
   have hq2 : (x7 == 0) = false := by simpa using hx
   clear hr R6
   go_wp2_with fail
   go_ret2
   exact dmEnd_none HR.out B10.out
  obtain rfl : x7 = 0 := by simpa using hx
  have hr := R6.out
  rw [if_neg (show ¬ ((0 : Int) ≠ 0) by simp)] at hr
  have R7 := Lib.hid hr
  clear hr hx R6
  have y := cell_below CE4.out B10.out hbA
  go_wp2_with fail
  refine (rtranks_k E8.out (by omega) hn0 hn9 _).mono ?_
  rintro e w11 ⟨AF, cF, ys, rfl, hcb, hwy, hat, hb⟩
  have B11 := Lib.hid (B10.out.trans (hb.mono B10.out.size))
  have HC11 := Lib.hid (HC10.out.keep hb)
  have HR11 := Lib.hid (HR10.out.keep hb)
  have HP11 := Lib.hid (HP10.out.keep hb)
  have HK11 := Lib.hid (HK10.out.keep hb)
  have HN11 := Lib.hid (HN10.out.keep hb)
  have HF11 := Lib.hid hat
  have HCB := Lib.hid hcb
  have HWY := Lib.hid hwy
  clear hb hat y hcb hwy HC10 HR10 HP10 HK10 HN10 B10
  rcases Decidable.em (x8 ≠ 0) with hx | hx
  ·have hr := R7.out
   rw [if_pos hx] at hr
   have HR := Lib.hid hr
   have hq1 : (x8 != 0) = true := by simpa using hx
   have hq2 : (x8 == 0) = false := by simpa using hx
   clear hr R7
   go_wp2_with fail
   go_ret2
   exact dmEnd_none HR.out B11.out
  obtain rfl : x8 = 0 := by simpa using hx
  have hr := R7.out
  rw [if_neg (show ¬ ((0 : Int) ≠ 0) by simp)] at hr
  have R8 := Lib.hid hr
  clear hr hx R7
  obtain ⟨l1, l2, l3, l4, l5, l6, hrs⟩ := dec_lens E2.out E3.out E5.out E6.out E7.out E8.out
  have hnm := decD_names E7.out
  have l7 : ys.length = n := by rw [← l6, ← HCB.out, cbs_len]
  obtain ⟨zs, hzs⟩ : ∃ zs, zipY cs rs ps ks ns ys = zs := ⟨_, rfl⟩
  have hzl := zipY_len n l1 l2 l3 l4 l5 l7
  have hsim := zipY_sim cs rs ps ks ns ys HWY.out
  have hznm := zipY_nm cs rs ps ks ns ys hnm
  rw [hzs] at hzl hsim hznm
  rw [HCB.out] at hsim
  have HMX := Lib.hid (show zs.length ≤ maxLen by unfold maxLen; omega)
  have HNX := Lib.hid (show ∀ m ∈ zs, (nm (mw m)).length ≤ maxLen from fun m hm => by have := hznm m hm; unfold maxLen; omega)
  have HZS := Lib.hid hzs
  have HSIM := Lib.hid hsim
  have HNM := Lib.hid hznm
  have HRS := Lib.hid hrs
  clear hzs hsim hznm hrs hnm E1 E2 E3 E4 E5 E6 E7 E8 CE0 CE1 CE2 CE3 CE4
  go_wp2_with fail
  go_loopw [17, 18] (fun o i wr => ∃ k : Nat, i = .int .i64 (k : Int) ∧ k ≤ n ∧ (∀ m ∈ zs.take k, oneM m = true) ∧ wr.ownsRow w11.heap.size 51 6 o k (mvs (zs.take k)) ∧ Below w11.heap.size w11 wr) (fun _ i _ => n - (Go.RowKit.intOf i).toNat)
  case atStart => exact ⟨0, rfl, Nat.zero_le _, by simp, World.ownsRow_nil _ _ _ _, Below.refl _ _⟩
  case round =>
   obtain ⟨k, rfl, hk, hone, hown, hb⟩ := hrel
   obtain ⟨Av, cv, rfl, -⟩ := own_shape hown
   have HO := Lib.hid hown
   have HB := Lib.hid hb
   have HONE := Lib.hid hone
   clear hone hown hb
   by_cases hlt : k < n
   ·have hki : (0 : Int) ≤ (k : Int) := by omega
    have hkn : (k : Int) < (n : Int) := by omega
    obtain ⟨c, hc⟩ := some_at (show k < cs.length by omega)
    obtain ⟨r, hr⟩ := some_at (show k < rs.length by omega)
    obtain ⟨p, hp⟩ := some_at (show k < ps.length by omega)
    obtain ⟨kk, hkk⟩ := some_at (show k < ks.length by omega)
    obtain ⟨x, hx⟩ := some_at (show k < ns.length by omega)
    obtain ⟨y, hy⟩ := some_at (show k < ys.length by omega)
    have hm := zipY_at hc hr hp hkk hx hy
    rw [HZS.out] at hm
    obtain ⟨w1i, w2i⟩ := u2i (HRS.out r (mem_at hr))
    obtain ⟨bC, oC, rfl, hbC, y1⟩ := (HC11.out.keep HB.out) k _ (ival hc)
    obtain ⟨bR, oR, rfl, hbR, y2⟩ := (HR11.out.keep HB.out) k _ (uval hr)
    obtain ⟨bP, oP, rfl, hbP, y3⟩ := (HP11.out.keep HB.out) k _ (ival hp)
    obtain ⟨bK, oK, rfl, hbK, y4⟩ := (HK11.out.keep HB.out) k _ (ival hkk)
    obtain ⟨bN, oN, rfl, hbN, y5⟩ := (HN11.out.keep HB.out) k _ (sval hx)
    obtain ⟨bF, oF, rfl, hbF, y6⟩ := (HF11.out.keep HB.out) k _ (fval hy)
    have HM := Lib.hid hm
    clear hc hr hp hkk hx hy hm
    have hbr : Below wr.heap.size wr wr := Below.refl _ _
    go_wp2_with fail
    go_region_held3 (fun w' => w'.cell? ⟨bC, oC + k, none⟩ = some (.int .i64 c) ∧ w'.cell? ⟨bR, oR + k, none⟩ = some (.int .u64 (r : Int)) ∧ w'.cell? ⟨bP, oP + k, none⟩ = some (.int .i64 p) ∧ w'.cell? ⟨bK, oK + k, none⟩ = some (.int .i64 kk) ∧ w'.cell? ⟨bN, oN + k, none⟩ = some (.string (ba x)) ∧ w'.cell? ⟨bF, oF + k, none⟩ = some (.float .f64 y) ∧ Below wr.heap.size wr w')
     (first
      | (with_reducible assumption)
      | (with_reducible exact six_go hbC hbR hbP hbK hbN hbF ⟨y1, y2, y3, y4, y5, y6, hbr⟩ (Below.refl _ _).drew)
      | (with_reducible exact six_go hbC hbR hbP hbK hbN hbF ⟨y1, y2, y3, y4, y5, y6, hbr⟩ ((Below.refl _ _).alloc (Nat.le_refl _) _))
      | (with_reducible exact six_go hbC hbR hbP hbK hbN hbF ⟨y1, y2, y3, y4, y5, y6, hbr⟩ ((Below.refl _ _).alloc (Nat.le_refl _) _).drew)
      | (with_reducible exact six_alloc hbC hbR hbP hbK hbN hbF (by assumption) _)
      | (with_reducible exact six_go hbC hbR hbP hbK hbN hbF (six_alloc hbC hbR hbP hbK hbN hbF (by assumption) _) (Below.refl _ _).drew)
      | (with_reducible exact six_go hbC hbR hbP hbK hbN hbF (by assumption) (Below.refl _ _).drew)
      | go_keep)
     (first | fail)
    obtain ⟨G, hG⟩ : ∃ G, wr.heap.size = G := ⟨_, rfl⟩
    obtain ⟨W7, hW7⟩ : ∃ W7, W7 = (wr.alloc (.cells #[.int .i64 c, .int .i64 (i64 r), .int .i64 p, .int .i64 kk, .string (ba x), .float .f64 y] 51)).drew := ⟨_, rfl⟩
    have b7 : Below wr.heap.size wr W7 := by rw [hW7]; exact ((Below.refl _ _).alloc (Nat.le_refl _) _).drew
    have i7 : Is W7 G 51 [.int .i64 c, .int .i64 (i64 r), .int .i64 p, .int .i64 kk, .string (ba x), .float .f64 y] := by rw [hW7, ← hG]; exact is_new wr 51 [.int .i64 c, .int .i64 (i64 r), .int .i64 p, .int .i64 kk, .string (ba x), .float .f64 y]
    have ho7 : W7.ownsRow w11.heap.size 51 6 (.slice Av k cv) k (mvs (zs.take k)) := by rw [hW7]; exact HO.out.alloc _
    rw [← hW7, hG]
    have HO7 := Lib.hid ho7
    have HB7 := Lib.hid (HB.out.trans (b7.mono HB.out.size))
    have I7 := Lib.hid i7
    have g0 := is_cell i7 0
    have g1 := is_cell i7 1
    have g2 := is_cell i7 2
    have g3 := is_cell i7 3
    have g4 := is_cell i7 4
    have g5 := is_cell i7 5
    simp only [List.getElem?_cons_zero, List.getElem?_cons_succ] at g0 g1 g2 g3 g4 g5
    have hmm := mem_at HM.out
    have hcall : ∀ W, Calls Tryz.prog 75 #[.agg #[.int .i64 c, .int .i64 (i64 r), .int .i64 p, .int .i64 kk, .string (ba x), .float .f64 y]] W fun e w' => e = .returned (.bool (oneM (c, i64 r, kk, p, x, y))) ∧ Below W.heap.size W w' := fun W => rmone_d (c, i64 r, kk, p, x, y) (HNX.out _ hmm) W
    obtain ⟨b, ho⟩ : ∃ b, oneM (c, i64 r, kk, p, x, y) = b := ⟨_, rfl⟩
    rw [ho] at hcall
    have HCA := Lib.hid (hcall W7)
    have HO2 := Lib.hid ho
    have HMM := Lib.hid hmm
    clear hcall ho hmm b7 i7 ho7 hW7 hG y1 y2 y3 y4 y5 y6 hbr hbC hbR hbP hbK hbN hbF w1i w2i
    go_wp2_with fail
    refine HCA.out.mono ?_
    rintro e w9 ⟨rfl, hb9⟩
    have ho9 := below_ownI HO7.out hb9
    have i9 := is_below I7.out hb9 (is_lt I7.out)
    have HB9 := Lib.hid (HB7.out.trans (hb9.mono HB7.out.size))
    have HO9 := Lib.hid ho9
    have I9 := Lib.hid i9
    clear hb9 ho9 i9 g0 g1 g2 g3 g4 g5
    cases b with
    | false =>
     have hall : zs.all oneM = false := by
      cases hq : zs.all oneM with
      | false => rfl
      | true => exact absurd (List.all_eq_true.1 hq _ HMM.out) (by rw [HO2.out]; simp)
     rw [sim_all HSIM.out] at hall
     have hend := R8.out
     unfold endO at hend
     rw [if_pos hall] at hend
     have HEND := Lib.hid hend
     clear hall hend
     go_wp2_with fail
     go_ret2
     exact dmEnd_none HEND.out (B11.out.trans (HB9.out.mono B11.out.size))
    | true =>
     have g0 := is_cell I9.out 0
     have g1 := is_cell I9.out 1
     have g2 := is_cell I9.out 2
     have g3 := is_cell I9.out 3
     have g4 := is_cell I9.out 4
     have g5 := is_cell I9.out 5
     simp only [List.getElem?_cons_zero, List.getElem?_cons_succ] at g0 g1 g2 g3 g4 g5
     have hab := at_boxD w9 (c, i64 r, kk, p, x, y)
     have HAB := Lib.hid hab
     have hkk : k ≤ 2000 := by omega
     clear hab
     go_wp2_with (at_builtin; refine append_optM _ rfl _ _ rfl w11.heap.size _ _ _ rfl (HO9.out.alloc _) (some ⟨w9.heap.size, 0, none⟩) 1 [(c, i64 r, kk, p, x, y)] rfl (fun h => by cases h) (by simp) (w9.heap.size + 1) HAB.out (by simp; omega) (by have := HB9.out.size; simp; omega) ?_; intro v2 wA hown2 hgrow)
     have hbA2 : Below w11.heap.size w11 wA := below_own (HB9.out.alloc HB9.out.size _) (by have := HB9.out.size; simp; omega) (HO9.out.alloc _) hgrow
     have hoA : wA.ownsRow w11.heap.size 51 6 v2 (k + 1) (mvs (zs.take (k + 1))) := by
      rw [List.take_add_one, HM.out]
      exact hown2
     have HOA := Lib.hid hoA
     have HBA := Lib.hid hbA2
     clear hown2 hgrow hbA2 hoA g0 g1 g2 g3 g4 g5
     go_wp2_with fail
     go_roundw
     case rel =>
      refine ⟨k + 1, by go_num, by omega, fun m hm => ?_, HOA.out, HBA.out⟩
      rw [List.take_add_one, HM.out] at hm
      simp only [Option.toList_some] at hm
      rcases List.mem_append.1 hm with hm | hm
      ·exact HONE.out m hm
      ·rw [List.mem_singleton.1 hm]; exact HO2.out
     case measure => simp only [Go.RowKit.intOf]; omega
   ·obtain rfl : k = n := by omega
    have hall : zs.all oneM = true := List.all_eq_true.2 fun m hm => HONE.out m (by rw [← hzl, List.take_length]; exact hm)
    have hown := HO.out
    rw [show zs.take k = zs by rw [← hzl, List.take_length]] at hown
    obtain ⟨A9, c9, e9, hat, -, -⟩ := own_at hown
    cases e9
    have hcall := rmmay_c Av cv zs HMX.out HNX.out wr hat
    rw [hzl] at hcall
    have hend := R8.out
    unfold endO at hend
    rw [← sim_all HSIM.out, hall, if_neg (by simp), ← sim_may HSIM.out] at hend
    obtain ⟨b, ho⟩ : ∃ b, mayM zs = b := ⟨_, rfl⟩
    rw [ho] at hcall hend
    have HCA := Lib.hid hcall
    have HEND := Lib.hid hend
    have HAT := Lib.hid hat
    clear hall hown hat hcall hend ho
    go_wp2_with fail
    refine HCA.out.mono ?_
    rintro e w9 ⟨rfl, hb9⟩
    have hb := (B11.out.trans (HB.out.mono B11.out.size)).trans (hb9.mono (B11.out.trans (HB.out.mono B11.out.size)).size)
    have ha9 := HAT.out.keep hb9
    cases b with
    | false =>
     have hend := HEND.out
     rw [if_pos rfl] at hend
     have HE2 := Lib.hid hend
     clear hend
     go_wp2_with fail
     go_ret2
     exact dmEnd_none HE2.out hb
    | true =>
     have hend := HEND.out
     rw [if_neg (by simp)] at hend
     have HE2 := Lib.hid hend
     clear hend
     go_wp2_with fail
     go_ret2
     refine ⟨hb, _, cv, zs, ?_, ?_, ha9⟩
     ·rw [hzl, HE2.out]; rfl
     ·rw [HE2.out]; exact HSIM.out
end Go.Proofs.YtojhenpaeedimaaGreat
