/-
 The contract of bits.times: a number times a power of two, where the format holds what comes of it and what lies between.
 Contracts of bits.size and bits.Float: the word of e and m, and of any 64 bits.
 Contracts of bits.part, bits.Kind, bits.Minus, bits.Canon.
-/
import Derived.Test.YtojhenpaeedimaaGreatNb
import Derived.Deep.QuietTactic
import Derived.BigQuiet
section
namespace Go.Proofs.YtojhenpaeedimaaGreat
open Go.RowKit
open Fl
set_option maxRecDepth 100000
theorem index_row (k : Nat) (hk : k < 10) (w : World) : (Instr.index 217 powRows (.int .i64 (k : Int))).run Tryz.prog w = .ok (.agg #[.int .i64 (pw k), .float .f64 (pUp k), .float .f64 (pDn k)]) w := by
 have h : k = 0 ∨ k = 1 ∨ k = 2 ∨ k = 3 ∨ k = 4 ∨ k = 5 ∨ k = 6 ∨ k = 7 ∨ k = 8 ∨ k = 9 := by omega
 rcases h with rfl | rfl | rfl | rfl | rfl | rfl | rfl | rfl | rfl | rfl
 all_goals (refine Eq.trans (b := .ok _ w) ?_ rfl; kernel_rfl)
/-- block B holds row k -/
def HasRow (B k : Nat) (w : World) : Prop := w.cell? ⟨B, 0, none⟩ = some (.int .i64 (pw k)) ∧ w.cell? ⟨B, 1, none⟩ = some (.float .f64 (pUp k)) ∧ w.cell? ⟨B, 2, none⟩ = some (.float .f64 (pDn k))
theorem hasRow_drewN {B k : Nat} {w : World} (h : HasRow B k w) (n : Nat) : HasRow B k (w.drewN n) := h
theorem hasRow_new (w : World) (k : Nat) : HasRow w.heap.size k (w.alloc (.cells #[.int .i64 (pw k), .float .f64 (pUp k), .float .f64 (pDn k)] 216)) :=
 ⟨by rw [World.cell?_alloc_at _ _ _ _ rfl]; rfl, by rw [World.cell?_alloc_at _ _ _ _ rfl]; rfl, by rw [World.cell?_alloc_at _ _ _ _ rfl]; rfl⟩
set_option maxHeartbeats 1000000 in
theorem times_c (m t t' : Nat) (x : Int) (hm : m < 9007199254740992) (ht : t ≤ 2045) (ht' : t' ≤ 2045) (hx1 : (t : Int) + x ≤ t') (hx2 : (t' : Int) ≤ t + x) (w : World) :
  Calls Tryz.prog 168 #[.float .f64 (en m t), .int .i64 x] w fun e w' => e = .returned (.float .f64 (en m t')) ∧ Below w.heap.size w w' := by
 go_enter Tryz.func168, Tryz.ntmps168
 go_wp2_with fail
 refine (powers_c _).mono ?_
 rintro e w1 ⟨rfl, hb1⟩
 go_wp2_with fail
 go_loopw [0, 1, 8] (fun f x i wr => ∃ (k s : Nat) (y : Int), k ≤ 10 ∧ i = .int .i64 k ∧ f = .float .f64 (en m s) ∧ x = .int .i64 y ∧ s ≤ 2045 ∧ (s : Int) + y ≤ t' ∧ (t' : Int) ≤ s + y ∧ -(bd k) < y ∧ y < bd k ∧ Below w.heap.size w wr)
  (fun _ _ i _ => 10 - (Go.RowKit.intOf i).toNat)
 case atStart => exact ⟨0, t, x, by omega, rfl, rfl, rfl, ht, hx1, hx2, by rw [bd_zero]; omega, by rw [bd_zero]; omega, hb1⟩
 case round =>
  obtain ⟨k, s, y, hk, rfl, rfl, rfl, hs, hy1, hy2, hb3, hb4, hb⟩ := hrel
  obtain ⟨wo, rfl⟩ : ∃ wo : World, wo = wr := ⟨_, rfl⟩
  by_cases hlt : k < 10
  ·have hp := pw_bd k
   have hidx := index_row k hlt
   go_wp2_with fail
   clear hidx
   go_loopw [0, 1] (fun f x wi => ∃ (s1 : Nat) (y1 : Int), f = .float .f64 (en m s1) ∧ x = .int .i64 y1 ∧ s1 ≤ 2045 ∧ (s1 : Int) + y1 ≤ t' ∧ (t' : Int) ≤ s1 + y1 ∧ -(bd k) < y1 ∧ HasRow wo.heap.size k wi ∧ Below w.heap.size w wi)
    (fun _ x _ => (Go.RowKit.intOf x).toNat)
   case atStart => exact ⟨s, y, rfl, rfl, hs, hy1, hy2, hb3, hasRow_new _ _, hb.alloc hb.size _⟩
   case round =>
    obtain ⟨s1, y1, rfl, rfl, hs1, hz1, hz2, hz3, hrow, hbi⟩ := hrel
    obtain ⟨c0, c1, c2⟩ := id hrow
    by_cases hge : pw k ≤ y1
    ·have hmul := fun wx => run_float_arith (P := Tryz.prog) wx .mul 49 .f64 _ _ _ (mul_up m s1 k hm (by omega))
     go_wp2_with fail
     go_quiet (fail)
     go_wp2
     go_roundw
     case rel => exact ⟨s1 + (pw k).toNat, y1 - pw k, rfl, rfl, by omega, by omega, by omega, by omega, hasRow_drewN hrow _, below_drewN hbi _⟩
     case measure => simp only [Go.RowKit.intOf]; omega
    ·clear hs hy1 hy2 hb3 hb4
     go_wp2_with fail
     clear c0 c1 c2
     go_loopw [0, 1] (fun f x wi => ∃ (s2 : Nat) (y2 : Int), f = .float .f64 (en m s2) ∧ x = .int .i64 y2 ∧ s2 ≤ 2045 ∧ (s2 : Int) + y2 ≤ t' ∧ (t' : Int) ≤ s2 + y2 ∧ y2 < pw k ∧ HasRow wo.heap.size k wi ∧ Below w.heap.size w wi)
      (fun _ x _ => (-(Go.RowKit.intOf x)).toNat)
     case atStart => exact ⟨s1, y1, rfl, rfl, hs1, hz1, hz2, by omega, hrow, hbi⟩
     case round =>
      clear hs1 hz1 hz2 hz3 hge hrow hbi
      obtain ⟨s2, y2, rfl, rfl, hs2, hz1, hz2, hz3, hrow, hbi⟩ := hrel
      obtain ⟨c0, c1, c2⟩ := id hrow
      by_cases hle : y2 ≤ -(pw k)
      ·have hmul := fun wx => run_float_arith (P := Tryz.prog) wx .mul 49 .f64 _ _ _ (mul_dn m s2 k hm hs2 (by omega))
       go_wp2_with fail
       go_quiet (fail)
       go_wp2
       go_roundw
       case rel => exact ⟨s2 - (pw k).toNat, y2 + pw k, rfl, rfl, by omega, by omega, by omega, by omega, hasRow_drewN hrow _, below_drewN hbi _⟩
       case measure => simp only [Go.RowKit.intOf]; omega
      ·go_wp2
       go_roundw
       case rel => exact ⟨k + 1, s2, y2, by omega, by go_num, rfl, rfl, hs2, hz1, hz2, by rw [bd_succ]; omega, by rw [bd_succ]; omega, hbi⟩
       case measure => simp only [Go.RowKit.intOf]; omega
  ·obtain rfl : k = 10 := by omega
   rw [bd_ten] at hb3 hb4
   obtain rfl : s = t' := by omega
   go_wp2
   go_ret
   exact ⟨rfl, hb⟩
end Go.Proofs.YtojhenpaeedimaaGreat
end
section
namespace Go.Proofs.YtojhenpaeedimaaGreat
open Go.RowKit
open Fl
set_option maxRecDepth 100000
/-- the word that size makes -/
def szw (e m : Nat) : Nat := if e = 2047 then (if m = 0 then 9218868437227405312 else 9221120237041090561) else e * 4503599627370496 + m
theorem ofNat_en (m : Nat) (hm : m < 9007199254740992) : floatOfInt .f64 (m : Int) = en m B := ofNat_eq m hm
theorem size_c (e m : Nat) (he : e ≤ 2047) (hm : m < 4503599627370496) (w : World) :
  Calls Tryz.prog 215 #[.int .i64 (e : Int), .int .u64 (m : Int)] w fun e' w' => e' = .returned (.float .f64 (szw e m)) ∧ Below w.heap.size w w' := by
 by_cases h1 : e = 2047
 ·subst h1
  by_cases h2 : m = 0
  ·subst h2
   go_enter Tryz.func215, Tryz.ntmps215
   go_wp2_with fail
   refine (inf_c _).mono ?_
   rintro e w' ⟨rfl, rfl⟩
   go_wp2
   go_ret
   exact ⟨rfl, Below.refl _ _⟩
  ·have h3 : ((m : Int) != 0) = true := by rw [bne_iff_ne]; omega
   have h4 : szw 2047 m = 9221120237041090561 := by simp [szw, h2]
   have h5 : ((m : Int) == 0) = false := by rw [beq_eq_false_iff_ne]; omega
   go_enter Tryz.func215, Tryz.ntmps215
   go_wp2_with fail
   refine (nan_c _).mono ?_
   rintro e w' ⟨rfl, rfl⟩
   go_wp2
   go_ret
   exact ⟨congrArg (fun n => Ending.returned (.float .f64 n)) h4.symm, Below.refl _ _⟩
 ·have h3 : ((e : Int) == 2047) = false := by rw [beq_eq_false_iff_ne]; omega
  by_cases h0 : e = 0
  ·subst h0
   have h4 := ofNat_en m (by omega)
   have h5 : szw 0 m = en m 0 := by
    have : en m 0 = m := enc_small m hm
    rw [this]; simp [szw]
   rw [h5]
   clear h5 h3
   go_enter Tryz.func215, Tryz.ntmps215
   go_wp2_with fail
   refine (times_c m B 0 _ (by omega) (by rw [B_eq]; omega) (by omega) (by rw [B_eq]; omega) (by rw [B_eq]; omega) _).mono ?_
   rintro e w' ⟨rfl, hb⟩
   go_wp2
   go_ret
   exact ⟨rfl, hb⟩
  ·have h5 : szw e m = en (4503599627370496 + m) (e - 1) := by
    have : en (4503599627370496 + m) (e - 1) = e * 4503599627370496 + m := enc_norm m e hm (by omega) (by omega)
    rw [this]; simp [szw, h1]
   rw [h5]
   have h6 := or_hidden m hm
   have hM : 4503599627370496 + m < 9007199254740992 := by omega
   generalize 4503599627370496 + m = M at *
   have h4 := ofNat_en M hM
   have h7 : ((e : Int) == 0) = false := by rw [beq_eq_false_iff_ne]; omega
   clear h5
   go_enter Tryz.func215, Tryz.ntmps215
   go_wp2_with fail
   refine (times_c M B (e - 1) _ (by omega) (by rw [B_eq]; omega) (by omega) (by rw [B_eq]; omega) (by rw [B_eq]; omega) _).mono ?_
   rintro e w' ⟨rfl, hb⟩
   go_wp2
   go_ret
   exact ⟨rfl, hb⟩
theorem ng_cases (u : Nat) : (ng u = true ∧ 9223372036854775808 ≤ u) ∨ (ng u = false ∧ u < 9223372036854775808) := by
 unfold ng
 by_cases h : 9223372036854775808 ≤ u
 ·exact .inl ⟨by simp [h], h⟩
 ·exact .inr ⟨by simp [h], by omega⟩
/-- what size makes of e and m, and the minus before it -/
theorem szw_fl (u : Nat) (hu : u < 18446744073709551616) :
  (ng u = false → fl u = szw (u / 4503599627370496 % 2048) (u % 4503599627370496)) ∧ (ng u = true → fl u = Op.negFloat .f64 (szw (u / 4503599627370496 % 2048) (u % 4503599627370496))) := by
 have hs : szw (u / 4503599627370496 % 2048) (u % 4503599627370496) < 9223372036854775808 := by
  unfold szw; split <;> (try split) <;> omega
 have hn := neg_eq false _ hs
 have e1 : wd false (szw (u / 4503599627370496 % 2048) (u % 4503599627370496)) = szw (u / 4503599627370496 % 2048) (u % 4503599627370496) := by simp [wd]
 rw [e1] at hn
 rw [hn]
 unfold fl nn wd
 rcases ng_cases u with ⟨h1, h2⟩ | ⟨h1, h2⟩
 ·refine ⟨fun h => absurd (h.symm.trans h1) (by simp), fun _ => ?_⟩
  rw [h1]
  simp only [Bool.not_false, if_true]
  unfold szw
  by_cases hq : 9218868437227405312 < u % 9223372036854775808
  ·rw [decide_eq_true hq, if_pos rfl, if_pos (by omega), if_neg (by omega)]
  ·rw [decide_eq_false hq, if_neg (by simp)]
   split
   ·rw [if_pos (by omega)]; omega
   ·omega
 ·refine ⟨fun _ => ?_, fun h => absurd (h.symm.trans h1) (by simp)⟩
  rw [h1]
  simp only [Bool.false_eq_true, if_false]
  unfold szw
  by_cases hq : 9218868437227405312 < u % 9223372036854775808
  ·rw [decide_eq_true hq, if_pos rfl, if_pos (by omega), if_neg (by omega)]
  ·rw [decide_eq_false hq, if_neg (by simp)]
   split
   ·rw [if_pos (by omega)]; omega
   ·omega
theorem float_c (u : Nat) (hu : u < 18446744073709551616) (w : World) :
  Calls Tryz.prog 191 #[.int .u64 (u : Int)] w fun e w' => e = .returned (.float .f64 (fl u)) ∧ Below w.heap.size w w' := by
 obtain ⟨hf0, hf1⟩ := szw_fl u hu
 have h1 := and_exp u hu
 have h2 := and_part u hu
 have h3 := and_top u hu
 have he : u / 4503599627370496 % 2048 ≤ 2047 := by omega
 have hm : u % 4503599627370496 < 4503599627370496 := by omega
 generalize u / 4503599627370496 % 2048 = x at *
 generalize u % 4503599627370496 = y at *
 rcases ng_cases u with ⟨h, _⟩ | ⟨h, _⟩
 ·rw [h] at h3
  have hz := hf1 h
  rw [hz]
  clear hf0 hf1 hz
  simp only [if_true] at h3
  go_enter Tryz.func191, Tryz.ntmps191
  go_wp2_with fail
  refine (size_c x y he hm _).mono ?_
  rintro e w' ⟨rfl, hb⟩
  go_wp2
  go_ret
  exact ⟨rfl, hb⟩
 ·rw [h] at h3
  have hz := hf0 h
  rw [hz]
  clear hf0 hf1 hz
  simp only [Bool.false_eq_true, if_false] at h3
  go_enter Tryz.func191, Tryz.ntmps191
  go_wp2_with fail
  refine (size_c x y he hm _).mono ?_
  rintro e w' ⟨rfl, hb⟩
  go_wp2
  go_ret
  exact ⟨rfl, hb⟩
end Go.Proofs.YtojhenpaeedimaaGreat
end
section
namespace Go.Proofs.YtojhenpaeedimaaGreat
open Go.RowKit
open Fl
set_option maxRecDepth 100000
set_option maxHeartbeats 1000000 in
theorem part_c (q m : Nat) (hq1 : 1 ≤ q) (hq2 : q ≤ 2046) (hm : m < 4503599627370496) (w : World) :
  Calls Tryz.prog 170 #[.float .f64 (nw q m)] w fun e w' => e = .returned (.tuple #[.float .f64 (nw 1023 m), .int .i64 ((q : Int) - 1023)]) ∧ Below w.heap.size w w' := by
 go_enter Tryz.func170, Tryz.ntmps170
 go_wp2_with fail
 refine (powers_c _).mono ?_
 rintro e w1 ⟨rfl, hb1⟩
 go_wp2_with fail
 go_loopw [0, 4, 8] (fun f x i wr => ∃ (k d : Nat) (y : Int), k ≤ 10 ∧ i = .int .i64 k ∧ f = .float .f64 (nw d m) ∧ x = .int .i64 y ∧ 1 ≤ d ∧ d ≤ 2046 ∧ (d : Int) + y ≤ q ∧ (q : Int) ≤ d + y ∧ 1023 - bd k < d ∧ (d : Int) < 1023 + bd k ∧ Below w.heap.size w wr)
  (fun _ _ i _ => 10 - (Go.RowKit.intOf i).toNat)
 case atStart => exact ⟨0, q, 0, by omega, rfl, rfl, rfl, hq1, hq2, by omega, by omega, by rw [bd_zero]; omega, by rw [bd_zero]; omega, hb1⟩
 case round =>
  obtain ⟨k, d, y, hk, rfl, rfl, rfl, hd1, hd2, hy1, hy2, hb3, hb4, hb⟩ := hrel
  by_cases hlt : k < 10
  ·have hp := pw_bd k
   have hpd := bd_dbl k hlt
   have hidx := index_row k hlt
   have hup : pUp k = nw (1023 + (pw k).toNat) 0 := by unfold pUp nw; omega
   have hge := s_ge (nw d m) (pUp k) (by unfold nw; omega) (by unfold pUp; omega)
   by_cases h1 : 1023 + pw k ≤ d
   ·have h2 : pUp k ≤ nw d m := by unfold pUp nw; omega
    rw [decide_eq_true h2] at hge
    have hmul := fun wx => run_float_arith (P := Tryz.prog) wx .mul 49 .f64 _ _ _ (mul_nw d (d - (pw k).toNat) (1023 - (pw k).toNat) m hm hd1 hd2 (by omega) (by omega) (by omega) (by omega) (by omega))
    have hdn : (1023 - (pw k).toNat) * 4503599627370496 = pDn k := rfl
    rw [hdn] at hmul
    clear hup hdn h2
    go_wp2_with fail
    go_quiet (fail)
    go_wp2
    go_roundw
    case rel => exact ⟨k + 1, d - (pw k).toNat, y + pw k, by omega, by go_num, rfl, rfl, by omega, by omega, by omega, by omega, by rw [bd_succ]; omega, by rw [bd_succ]; omega, below_drewN (hb.alloc hb.size _) _⟩
    case measure => simp only [Go.RowKit.intOf]; omega
   ·have h2 : ¬ pUp k ≤ nw d m := by unfold pUp nw; omega
    rw [decide_eq_false h2] at hge
    have hmul := fun wx => run_float_arith (P := Tryz.prog) wx .mul 49 .f64 _ _ _ (mul_nw d (d + (pw k).toNat) (1023 + (pw k).toNat) m hm hd1 hd2 (by omega) (by omega) (by omega) (by omega) (by omega))
    have hdn : (1023 + (pw k).toNat) * 4503599627370496 = pUp k := rfl
    rw [hdn] at hmul
    have htw := s_lt (nw (d + (pw k).toNat) m) 4611686018427387904 (by unfold nw; omega) (by omega)
    clear hup hdn h2
    by_cases h3 : (d : Int) + pw k ≤ 1023
    ·have h4 : nw (d + (pw k).toNat) m < 4611686018427387904 := by unfold nw; omega
     rw [decide_eq_true h4] at htw
     go_wp2_with fail
     go_quiet (fail)
     go_wp2
     go_roundw
     case rel => exact ⟨k + 1, d + (pw k).toNat, y - pw k, by omega, by go_num, rfl, rfl, by omega, by omega, by omega, by omega, by rw [bd_succ]; omega, by rw [bd_succ]; omega, below_drewN (hb.alloc hb.size _) _⟩
     case measure => simp only [Go.RowKit.intOf]; omega
    ·have h4 : ¬ nw (d + (pw k).toNat) m < 4611686018427387904 := by unfold nw; omega
     rw [decide_eq_false h4] at htw
     go_wp2
     go_roundw
     case rel => exact ⟨k + 1, d, y, by omega, by go_num, rfl, rfl, by omega, by omega, by omega, by omega, by rw [bd_succ]; omega, by rw [bd_succ]; omega, hb.alloc hb.size _⟩
     case measure => simp only [Go.RowKit.intOf]; omega
  ·obtain rfl : k = 10 := by omega
   rw [bd_ten] at hb3 hb4
   obtain rfl : d = 1023 := by omega
   obtain rfl : y = (q : Int) - 1023 := by omega
   go_wp2
   go_ret2
   exact ⟨rfl, hb⟩
theorem kind_c (x : Nat) (hx : x < 18446744073709551616) (w : World) :
  Calls Tryz.prog 167 #[.float .f64 x] w fun e w' => e = .returned (.int .i64 (kd x)) ∧ w = w' := by
 have hm := mg_lt x
 cases hn : nn x
 ·have hz := o_zero x hx hn
  have hle : mg x ≤ 9218868437227405312 := by rw [nn_mg] at hn; simpa using hn
  by_cases h1 : mg x = 9218868437227405312
  ·have hk : kd x = 3 := by simp [kd, hn, h1]
   rw [hk]
   clear hz
   go_enter Tryz.func167, Tryz.ntmps167
   go_wp2_with (first | (go_at_call 202; refine (isNaN_c x hx _).mono ?_; rintro e w' ⟨rfl, rfl⟩; rw [hn]) | (go_at_call 203; refine (isInf_c x hx _).mono ?_; rintro e w' ⟨rfl, rfl⟩; rw [decide_eq_true h1]))
   go_ret
   exact ⟨rfl, rfl⟩
  ·by_cases h0 : mg x = 0
   ·have hk : kd x = 0 := by simp [kd, hn, h0]
    rw [hk]
    rw [decide_eq_true h0] at hz
    go_enter Tryz.func167, Tryz.ntmps167
    go_wp2_with (first | (go_at_call 202; refine (isNaN_c x hx _).mono ?_; rintro e w' ⟨rfl, rfl⟩; rw [hn]) | (go_at_call 203; refine (isInf_c x hx _).mono ?_; rintro e w' ⟨rfl, rfl⟩; rw [decide_eq_false h1]))
    go_ret
    exact ⟨rfl, rfl⟩
   ·rw [decide_eq_false h0] at hz
    have ht := s_lt (mg x) 4503599627370496 hle (by omega)
    by_cases h2 : mg x < 4503599627370496
    ·have hk : kd x = 1 := by simp [kd, hn, h0, h1, h2]
     rw [hk]
     rw [decide_eq_true h2] at ht
     go_enter Tryz.func167, Tryz.ntmps167
     go_wp2_with (first | (go_at_call 202; refine (isNaN_c x hx _).mono ?_; rintro e w' ⟨rfl, rfl⟩; rw [hn]) | (go_at_call 203; refine (isInf_c x hx _).mono ?_; rintro e w' ⟨rfl, rfl⟩; rw [decide_eq_false h1]) | (go_at_call 169; refine (abs_c x hx _).mono ?_; rintro e w' ⟨rfl, rfl⟩))
     go_ret
     exact ⟨rfl, rfl⟩
    ·have hk : kd x = 2 := by simp [kd, hn, h0, h1, h2]
     rw [hk]
     rw [decide_eq_false h2] at ht
     go_enter Tryz.func167, Tryz.ntmps167
     go_wp2_with (first | (go_at_call 202; refine (isNaN_c x hx _).mono ?_; rintro e w' ⟨rfl, rfl⟩; rw [hn]) | (go_at_call 203; refine (isInf_c x hx _).mono ?_; rintro e w' ⟨rfl, rfl⟩; rw [decide_eq_false h1]) | (go_at_call 169; refine (abs_c x hx _).mono ?_; rintro e w' ⟨rfl, rfl⟩))
     go_ret
     exact ⟨rfl, rfl⟩
 ·have hk : kd x = 4 := by simp [kd, hn]
  rw [hk]
  go_enter Tryz.func167, Tryz.ntmps167
  go_wp2_with (first | (go_at_call 202; refine (isNaN_c x hx _).mono ?_; rintro e w' ⟨rfl, rfl⟩; rw [hn]))
  go_ret
  exact ⟨rfl, rfl⟩
theorem minus_c (x : Nat) (hx : x < 18446744073709551616) (w : World) :
  Calls Tryz.prog 171 #[.float .f64 x] w fun e w' => e = .returned (.bool (!nn x && ng x)) ∧ w = w' := by
 cases hn : nn x
 ·go_enter Tryz.func171, Tryz.ntmps171
  go_wp2_with (first | (go_at_call 202; refine (isNaN_c x hx _).mono ?_; rintro e w' ⟨rfl, rfl⟩; rw [hn]) | (go_at_call 207; refine (signbit_c x hx _).mono ?_; rintro e w' ⟨rfl, rfl⟩))
  go_ret
  exact ⟨by simp, rfl⟩
 ·go_enter Tryz.func171, Tryz.ntmps171
  go_wp2_with (first | (go_at_call 202; refine (isNaN_c x hx _).mono ?_; rintro e w' ⟨rfl, rfl⟩; rw [hn]) | (go_at_call 207; refine (signbit_c x hx _).mono ?_; rintro e w' ⟨rfl, rfl⟩))
  go_ret
  exact ⟨rfl, rfl⟩
end Go.Proofs.YtojhenpaeedimaaGreat
end
