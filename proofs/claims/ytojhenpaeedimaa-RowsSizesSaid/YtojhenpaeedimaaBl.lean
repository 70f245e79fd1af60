/-
 Contracts of the document's Reader, whole: Num, Int, Take, Fix, Done.
 Worlds that only grow.
-/
import Derived.Test.YtojhenpaeedimaaBj
section
namespace Go.Proofs.Ytojhenpaeedimaa
open Go.RowKit
open Pk
set_option maxRecDepth 100000
/-- the document's Reader of s, in block g, that is as far as st -/
def Ref (w : World) (g : Nat) (s : List UInt8) (st : St) : Prop := ∃ k, k ≤ s.length ∧ s.drop k = st.l ∧ RefAt w g s k st.e
theorem ref_mk {w : World} {g : Nat} {s : List UInt8} {k : Nat} {l : List UInt8} {e : Int} (hk : k ≤ s.length) (hd : s.drop k = l) (h : RefAt w g s k e) : Ref w g s ⟨l, e⟩ := ⟨k, hk, hd, h⟩
theorem rnum_off (g : Nat) (s : List UInt8) (k : Nat) (e : Int) (he : e ≠ 0) (w : World) (h : RefAt w g s k e) :
  Calls Try.prog 34 #[.pointer (some ⟨g, 0, none⟩)] w fun e w' => e = .returned (.int .u64 0) ∧ w = w' := by
 have h2 := ref_e h
 have hd : (e == 0) = false := by simpa using he
 clear h he
 go_enter Try.func34, Try.ntmps34
 go_wp2
 refine wp_loop_rounds 1 ?_
 rw [rounds_succ]
 go_wp2
 go_ret
 exact ⟨rfl, rfl⟩
/-- a call that answers v and leaves the document's Reader as st -/
def RDone (w : World) (g : Nat) (s : List UInt8) (st : St) (v : Value) (e : Ending) (w' : World) : Prop := e = .returned v ∧ Ref w' g s st ∧ w.grownBy w' (some g)
theorem rDone_mk {w w' : World} {g : Nat} {s : List UInt8} {st st' : St} {v u : Value} {e : Ending} (h : e = .returned u) (hv : u = v) (hr : Ref w' g s st') (hs : st' = st) (ho : w.grownBy w' (some g)) : RDone w g s st v e w' := by
 subst hv; subst hs; exact ⟨h, hr, ho⟩
theorem rnum_all (g : Nat) (s : List UInt8) (st : St) (hl : s.length ≤ 140737488351232) (w : World) (h : Ref w g s st) :
  Calls Try.prog 34 #[.pointer (some ⟨g, 0, none⟩)] w fun e w' => RDone w g s (numS st) (.int .u64 (numV st : Int)) e w' := by
 obtain ⟨k, hk, hd, hr⟩ := h
 by_cases he : st.e = 0
 ·rw [he] at hr
  refine (rNum_end g s k hk hl w hr).mono fun e w' hq => ?_
  rw [hd] at hq
  cases hrd : rd st.l with
  | cut =>
   rw [hrd] at hq
   obtain ⟨h1, h2, h3⟩ := hq
   exact rDone_mk h1 (by rw [(num_cut he hrd).1]; rfl) (ref_mk hk hd h2) (num_cut he hrd).2.symm h3
  | long =>
   rw [hrd] at hq
   obtain ⟨h1, h2, h3⟩ := hq
   exact rDone_mk h1 (by rw [(num_long he hrd).1]; rfl) (ref_mk hk hd h2) (num_long he hrd).2.symm h3
  | ok n u =>
   rw [hrd] at hq
   obtain ⟨h1, h2, h3⟩ := hq
   have hu := (rd_inv hrd).2.2.1
   have hll := drop_at hd
   exact rDone_mk h1 (by rw [(num_ok he hrd).1]) (ref_mk (k := k + u) (by omega) (by rw [← hd, List.drop_drop]) h2) (num_ok he hrd).2.symm h3
 ·refine (rnum_off g s k st.e he w hr).mono fun e w' hq => ?_
  obtain ⟨h1, h2⟩ := hq
  subst h2
  exact rDone_mk h1 (by rw [(num_err he).1]; rfl) ⟨k, hk, hd, hr⟩ (num_err he).2.symm (World.grownBy.refl _ _)
theorem rnum_m (g : Nat) (s : List UInt8) (st : St) (hl : s.length ≤ 140737488351232) (w : World) (h : Ref w g s st) :
  Calls Try.prog 34 #[.pointer (some ⟨g, 0, none⟩)] w fun e w' => e = .returned (.int .u64 (numV st : Int)) ∧ Ref w' g s (numS st) ∧ w.grownBy w' (some g) :=
 (rnum_all g s st hl w h).mono fun _ _ hq => hq
theorem rtake_off (g : Nat) (n : Int) (s : List UInt8) (k : Nat) (e : Int) (he : e ≠ 0) (w : World) (h : RefAt w g s k e) :
  Calls Try.prog 60 #[.pointer (some ⟨g, 0, none⟩), .int .i64 n] w fun e w' => e = .returned (.string (ba [])) ∧ ∃ m, w' = w.drewN m := by
 have h2 := ref_e h
 have hd : (e == 0) = false := by simpa using he
 have hd2 : (e != 0) = true := by simpa using he
 clear h he
 go_enter Try.func60, Try.ntmps60
 go_wp2
 go_quiet (fail)
 go_wp2
 go_ret
 exact ⟨rfl, _, rfl⟩
theorem rtake_neg (g : Nat) (n : Int) (hn : n < 0) (s : List UInt8) (k : Nat) (w : World) (h : RefAt w g s k 0) :
  Calls Try.prog 60 #[.pointer (some ⟨g, 0, none⟩), .int .i64 n] w fun e w' => e = .returned (.string (ba [])) ∧ RefAt w' g s k 2 ∧ w.grownBy w' (some g) := by
 have h2 := ref_e h
 have hf2 := is_free h 2
 have HR := Lib.hid h
 clear h
 go_enter Try.func60, Try.ntmps60
 go_wp2
 go_quiet (fail)
 go_wp2
 go_ret
 exact ⟨rfl, ref_setE (ref_drewN HR.out _) 2, only_trans (only_drewN (World.grownBy.refl _ _) _) (only_set _ _ _ _)⟩
theorem rtake_far (g : Nat) (n : Int) (s : List UInt8) (k : Nat) (hk : k ≤ s.length) (hl : s.length ≤ 140737488351232) (hn : ((s.length - k : Nat) : Int) < n) (w : World) (h : RefAt w g s k 0) :
  Calls Try.prog 60 #[.pointer (some ⟨g, 0, none⟩), .int .i64 n] w fun e w' => e = .returned (.string (ba [])) ∧ RefAt w' g s k 2 ∧ w.grownBy w' (some g) := by
 have h0 := ref_s h
 have h1 := ref_at h
 have h2 := ref_e h
 have hf2 := is_free h 2
 have hs := ba_size s
 have hn1 : 0 ≤ n := by omega
 have hn2 : (s.length : Int) - (k : Int) < n := by omega
 have hsub : IntKind.i64.wrap ((s.length : Int) - (k : Int)) = (s.length : Int) - (k : Int) := IntWalk.i64_in _ (by omega)
 have HR := Lib.hid h
 clear h hn
 go_enter Try.func60, Try.ntmps60
 go_wp2
 go_quiet (fail)
 go_wp2
 go_ret
 exact ⟨rfl, ref_setE (ref_drewN HR.out _) 2, only_trans (only_drewN (World.grownBy.refl _ _) _) (only_set _ _ _ _)⟩
theorem rtake_in (g m : Nat) (s : List UInt8) (k : Nat) (hk : k + m ≤ s.length) (hl : s.length ≤ 140737488351232) (w : World) (h : RefAt w g s k 0) :
  Calls Try.prog 60 #[.pointer (some ⟨g, 0, none⟩), .int .i64 (m : Int)] w fun e w' => e = .returned (.string (ba ((s.drop k).take m))) ∧ RefAt w' g s (k + m) 0 ∧ w.grownBy w' (some g) := by
 have h0 := ref_s h
 have h1 := ref_at h
 have h2 := ref_e h
 have hf1 := is_free h 1
 have hs := ba_size s
 have hsub : IntKind.i64.wrap ((s.length : Int) - (k : Int)) = (s.length : Int) - (k : Int) := IntWalk.i64_in _ (by omega)
 have hn2 : ¬ (s.length : Int) - (k : Int) < (m : Int) := by omega
 have HR := Lib.hid h
 clear h
 go_enter Try.func60, Try.ntmps60
 go_wp2
 go_quiet (fail)
 go_wp2
 go_quiet (fail)
 go_wp2
 go_ret
 exact ⟨ret_str (by rw [extract_mid, List.drop_take, Nat.add_sub_cancel_left]), ref_drewN (ref_setAt (ref_drewN HR.out _) _ (k + m) (by omega)) _, only_drewN (only_trans (only_drewN (World.grownBy.refl _ _) _) (only_set _ _ _ _)) _⟩
theorem rtake_all (g : Nat) (n : Int) (s : List UInt8) (st : St) (hl : s.length ≤ 140737488351232) (w : World) (h : Ref w g s st) :
  Calls Try.prog 60 #[.pointer (some ⟨g, 0, none⟩), .int .i64 n] w fun e w' => RDone w g s (takeS n st) (.string (ba (takeV n st))) e w' := by
 obtain ⟨k, hk, hd, hr⟩ := h
 have hll := drop_at hd
 by_cases he : st.e = 0
 ·rw [he] at hr
  by_cases hn : n < 0
  ·refine (rtake_neg g n hn s k w hr).mono fun e w' hq => ?_
   obtain ⟨h1, h2, h3⟩ := hq
   exact rDone_mk h1 (by rw [(take_cut he (.inl hn)).1]) (ref_mk hk hd h2) (take_cut he (.inl hn)).2.symm h3
  ·by_cases hf : (st.l.length : Int) < n
   ·refine (rtake_far g n s k hk hl (by omega) w hr).mono fun e w' hq => ?_
    obtain ⟨h1, h2, h3⟩ := hq
    exact rDone_mk h1 (by rw [(take_cut he (.inr hf)).1]) (ref_mk hk hd h2) (take_cut he (.inr hf)).2.symm h3
   ·obtain ⟨m, rfl⟩ := Int.eq_ofNat_of_zero_le (show 0 ≤ n by omega)
    have hno : ¬((m : Int) < 0 ∨ (st.l.length : Int) < (m : Int)) := by omega
    refine (rtake_in g m s k (by omega) hl w hr).mono fun e w' hq => ?_
    obtain ⟨h1, h2, h3⟩ := hq
    exact rDone_mk h1 (by rw [(take_ok he hno).1, hd]; rfl) (ref_mk (k := k + m) (by omega) (by rw [← hd, List.drop_drop]; rfl) h2) (take_ok he hno).2.symm h3
 ·refine (rtake_off g n s k st.e he w hr).mono fun e w' hq => ?_
  obtain ⟨h1, m, h2⟩ := hq
  subst h2
  exact rDone_mk h1 (by rw [(take_err he).1]) ⟨k, hk, hd, ref_drewN hr _⟩ (take_err he).2.symm (only_drewN (World.grownBy.refl _ _) _)
theorem rtake_m (g : Nat) (n : Int) (s : List UInt8) (st : St) (hl : s.length ≤ 140737488351232) (w : World) (h : Ref w g s st) :
  Calls Try.prog 60 #[.pointer (some ⟨g, 0, none⟩), .int .i64 n] w fun e w' => e = .returned (.string (ba (takeV n st))) ∧ Ref w' g s (takeS n st) ∧ w.grownBy w' (some g) :=
 (rtake_all g n s st hl w h).mono fun _ _ hq => hq
/-- what Fix answers, and what it takes -/
theorem fix_take (st : St) : fixS st = takeS 8 st ∧ fixV st = num8 (takeV 8 st) ∧ (takeV 8 st).length ≤ 8 := by
 by_cases he : st.e = 0
 ·by_cases hl : st.l.length < 8
  ·have hc : (8 : Int) < 0 ∨ (st.l.length : Int) < 8 := .inr (by omega)
   rw [(fix_cut he hl).1, (fix_cut he hl).2, (take_cut he hc).1, (take_cut he hc).2]
   exact ⟨rfl, rfl, by simp⟩
  ·have hc : ¬((8 : Int) < 0 ∨ (st.l.length : Int) < 8) := by omega
   rw [(fix_ok he (by omega)).1, (fix_ok he (by omega)).2, (take_ok he hc).1, (take_ok he hc).2]
   exact ⟨rfl, rfl, by simp; omega⟩
 ·rw [(fix_err he).1, (fix_err he).2, (take_err he).1, (take_err he).2]
  exact ⟨rfl, rfl, by simp⟩
theorem num8_drop {t : List UInt8} {k : Nat} {b : UInt8} (h : t[k]? = some b) : num8 (t.drop k) = b.toNat + 256 * num8 (t.drop (k + 1)) := by
 rw [drop_cons h, num8]
set_option maxHeartbeats 1000000 in
theorem rfix_m (g : Nat) (s : List UInt8) (st : St) (hl : s.length ≤ 140737488351232) (w : World) (h : Ref w g s st) :
  Calls Try.prog 36 #[.pointer (some ⟨g, 0, none⟩)] w fun e w' => e = .returned (.int .u64 (fixV st : Int)) ∧ Ref w' g s (fixS st) ∧ w.grownBy w' (some g) := by
 obtain ⟨f1, f2, f3⟩ := fix_take st
 rw [f1, f2]
 clear f1 f2
 obtain ⟨t, ht⟩ : ∃ t, t = takeV 8 st := ⟨_, rfl⟩
 rw [← ht] at f3 ⊢
 have HT := Lib.hid ht
 have hs := ba_size t
 clear ht
 go_enter Try.func36, Try.ntmps36
 go_wp2_with (go_at_call 60; refine (rtake_m g 8 s st hl _ h).mono ?_; rintro e w1 ⟨rfl, hr1, ho1⟩; rw [← HT.out])
 go_loop [4, 5] (fun u i => ∃ k v : Nat, k ≤ t.length ∧ i = .int .i64 ((k : Int) - 1) ∧ u = .int .u64 (v : Int) ∧ v = num8 (t.drop k))
  (fun _ i => (Go.RowKit.intOf i + 1).toNat)
 case atStart => exact ⟨t.length, 0, Nat.le_refl _, rfl, rfl, by simp [num8]⟩
 case round =>
  clear h
  obtain ⟨k, v, hk, rfl, rfl, hv⟩ := hrel
  have HV := Lib.hid hv
  clear hv
  by_cases h0 : 0 < k
  ·obtain ⟨j, rfl⟩ : ∃ j, k = j + 1 := ⟨k - 1, by omega⟩
   obtain ⟨b, hb⟩ : ∃ b, t[j]? = some b := ⟨_, List.getElem?_eq_getElem (by omega)⟩
   have hix := index_ba hb ((j : Int)) rfl
   have e1 : ((j + 1 : Nat) : Int) - 1 = (j : Int) := by omega
   have hN := num8_drop hb
   rw [← HV.out] at hN
   have hlt := num8_lt8 (t.drop j) (by rw [List.length_drop]; omega)
   have hbd : b.toNat + 256 * v < 18446744073709551616 := by rw [← hN]; exact hlt
   have HN := Lib.hid hN
   clear hb hN hlt
   rw [e1]
   clear e1
   go_wp2
   go_round
   case rel => exact ⟨j, 256 * v + b.toNat, by omega, rfl, by go_num, by rw [HN.out]; omega⟩
   case measure => simp only [Go.RowKit.intOf]; omega
  ·obtain rfl : k = 0 := by omega
   go_wp2
   go_ret
   exact ⟨ret_int (by rw [HV.out]; simp), hr1, ho1⟩
theorem rleft_m (g : Nat) (s : List UInt8) (st : St) (hl : s.length ≤ 140737488351232) (w : World) (h : Ref w g s st) :
  Calls Try.prog 41 #[.pointer (some ⟨g, 0, none⟩)] w fun e w' => e = .returned (.int .i64 (st.l.length : Int)) ∧ ∃ n, w' = w.drewN n := by
 obtain ⟨k, hk, hd, hr⟩ := h
 rw [drop_at hd]
 exact rLeft_c g s k st.e hk hl w hr
end Go.Proofs.Ytojhenpaeedimaa
end
section
namespace Go.Proofs.Ytojhenpaeedimaa
open Go.RowKit
theorem below_only {B g : Nat} {a w w' : World} (hb : Below B a w) (ho : w.grownBy w' (some g)) (hB : B ≤ w.heap.size) (hg : B ≤ g) : Below B a w' :=
 hb.grown ho hB (fun k hk => by injection hk with hk; omega)
end Go.Proofs.Ytojhenpaeedimaa
end
