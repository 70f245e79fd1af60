/-
 Decode, the program's.
 Decode, the document's.
 Contracts at written lengths; what the document gives for answers (live of the layer reals).
-/
import Derived.Test.YtojhenpaeedimaaGreatDe
import Derived.Test.YtojhenpaeedimaaGreatHe
import Derived.Test.YtojhenpaeedimaaGreatDa
import Derived.Maps.AppendAt
section
namespace Go.Proofs.YtojhenpaeedimaaGreat
open Dl
namespace Rl
open Go.RowKit Go.IntWalk
open Pk Fl Re
set_option maxRecDepth 100000
attribute [local go_sem] Oper.semAt_some
theorem Tryz.info49 : (Tryz.prog.info? 49).map (fun i => (i.zero, i.size, i.bytes)) = some (some (.float .f64 0), 1, 8) := by kernel_rfl
theorem own_apart {w : World} {base e size n q : Nat} {v : Value} {xs : List Value} {t : TypeId} {l : List Value} (h : w.ownsRow base e size v n xs) (hi : Is w q t l) (ht : t ≠ e) : v.ownBlock ≠ some q := by
 intro hb
 rcases h.2 with ⟨rfl, _⟩ | ⟨g, cap, cur, rfl, _, hh, _⟩
 ·simp [Value.ownBlock] at hb
 ·have : g = q := by simpa [Value.ownBlock] using hb
  subst this
  unfold Is at hi
  rw [hh] at hi
  injection hi with hi
  injection hi with h1 h2
  exact ht h2.symm
theorem own_snocF {w : World} {base : Nat} {v : Value} {xs : List Nat} {x : Nat} (h : w.ownsRow base 49 1 v (xs.length + 1) (fvs xs ++ [.float .f64 x])) : w.ownsRow base 49 1 v (xs ++ [x]).length (fvs (xs ++ [x])) := by
 rw [List.length_append]; simpa [fvs] using h
theorem cbs_snoc (xs : List Nat) (x : Nat) : cbs (xs ++ [x]) = cbs xs ++ [cb x] := by simp [cbs]
theorem words_snoc {xs : List Nat} {x : Nat} (h : Words xs) (hx : x < 18446744073709551616) : Words (xs ++ [x]) := fun u hu => by
 rcases List.mem_append.1 hu with h1 | h1
 ·exact h u h1
 ·rw [List.mem_singleton.1 h1]; exact hx
/-- what Decode answers -/
def REnd (r : List Nat × Int) (w : World) (e : Ending) (w' : World) : Prop :=
 ∃ A cap ys, e = .returned (.tuple #[.slice A ys.length cap, .int .i64 r.2]) ∧ cbs ys = r.1 ∧ Words ys ∧ At w' w'.heap.size A (fvs ys) ∧ Below w.heap.size w w' ∧ ys.length ≤ cap
theorem rEnd_nil {r : List Nat × Int} {w w' : World} {x : Int} (h : r = ([], x)) (hb : Below w.heap.size w w') : REnd r w (.returned (.tuple #[.slice none 0 0, .int .i64 x])) w' := by
 subst h
 exact ⟨none, 0, [], rfl, rfl, fun u hu => by simp at hu, At.nil _ _ _, hb, Nat.le_refl _⟩
set_option maxHeartbeats 8000000 in
theorem decodeR_c (l : List UInt8) (n : Int) (hn1 : -9223372036854775808 ≤ n) (hn2 : n ≤ 9223372036854775807) (hl : l.length ≤ 100000) (w : World) :
  Calls Tryz.prog 143 #[.string (ba l), .int .i64 n] w (REnd (decR l n) w) := by
 have hs := ba_size l
 rcases Int.lt_or_le n 0 with hneg | hpos
 ·have HD := Lib.hid (decR_neg (l := l) hneg)
  go_enter Tryz.func143, Tryz.ntmps143
  go_wp2_with fail
  go_ret2
  exact rEnd_nil HD.out (Below.refl _ _)
 rcases Int.lt_or_le (l.length : Int) n with hfar | hin
 ·have HD := Lib.hid (decR_far (l := l) hpos hfar)
  go_enter Tryz.func143, Tryz.ntmps143
  go_wp2_with fail
  go_ret2
  exact rEnd_nil HD.out (Below.refl _ _)
 obtain ⟨N, rfl⟩ := Int.eq_ofNat_of_zero_le hpos
 have hN : N ≤ l.length := by omega
 obtain ⟨res, hres⟩ : ∃ res, res = decR l (N : Int) := ⟨_, rfl⟩
 have HR0 := Lib.hid (hres.trans (decR_in hN))
 rw [← hres]
 obtain ⟨i0, hi, hz0, hz1, hz2⟩ := info_parts Tryz.info49
 have hbx : i0.bytes * N ≤ 281474976710656 := by rw [hz2]; omega
 have hmx : N ≤ maxLen := by unfold maxLen; omega
 have t1 : decide ((N : Int) < 0) = false := by simp
 have t2 : decide (l.length < N) = false := by simp; omega
 clear hres hpos hin hn1 hn2
 go_enter Tryz.func143, Tryz.ntmps143
 go_wp2_with (at_make; refine wpList_make_own _ rfl _ _ 23 rfl w.heap.size 49 i0 (.float .f64 0) 1 Tryz.underlying23 hi hz0 hz1 .i64 .i64 _ N rfl rfl rfl hbx hmx (Nat.le_refl _) ?_; intro w1 hown1 hgrow1)
 have hb1 := (Below.refl w.heap.size w).grown hgrow1 (Nat.le_refl _) (fun k e => by cases e)
 refine (whole_c w1).mono ?_
 rintro e w2 ⟨rfl, hk2, hm2, hs2⟩
 have hown2 := hown1.kept (w' := w2) (row := none) ⟨hm2.os, hm2.tape, hm2.output, hm2.size, fun i hi _ => hm2.block i hi⟩ (.inr (by simp [Value.ownBlock]))
 have hb2 := hb1.trans (hm2.mono hb1.size)
 obtain ⟨q, hq⟩ : ∃ q, q = w1.heap.size := ⟨_, rfl⟩
 rw [← hq] at hk2 hs2 ⊢
 have hqw : w.heap.size ≤ q := by rw [hq]; exact hb1.size
 clear hown1 hgrow1 hb1 hm2 hq hbx hmx
 go_wp2_with fail
 refine (new_c l _).mono ?_
 rintro e w3 ⟨rfl, hr3, hw3⟩
 have hown3 := hown2.alloc (.cells #[.string (ba l), .int .i64 0] 132)
 rw [← hw3] at hown3
 have hb3 : Below w.heap.size w w3 := by rw [hw3]; exact hb2.alloc hb2.size _
 have hk3 : Keeps w3 q 0 := by rw [hw3]; exact is_alloc hk2 _
 obtain ⟨g, hg⟩ : ∃ g, g = w2.heap.size := ⟨_, rfl⟩
 rw [← hg] at hr3 ⊢
 have hgq : g ≠ q := by omega
 have hgw : w.heap.size ≤ g := by rw [hg]; exact hb2.size
 clear hw3 hown2 hk2 hb2 hs2 hg
 go_wp2_with fail
 go_loopw [6, 24] (fun v i wr => ∃ (k j p : Nat) (s : St) (out : List Nat), i = .int .i64 (k : Int) ∧ k + j = N ∧ out.length = k ∧ res = fR j p s (cbs out) ∧ Words out ∧ p < 18446744073709551616 ∧
   wr.ownsRow w.heap.size 49 1 v out.length (fvs out) ∧ Keeps wr q p ∧ Rdr wr g s ∧ Below w.heap.size w wr) (fun _ i _ => N - (Go.RowKit.intOf i).toNat)
 case atStart => exact ⟨0, N, 0, ⟨l, 0⟩, [], rfl, by omega, rfl, HR0.out, fun u hu => by simp at hu, by decide, hown3, hk3, hr3, hb3⟩
 case round =>
  clear hown3 hk3 hr3 hb3 HR0
  obtain ⟨k, j, p, s, out, rfl, hkj, hol, hres, hwo, hp, hown, hkp, hr, hb⟩ := hrel
  have HRES := Lib.hid hres
  have HWO := Lib.hid hwo
  have HOL := Lib.hid hol
  have hole : out.length ≤ 100000 := by omega
  clear hres hwo hol
  by_cases hlt : k < N
  ·obtain ⟨j, rfl⟩ : ∃ j', j = j' + 1 := ⟨j - 1, by omega⟩
   go_wp2_with fail
   refine (num_m g s _ hr).mono ?_
   rintro e w4 ⟨rfl, hr4, ho4⟩
   have hown4 := hown.kept ho4 (.inr (own_apart hown hr (by decide)))
   have hk4 : Keeps w4 q p := is_grown hkp ho4 (fun e => hgq (by injection e with e; exact e.symm))
   have hb4 := below_only hb ho4 hb.size hgw
   have hv := numV_lt s
   clear hown hkp hr hb ho4
   go_wp2_with fail
   refine (swap_c (numV s) hv _).mono ?_
   rintro e wz ⟨rfl, rfl⟩
   go_wp2_with fail
   refine (whole1_c q (sw (numV s)) p (sw_lt _) hp _ hk4).mono ?_
   rintro e w5 ⟨rfl, hk5, ho5⟩
   have hown5 := hown4.kept ho5 (.inr (own_apart hown4 hk4 (by decide)))
   have hr5 : Rdr w5 g (numS s) := is_grown hr4 ho5 (fun e => hgq (by injection e))
   have hb5 := below_only hb4 ho5 hb4.size hqw
   have hul : sw (numV s) ^^^ p < 18446744073709551616 := Re.xor_lt (sw_lt _) hp
   obtain ⟨u, hu⟩ : ∃ u, u = sw (numV s) ^^^ p := ⟨_, rfl⟩
   rw [← hu] at hk5 hul ⊢
   have HU := Lib.hid hu
   clear hown4 hk4 hr4 hb4 ho5 hu
   obtain ⟨s1, hs1⟩ : ∃ s1, s1 = numS s := ⟨_, rfl⟩
   rw [← hs1] at hr5
   have HS := Lib.hid hs1
   clear hs1
   by_cases he : s1.e = 0
   ·have hne : (s1.e != 0) = false := by rw [he]; rfl
    have HE := Lib.hid he
    clear he
    go_wp2_with fail
    refine (err_c g s1 _ hr5).mono ?_
    rintro e wz ⟨rfl, rfl⟩
    cases hcn : cn u
    ·have HC := Lib.hid hcn
     go_wp2_with fail
     refine (canon_c u hul _).mono ?_
     rintro e wz ⟨rfl, rfl⟩
     rw [HC.out]
     go_wp2_with fail
     go_ret2
     refine rEnd_nil ?_ hb5
     rw [HRES.out, fR_form (by rw [← HS.out]; exact HE.out) (by rw [← HU.out]; exact HC.out)]
    ·have HC := Lib.hid hcn
     go_wp2_with fail
     refine (canon_c u hul _).mono ?_
     rintro e wz ⟨rfl, rfl⟩
     rw [HC.out]
     go_wp2_with fail
     refine (float_c u hul _).mono ?_
     rintro e w6 ⟨rfl, hm6⟩
     have hg6 : w5.grownBy w6 none := ⟨hm6.os, hm6.tape, hm6.output, hm6.size, fun i hi _ => hm6.block i hi⟩
     have hown6 := hown5.kept hg6 (by cases h : Value.ownBlock _ <;> simp)
     have hk6 := keeps_below hk5 hm6
     have hr6 : Rdr w6 g s1 := rdr_grown hr5 hm6
     have hb6 := hb5.trans (hm6.mono hb5.size)
     have hfl := fl_lt u hul
     obtain ⟨y, hy⟩ : ∃ y, y = fl u := ⟨_, rfl⟩
     rw [← hy] at hfl ⊢
     have HY := Lib.hid hy
     have hbz := hb6.size
     clear hown5 hk5 hr5 hb5 hm6 hg6 hy hcn
     go_wp2_with (at_builtin; refine wpList_append_own _ rfl _ _ 23 rfl w.heap.size 49 i0 (.float .f64 0) 1 8 Tryz.underlying23 hi hz0 hz1 hz2 rfl (by decide) _ _ _ rfl (hown6.alloc _) ⟨w6.heap.size, 0, none⟩ 1 1 [.float .f64 y] rfl rfl (cell_one_new _ _ _) (by simp [Value.oneCell']) (by unfold maxLen; omega) (by omega) (by simp; omega) ?_; intro v' w7 hown7 hgrow7 _)
     have hk7 : Keeps w7 q u := is_grown (is_alloc hk6 _) hgrow7 (fun e => own_apart hown6 hk6 (by decide) e.symm)
     have hr7 : Rdr w7 g s1 := is_grown (is_alloc hr6 _) hgrow7 (fun e => own_apart hown6 hr6 (by decide) e.symm)
     have hb7 := Dl.below_ownI hb6 hbz hown6 hgrow7
     have ho7 := own_snocF hown7
     clear hown6 hown7 hgrow7 hb6 hk6 hr6
     go_wp2
     go_roundw
     case rel =>
      refine ⟨k + 1, j, u, s1, out ++ [y], by go_num, by omega, by simp [HOL.out], ?_, words_snoc HWO.out hfl, hul, ho7, hk7, hr7, hb7⟩
      rw [HRES.out, fR_go (by rw [← HS.out]; exact HE.out) (by rw [← HU.out]; exact HC.out), ← HU.out, ← HS.out, cbs_snoc, HY.out, cb_fl_cn hul HC.out]
     case measure => simp only [Go.RowKit.intOf]; omega
   ·have hne : (s1.e != 0) = true := by simpa using he
    have HE := Lib.hid he
    clear he
    go_wp2_with fail
    refine (err_c g s1 _ hr5).mono ?_
    rintro e wz ⟨rfl, rfl⟩
    go_wp2_with fail
    go_ret2
    refine rEnd_nil ?_ hb5
    rw [HRES.out, fR_err (by rw [← HS.out]; exact HE.out), HS.out]
  ·obtain rfl : j = 0 := by omega
   obtain ⟨A, cap, rfl, hat, _, hroom⟩ := own_at hown
   have HROOM := Lib.hid hroom
   clear hroom
   have HAT := Lib.hid hat
   clear hat hown hkp
   go_wp2_with fail
   refine (done_c g s _ hr).mono ?_
   rintro e wz ⟨rfl, rfl⟩
   by_cases hd : doneV s = 0
   ·have hdb : (doneV s != 0) = false := by rw [hd]; rfl
    have HDD := Lib.hid hd
    clear hd
    go_wp2_with fail
    go_ret2
    rw [HRES.out, fR_done HDD.out]
    exact ⟨A, cap, out, rfl, rfl, HWO.out, HAT.out, hb, HROOM.out⟩
   ·have hdb : (doneV s != 0) = true := by simpa using hd
    have HDD := Lib.hid hd
    clear hd
    go_wp2_with fail
    go_ret2
    refine rEnd_nil ?_ hb
    rw [HRES.out, fR_left HDD.out]
end Rl
end Go.Proofs.YtojhenpaeedimaaGreat
end
section
namespace Go.Proofs.YtojhenpaeedimaaGreat
open Dl
namespace Rl
open Go.RowKit Go.IntWalk
open Pk Fl Re
set_option maxRecDepth 100000
attribute [local go_sem] Oper.semAt_some
theorem cb_cn {u : Nat} (hu : u < 18446744073709551616) (h : cn u = true) : cb u = u := by
 rcases (cn_iff u hu).1 h with h1 | h1
 ·exact cb_num h1
 ·rw [h1]; decide
theorem cb_rf {u y : Nat} (h : RF u y) : cb y = cb u := by
 obtain ⟨_, h1, h2⟩ := h
 cases hn : nn u
 ·rw [h1 hn]
 ·rw [cb_nan hn, cb_nan (h2 hn)]
theorem ref_cell {w : World} {g : Nat} {l : List UInt8} {s : St} (h : Ref w g l s) : w.cell? ⟨g, 2, none⟩ = some (.int .i64 s.e) := by
 obtain ⟨k, _, _, hr⟩ := h
 exact ref_e hr
theorem ref_below {w w' : World} {g : Nat} {l : List UInt8} {s : St} (h : Ref w g l s) (hb : Below w.heap.size w w') : Ref w' g l s := by
 obtain ⟨k, hk, hd, hr⟩ := h
 exact ⟨k, hk, hd, is_below hr hb (is_lt hr)⟩
set_option maxHeartbeats 8000000 in
theorem rdecodeR_c (l : List UInt8) (n : Int) (hn1 : -9223372036854775808 ≤ n) (hn2 : n ≤ 9223372036854775807) (hl : l.length ≤ 100000) (w : World) :
  Calls Tryz.prog 80 #[.string (ba l), .int .i64 n] w (REnd (decR l n) w) := by
 have hs := ba_size l
 rcases Int.lt_or_le n 0 with hneg | hpos
 ·have HD := Lib.hid (decR_neg (l := l) hneg)
  go_enter Tryz.func80, Tryz.ntmps80
  go_wp2_with fail
  go_ret2
  exact rEnd_nil HD.out (Below.refl _ _)
 rcases Int.lt_or_le (l.length : Int) n with hfar | hin
 ·have HD := Lib.hid (decR_far (l := l) hpos hfar)
  go_enter Tryz.func80, Tryz.ntmps80
  go_wp2_with fail
  go_ret2
  exact rEnd_nil HD.out (Below.refl _ _)
 obtain ⟨N, rfl⟩ := Int.eq_ofNat_of_zero_le hpos
 have hN : N ≤ l.length := by omega
 obtain ⟨res, hres⟩ : ∃ res, res = decR l (N : Int) := ⟨_, rfl⟩
 have HR0 := Lib.hid (hres.trans (decR_in hN))
 rw [← hres]
 obtain ⟨i0, hi, hz0, hz1, hz2⟩ := info_parts Tryz.info49
 have t1 : decide ((N : Int) < 0) = false := by simp
 have t2 : decide (l.length < N) = false := by simp; omega
 clear hres hpos hin hn1 hn2
 go_enter Tryz.func80, Tryz.ntmps80
 go_wp2_with fail
 have hr1 : Ref (w.alloc (.cells #[.string (ba l), .int .i64 0, .int .i64 0] 81)) w.heap.size l ⟨l, 0⟩ := ref_mk (Nat.zero_le _) rfl (is_new w 81 [.string (ba l), .int .i64 0, .int .i64 0])
 have hb1 : Below w.heap.size w (w.alloc (.cells #[.string (ba l), .int .i64 0, .int .i64 0] 81)) := (Below.refl _ _).alloc (Nat.le_refl _) _
 obtain ⟨w1, hw1⟩ : ∃ w1, w1 = w.alloc (.cells #[.string (ba l), .int .i64 0, .int .i64 0] 81) := ⟨_, rfl⟩
 have hsz1 : w1.heap.size = w.heap.size + 1 := by rw [hw1]; simp
 rw [← hw1] at hr1 hb1 ⊢
 clear hw1
 go_loopw [7, 8, 9] (fun v pp i wr => ∃ (k j p : Nat) (s : St) (out : List Nat), i = .int .i64 (k : Int) ∧ pp = .int .u64 (p : Int) ∧ k + j = N ∧ out.length = k ∧ res = fR j p s (cbs out) ∧ Words out ∧ p < 18446744073709551616 ∧
   wr.ownsRow w1.heap.size 49 1 v out.length (fvs out) ∧ Ref wr w.heap.size l s ∧ Below w.heap.size w wr ∧ w1.heap.size ≤ wr.heap.size) (fun _ _ i _ => N - (Go.RowKit.intOf i).toNat)
 case atStart => exact ⟨0, N, 0, ⟨l, 0⟩, [], rfl, rfl, by omega, rfl, HR0.out, fun u hu => by simp at hu, by decide, World.ownsRow_nil _ _ _ _, hr1, hb1, Nat.le_refl _⟩
 case round =>
  clear hr1 hb1 HR0
  obtain ⟨k, j, p, s, out, rfl, rfl, hkj, hol, hres, hwo, hp, hown, hr, hb, hws⟩ := hrel
  have HRES := Lib.hid hres
  have HWO := Lib.hid hwo
  have HOL := Lib.hid hol
  have hole : out.length ≤ 100000 := by omega
  clear hres hwo hol
  by_cases hlt : k < N
  ·obtain ⟨j, rfl⟩ : ∃ j', j = j' + 1 := ⟨j - 1, by omega⟩
   go_wp2_with fail
   refine (rnum_m _ l s (by omega) _ hr).mono ?_
   rintro e w4 ⟨rfl, hr4, ho4⟩
   have hown4 := own_only hown ho4 (by omega)
   have hb4 := below_only hb ho4 hb.size (Nat.le_refl _)
   have hws4 := Nat.le_trans hws ho4.size
   have hv := numV_lt s
   clear hown hr hb ho4 hws
   go_wp2_with fail
   refine (rswap_c (numV s) hv _).mono ?_
   rintro e wz ⟨rfl, rfl⟩
   have hul : sw (numV s) ^^^ p < 18446744073709551616 := Re.xor_lt (sw_lt _) hp
   have hxor := xor_u64 (sw (numV s)) p (sw_lt _) hp
   obtain ⟨u, hu⟩ : ∃ u, u = sw (numV s) ^^^ p := ⟨_, rfl⟩
   rw [← hu] at hul hxor
   have HU := Lib.hid hu
   obtain ⟨s1, hs1⟩ : ∃ s1, s1 = numS s := ⟨_, rfl⟩
   rw [← hs1] at hr4
   have HS := Lib.hid hs1
   have hce := ref_cell hr4
   clear hu hs1
   by_cases he : s1.e = 0
   ·have hne : (s1.e != 0) = false := by rw [he]; rfl
    have HE := Lib.hid he
    clear he
    cases hcn : cn u
    ·have HC := Lib.hid hcn
     go_wp2_with fail
     refine (rCanon_c u hul _).mono ?_
     rintro e wz ⟨rfl, rfl⟩
     rw [HC.out]
     go_wp2_with fail
     go_ret2
     refine rEnd_nil ?_ hb4
     rw [HRES.out, fR_form (by rw [← HS.out]; exact HE.out) (by rw [← HU.out]; exact HC.out)]
    ·have HC := Lib.hid hcn
     go_wp2_with fail
     refine (rCanon_c u hul _).mono ?_
     rintro e wz ⟨rfl, rfl⟩
     rw [HC.out]
     go_wp2_with fail
     refine (rFloat_c u hul _).mono ?_
     rintro e w6 ⟨y, rfl, hrf, hm6⟩
     have hg6 : w4.grownBy w6 none := ⟨hm6.os, hm6.tape, hm6.output, hm6.size, fun i hi _ => hm6.block i hi⟩
     have hown6 := hown4.kept hg6 (by cases h : Value.ownBlock _ <;> simp)
     have hr6 := ref_below hr4 hm6
     have hb6 := hb4.trans (hm6.mono hb4.size)
     have hws6 := Nat.le_trans hws4 hm6.size
     have hfl := hrf.1
     have HY := Lib.hid (cb_rf hrf)
     clear hown4 hr4 hb4 hm6 hg6 hrf hcn hws4 hce
     go_wp2_with (at_builtin; refine wpList_append_own _ rfl _ _ 23 rfl w1.heap.size 49 i0 (.float .f64 0) 1 8 Tryz.underlying23 hi hz0 hz1 hz2 rfl (by decide) _ _ _ rfl (hown6.alloc _) ⟨w6.heap.size, 0, none⟩ 1 1 [.float .f64 y] rfl rfl (cell_one_new _ _ _) (by simp [Value.oneCell']) (by unfold maxLen; omega) (by omega) (by simp; omega) ?_; intro v' w7 hown7 hgrow7 _)
     have hr7 := ref_new hr6 hown6 hgrow7 (by omega)
     have hb7 := Dl.below_ownI hb6 hb6.size (ownsRow_lower hown6 (by omega)) hgrow7
     have ho7 := own_snocF hown7
     have hws7 : w1.heap.size ≤ w7.heap.size := Nat.le_trans hws6 (by have := hgrow7.size; rw [World.size_alloc] at this; omega)
     clear hown6 hown7 hgrow7 hb6 hr6
     go_wp2
     go_roundw
     case rel =>
      refine ⟨k + 1, j, u, s1, out ++ [y], by go_num, rfl, by omega, by simp [HOL.out], ?_, words_snoc HWO.out hfl, hul, ho7, hr7, hb7, hws7⟩
      rw [HRES.out, fR_go (by rw [← HS.out]; exact HE.out) (by rw [← HU.out]; exact HC.out), ← HU.out, ← HS.out, cbs_snoc, HY.out, cb_cn hul HC.out]
     case measure => simp only [Go.RowKit.intOf]; omega
   ·have hne : (s1.e != 0) = true := by simpa using he
    have HE := Lib.hid he
    clear he
    go_wp2_with fail
    go_quiet (fail)
    go_wp2
    go_ret2
    refine rEnd_nil ?_ (below_drewN hb4 _)
    rw [HRES.out, fR_err (by rw [← HS.out]; exact HE.out), HS.out]
  ·obtain rfl : j = 0 := by omega
   obtain ⟨A, cap, rfl, hat, _, hroom⟩ := own_at hown
   have HROOM := Lib.hid hroom
   clear hroom
   have HAT := Lib.hid hat
   clear hat hown
   go_wp2_with fail
   refine (rdone_m _ l s (by omega) _ hr).mono ?_
   rintro e w2 ⟨rfl, q1, rfl⟩
   have hb2 := below_drewN hb q1
   by_cases hd : doneV s = 0
   ·have hdb : (doneV s != 0) = false := by rw [hd]; rfl
    have HDD := Lib.hid hd
    clear hd
    go_wp2_with fail
    go_ret2
    rw [HRES.out, fR_done HDD.out]
    exact ⟨A, cap, out, rfl, rfl, HWO.out, at_drewN HAT.out q1, hb2, HROOM.out⟩
   ·have hdb : (doneV s != 0) = true := by simpa using hd
    have HDD := Lib.hid hd
    clear hd
    go_wp2_with fail
    refine (rdone_m _ l s (by omega) _ (ref_drewN' hr q1)).mono ?_
    rintro e w3 ⟨rfl, q2, rfl⟩
    go_wp2_with fail
    go_ret2
    refine rEnd_nil ?_ (below_drewN hb _)
    rw [HRES.out, fR_left HDD.out]
end Rl
end Go.Proofs.YtojhenpaeedimaaGreat
end
section
namespace Go.Proofs.YtojhenpaeedimaaGreat
open Dl
namespace Rl
open Go.RowKit Go.IntWalk
open Pk Fl Re
set_option maxRecDepth 100000
theorem encodeR_k {A : Option Addr} {cap n : Nat} (xs us : List Nat) (S : ByteArray) (hn : n = xs.length) (hu : cbs xs = us) (hS : ba (encR us) = S) (hx : xs.length ≤ 100000) (hw : Words xs) {w : World} (hc : At w w.heap.size A (fvs xs)) :
  Calls Tryz.prog 64 #[.slice A n cap] w fun e w' => e = .returned (.string S) ∧ Below w.heap.size w w' := by
 subst hn hu hS
 exact encodeR_c A cap xs hx hw w hc
theorem decodeR_k {S : ByteArray} (l : List UInt8) (n : Int) (us : List Nat) (x : Int) (hS : S = ba l) (hr : decR l n = (us, x)) (hn1 : -9223372036854775808 ≤ n) (hn2 : n ≤ 9223372036854775807) (hl : l.length ≤ 100000) (w : World) :
  Calls Tryz.prog 143 #[.string S, .int .i64 n] w fun e w' => ∃ A cap ys, e = .returned (.tuple #[.slice A ys.length cap, .int .i64 x]) ∧ cbs ys = us ∧ Words ys ∧ ys.length = us.length ∧ At w' w'.heap.size A (fvs ys) ∧ Below w.heap.size w w' ∧ ys.length ≤ cap := by
 subst hS
 have := decodeR_c l n hn1 hn2 hl w
 rw [hr] at this
 refine this.mono ?_
 rintro e w' ⟨A, cap, ys, he, h1, h2, h3, h4, h5⟩
 exact ⟨A, cap, ys, he, h1, h2, by have := congrArg List.length h1; rwa [cbs_len] at this, h3, h4, h5⟩
namespace live9
end live9
end Rl
end Go.Proofs.YtojhenpaeedimaaGreat
end
