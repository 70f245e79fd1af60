/-
  Decode, the document's.
-/
import Derived.Test.YtjjbiepmfngipaaLf
namespace Go.Proofs.Ytjjbiepmfngipaa
open Go.RowKit Go.IntWalk
open Pk Fl Re
set_option maxRecDepth 100000
attribute [local go_sem] Oper.semAt_some

theorem cb_cn {u : Nat} (hu : u < 18446744073709551616) (h : cn u = true) : cb u = u := by
  rcases (cn_iff u hu).1 h with h1 | h1
  · exact cb_num h1
  · rw [h1]; decide
theorem cb_rf {u y : Nat} (h : RF u y) : cb y = cb u := by
  obtain ⟨_, h1, h2⟩ := h
  cases hn : nn u
  · rw [h1 hn]
  · rw [cb_nan hn, cb_nan (h2 hn)]
theorem ref_cell {w : World} {g : Nat} {l : List UInt8} {s : St} (h : Ref w g l s) : w.cell? ⟨g, 2, none⟩ = some (.int .i64 s.e) := by
  obtain ⟨k, _, _, hr⟩ := h
  exact ref_e hr
theorem ref_below {w w' : World} {g : Nat} {l : List UInt8} {s : St} (h : Ref w g l s) (hb : Below w.heap.size w w') : Ref w' g l s := by
  obtain ⟨k, hk, hd, hr⟩ := h
  exact ⟨k, hk, hd, is_below hr hb (is_lt hr)⟩

set_option maxHeartbeats 8000000 in
theorem rdecodeR_c (l : List UInt8) (n : Int) (hn1 : -9223372036854775808 ≤ n) (hn2 : n ≤ 9223372036854775807) (hl : l.length ≤ 100000) (w : World) :
    Calls Try.prog 21 #[.string (ba l), .int .i64 n] w (REnd (decR l n) w) := by
  have hs := ba_size l
  rcases Int.lt_or_le n 0 with hneg | hpos
  · have HD := Lib.hid (decR_neg (l := l) hneg)
    go_enter Try.func21, Try.ntmps21
    go_wp2_with fail
    go_ret2
    exact rEnd_nil HD.out (Below.refl _ _)
  rcases Int.lt_or_le (l.length : Int) n with hfar | hin
  · have HD := Lib.hid (decR_far (l := l) hpos hfar)
    go_enter Try.func21, Try.ntmps21
    go_wp2_with fail
    go_ret2
    exact rEnd_nil HD.out (Below.refl _ _)
  obtain ⟨N, rfl⟩ := Int.eq_ofNat_of_zero_le hpos
  have hN : N ≤ l.length := by omega
  obtain ⟨res, hres⟩ : ∃ res, res = decR l (N : Int) := ⟨_, rfl⟩
  have HR0 := Lib.hid (hres.trans (decR_in hN))
  rw [← hres]
  obtain ⟨i0, hi, hz0, hz1, hz2⟩ := info_parts Try.info33
  have t1 : decide ((N : Int) < 0) = false := by simp
  have t2 : decide (l.length < N) = false := by simp; omega
  clear hres hpos hin hn1 hn2
  go_enter Try.func21, Try.ntmps21
  go_wp2_with fail
  have hr1 : Ref (w.alloc (.cells #[.string (ba l), .int .i64 0, .int .i64 0] 71)) w.heap.size l ⟨l, 0⟩ := ref_mk (Nat.zero_le _) rfl (is_new w 71 [.string (ba l), .int .i64 0, .int .i64 0])
  have hb1 : Below w.heap.size w (w.alloc (.cells #[.string (ba l), .int .i64 0, .int .i64 0] 71)) := (Below.refl _ _).alloc (Nat.le_refl _) _
  obtain ⟨w1, hw1⟩ : ∃ w1, w1 = w.alloc (.cells #[.string (ba l), .int .i64 0, .int .i64 0] 71) := ⟨_, rfl⟩
  have hsz1 : w1.heap.size = w.heap.size + 1 := by rw [hw1]; simp
  rw [← hw1] at hr1 hb1 ⊢
  clear hw1
  go_loopw [7, 8, 9] (fun v pp i wr => ∃ (k j p : Nat) (s : St) (out : List Nat), i = .int .i64 (k : Int) ∧ pp = .int .u64 (p : Int) ∧ k + j = N ∧ out.length = k ∧ res = fR j p s (cbs out) ∧ Words out ∧ p < 18446744073709551616 ∧
      wr.ownsRow w1.heap.size 33 1 v out.length (fvs out) ∧ Ref wr w.heap.size l s ∧ Below w.heap.size w wr ∧ w1.heap.size ≤ wr.heap.size) (fun _ _ i _ => N - (intOf i).toNat)
  case atStart => exact ⟨0, N, 0, ⟨l, 0⟩, [], rfl, rfl, by omega, rfl, HR0.out, fun u hu => by simp at hu, by decide, World.ownsRow_nil _ _ _ _, hr1, hb1, Nat.le_refl _⟩
  case round =>
    clear hr1 hb1 HR0
    obtain ⟨k, j, p, s, out, rfl, rfl, hkj, hol, hres, hwo, hp, hown, hr, hb, hws⟩ := hrel
    have HRES := Lib.hid hres
    have HWO := Lib.hid hwo
    have HOL := Lib.hid hol
    have hole : out.length ≤ 100000 := by omega
    clear hres hwo hol
    by_cases hlt : k < N
    · obtain ⟨j, rfl⟩ : ∃ j', j = j' + 1 := ⟨j - 1, by omega⟩
      go_wp2_with fail
      refine (rnum_m _ l s (by omega) _ hr).mono ?_
      rintro e w4 ⟨rfl, hr4, ho4⟩
      have hown4 := own_only hown ho4 (by omega)
      have hb4 := below_only hb ho4 hb.size (Nat.le_refl _)
      have hws4 := Nat.le_trans hws ho4.size
      have hv := numV_lt s
      clear hown hr hb ho4 hws
      go_wp2_with fail
      refine (rswap_c (numV s) hv _).mono ?_
      rintro e wz ⟨rfl, rfl⟩
      have hul : sw (numV s) ^^^ p < 18446744073709551616 := Re.xor_lt (sw_lt _) hp
      have hxor := xor_u64 (sw (numV s)) p (sw_lt _) hp
      obtain ⟨u, hu⟩ : ∃ u, u = sw (numV s) ^^^ p := ⟨_, rfl⟩
      rw [← hu] at hul hxor
      have HU := Lib.hid hu
      obtain ⟨s1, hs1⟩ : ∃ s1, s1 = numS s := ⟨_, rfl⟩
      rw [← hs1] at hr4
      have HS := Lib.hid hs1
      have hce := ref_cell hr4
      clear hu hs1
      by_cases he : s1.e = 0
      · have hne : (s1.e != 0) = false := by rw [he]; rfl
        have HE := Lib.hid he
        clear he
        cases hcn : cn u
        · have HC := Lib.hid hcn
          go_wp2_with fail
          refine (rCanon_c u hul _).mono ?_
          rintro e wz ⟨rfl, rfl⟩
          rw [HC.out]
          go_wp2_with fail
          go_ret2
          refine rEnd_nil ?_ hb4
          rw [HRES.out, fR_form (by rw [← HS.out]; exact HE.out) (by rw [← HU.out]; exact HC.out)]
        · have HC := Lib.hid hcn
          go_wp2_with fail
          refine (rCanon_c u hul _).mono ?_
          rintro e wz ⟨rfl, rfl⟩
          rw [HC.out]
          go_wp2_with fail
          refine (rFloat_c u hul _).mono ?_
          rintro e w6 ⟨y, rfl, hrf, hm6⟩
          have hg6 : w4.grownBy w6 none := ⟨hm6.os, hm6.tape, hm6.output, hm6.size, fun i hi _ => hm6.block i hi⟩
          have hown6 := hown4.kept hg6 (by cases h : Value.ownBlock _ <;> simp)
          have hr6 := ref_below hr4 hm6
          have hb6 := hb4.trans (hm6.mono hb4.size)
          have hws6 := Nat.le_trans hws4 hm6.size
          have hfl := hrf.1
          have HY := Lib.hid (cb_rf hrf)
          clear hown4 hr4 hb4 hm6 hg6 hrf hcn hws4 hce
          go_wp2_with (at_builtin; refine wpList_append_own _ rfl _ _ 22 rfl w1.heap.size 33 i0 (.float .f64 0) 1 8 Try.underlying22 hi hz0 hz1 hz2 rfl (by decide) _ _ _ rfl (hown6.alloc _) ⟨w6.heap.size, 0, none⟩ 1 1 [.float .f64 y] rfl rfl (cell_one_new _ _ _) (by simp [Value.oneCell']) (by unfold maxLen; omega) (by omega) (by simp; omega) ?_; intro v' w7 hown7 hgrow7 _)
          have hr7 := ref_new hr6 hown6 hgrow7 (by omega)
          have hb7 := below_ownI hb6 hb6.size (ownsRow_lower hown6 (by omega)) hgrow7
          have ho7 := own_snocF hown7
          have hws7 : w1.heap.size ≤ w7.heap.size := Nat.le_trans hws6 (by have := hgrow7.size; rw [World.size_alloc] at this; omega)
          clear hown6 hown7 hgrow7 hb6 hr6
          go_wp2
          go_roundw
          case rel =>
            refine ⟨k + 1, j, u, s1, out ++ [y], by go_num, rfl, by omega, by simp [HOL.out], ?_, words_snoc HWO.out hfl, hul, ho7, hr7, hb7, hws7⟩
            rw [HRES.out, fR_go (by rw [← HS.out]; exact HE.out) (by rw [← HU.out]; exact HC.out), ← HU.out, ← HS.out, cbs_snoc, HY.out, cb_cn hul HC.out]
          case measure => simp only [intOf]; omega
      · have hne : (s1.e != 0) = true := by simpa using he
        have HE := Lib.hid he
        clear he
        go_wp2_with fail
        go_quiet (fail)
        go_wp2
        go_ret2
        refine rEnd_nil ?_ (below_drewN hb4 _)
        rw [HRES.out, fR_err (by rw [← HS.out]; exact HE.out), HS.out]
    · obtain rfl : j = 0 := by omega
      obtain ⟨A, cap, rfl, hat, _, -⟩ := own_at hown
      have HAT := Lib.hid hat
      clear hat hown
      go_wp2_with fail
      refine (rdone_m _ l s (by omega) _ hr).mono ?_
      rintro e w2 ⟨rfl, q1, rfl⟩
      have hb2 := below_drewN hb q1
      by_cases hd : doneV s = 0
      · have hdb : (doneV s != 0) = false := by rw [hd]; rfl
        have HDD := Lib.hid hd
        clear hd
        go_wp2_with fail
        go_ret2
        rw [HRES.out, fR_done HDD.out]
        exact ⟨A, cap, out, rfl, rfl, HWO.out, at_drewN HAT.out q1, hb2⟩
      · have hdb : (doneV s != 0) = true := by simpa using hd
        have HDD := Lib.hid hd
        clear hd
        go_wp2_with fail
        refine (rdone_m _ l s (by omega) _ (ref_drewN' hr q1)).mono ?_
        rintro e w3 ⟨rfl, q2, rfl⟩
        go_wp2_with fail
        go_ret2
        refine rEnd_nil ?_ (below_drewN hb _)
        rw [HRES.out, fR_left HDD.out]
end Go.Proofs.Ytjjbiepmfngipaa
