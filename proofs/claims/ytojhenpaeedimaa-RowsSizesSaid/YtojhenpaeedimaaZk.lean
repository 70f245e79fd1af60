/-
 A list of moves that is read: the program's.
-/
import Derived.Test.YtojhenpaeedimaaZj
namespace Go.Proofs.Ytojhenpaeedimaa
open Go.RowKit Go.IntWalk
open Pk Rf Fl Wd
set_option maxRecDepth 100000
attribute [local go_sem] Oper.semAt_some
theorem rdM_le {f : List UInt8} {s s' : St} {m : Mv} {e : Int} (h : rdM f s = (m, e, s')) : s'.l.length ≤ s.l.length := by
 have a1 := numS_le s
 have a2 := numS_le (numS s)
 have a3 := numS_le (numS (numS s))
 have a4 := numS_le (numS (numS (numS s)))
 have a5 := fun n => takeS_le n (numS (numS (numS (numS s))))
 unfold rdM at h
 simp only at h
 split at h
 ·cases h; omega
 ·split at h
  ·cases h; omega
  ·have a6 := a5 ((tk f (↑f.length - ↑(numS (numS (numS (numS s)))).l.length) 64).2.1 - (↑f.length - ↑(numS (numS (numS (numS s)))).l.length))
   have a7 := fixS_le (takeS ((tk f (↑f.length - ↑(numS (numS (numS (numS s)))).l.length) 64).2.1 - (↑f.length - ↑(numS (numS (numS (numS s)))).l.length)) (numS (numS (numS (numS s)))))
   split at h
   ·cases h; omega
   ·split at h <;> (cases h; omega)
theorem LiAt.cells {w W : World} {f : List UInt8} {g L T n k : Nat} {c r : Int} {s : St} {done : List Mv} (h : LiAt w f g L T n W k c r s done) (hk : k < n) (j : Nat) (hj : j < 6) :
  ∃ u, W.cell? ⟨L, k * 6 + j, none⟩ = some u := is_at h.list (by rw [mvs_len6, List.length_append, List.length_replicate, h.len]; omega)
def ListEnd (f : List UInt8) (g : Nat) (s : St) (w : World) (e : Ending) (w' : World) : Prop :=
 w.grownBy w' (some g) ∧
 (if (numS s).e ≠ 0 then e = .returned (.tuple #[.slice none 0 0, .int .i64 (numS s).e])
  else if 2000 < numV s then e = .returned (.tuple #[.slice none 0 0, .int .i64 10])
  else if (rdL f (numV s) 0 0 (numS s)).2.1 ≠ 0 then e = .returned (.tuple #[.slice none 0 0, .int .i64 (rdL f (numV s) 0 0 (numS s)).2.1])
  else ∃ L, e = .returned (.tuple #[.slice (some ⟨L, 0, none⟩) (rdL f (numV s) 0 0 (numS s)).1.length (rdL f (numV s) 0 0 (numS s)).1.length, .int .i64 0]) ∧ w.heap.size ≤ L ∧ L ≠ g ∧
   Is w' L 30 (mvs (rdL f (numV s) 0 0 (numS s)).1) ∧ Rdr w' g (rdL f (numV s) 0 0 (numS s)).2.2)
set_option maxHeartbeats 4000000 in
theorem list_c (g : Nat) (f : List UInt8) (s : St) (hf : f.length ≤ 100000000) (hs : s.l.length ≤ f.length) (w : World) (h : Rdr w g s) :
  Calls Try.prog 31 #[.agg #[.pointer (some ⟨g, 0, none⟩), .string (ba f)]] w (ListEnd f g s w) := by
 have hg := is_lt h
 obtain ⟨W1, hW1⟩ : ∃ W1, W1 = w.alloc (.cells #[.pointer (some ⟨g, 0, none⟩), .string (ba f)] 59) := ⟨_, rfl⟩
 have b1 : Below w.heap.size w W1 := by rw [hW1]; exact (Below.refl _ _).alloc (Nat.le_refl _) _
 have hi : Is W1 w.heap.size 59 [.pointer (some ⟨g, 0, none⟩), .string (ba f)] := by rw [hW1]; exact is_new w 59 _
 have HI := Lib.hid hi
 have HB1 := Lib.hid b1
 have HR1 := Lib.hid (rdr_keep h b1)
 have HW := Lib.hid hW1
 obtain ⟨s1, hs1⟩ : ∃ s1, numS s = s1 := ⟨_, rfl⟩
 obtain ⟨n, hn⟩ : ∃ n, numV s = n := ⟨_, rfl⟩
 have hl1 := numS_le s
 rw [hs1] at hl1
 have HS1 := Lib.hid hs1
 have HN := Lib.hid hn
 have y0 : W1.cell? ⟨w.heap.size, 0, none⟩ = some (.pointer (some ⟨g, 0, none⟩)) := is_cell hi 0
 clear hi b1 h hW1 hs1 hn
 go_enter Try.func31, Try.ntmps31
 go_wp2_with fail
 rw [← HW.out]
 refine (num_m g s _ HR1.out).mono ?_
 rintro e W2 ⟨rfl, hr2, hk2⟩
 rw [HS1.out] at hr2
 rw [HN.out]
 have hne : w.heap.size ≠ g := by omega
 have hi2 : Is W2 w.heap.size 59 [.pointer (some ⟨g, 0, none⟩), .string (ba f)] := is_grown HI.out hk2 (by intro e; injection e; omega)
 have z0 : W2.cell? ⟨w.heap.size, 0, none⟩ = some (.pointer (some ⟨g, 0, none⟩)) := is_cell hi2 0
 have HG2 := Lib.hid (below_thenG HB1.out hk2)
 have HI2 := Lib.hid hi2
 have HR2 := Lib.hid hr2
 clear hr2 hk2 hi2 y0
 go_wp2_with fail
 refine (err_c g s1 _ HR2.out).mono ?_
 rintro e W3 ⟨rfl, rfl⟩
 by_cases he : s1.e = 0
 ·have hq1 : (s1.e != 0) = false := by rw [he]; rfl
  have hq2 : (s1.e == 0) = true := by rw [he]; rfl
  by_cases hb : 2000 < n
  ·have hbi : (2000 : Int) < (n : Int) := by omega
   go_wp2_with fail
   go_ret2
   refine ⟨HG2.out, ?_⟩
   rw [HS1.out, HN.out, if_neg (by rw [he]; simp), if_pos hb]
   rfl
  ·have hbi : ¬ ((2000 : Int) < (n : Int)) := by omega
   have hmk := make_moves n (by omega)
   have hend : ∀ e w', ListEnd f g s w e w' = (w.grownBy w' (some g) ∧ (if (rdL f n 0 0 s1).2.1 ≠ 0 then e = .returned (.tuple #[.slice none 0 0, .int .i64 (rdL f n 0 0 s1).2.1])
     else ∃ L, e = .returned (.tuple #[.slice (some ⟨L, 0, none⟩) (rdL f n 0 0 s1).1.length (rdL f n 0 0 s1).1.length, .int .i64 0]) ∧ w.heap.size ≤ L ∧ L ≠ g ∧ Is w' L 30 (mvs (rdL f n 0 0 s1).1) ∧ Rdr w' g (rdL f n 0 0 s1).2.2)) := by
    intro e w'
    unfold ListEnd
    rw [HS1.out, HN.out, if_neg (show ¬ s1.e ≠ 0 by rw [he]; simp), if_neg hb]
   have HEND := Lib.hid hend
   clear hend
   go_wp2_with fail
   obtain ⟨L, hL⟩ : ∃ L, W2.heap.size = L := ⟨_, rfl⟩
   obtain ⟨W4, hW4⟩ : ∃ W4, W4 = (W2.alloc (.cells (mvs (List.replicate n zM)).toArray 30)).alloc (.cells #[.int .i64 0, .int .i64 0] 27) := ⟨_, rfl⟩
   have b4 : Below W2.heap.size W2 W4 := by rw [hW4]; exact ((Below.refl _ _).alloc (Nat.le_refl _) _).alloc (by rw [size_alloc]; omega) _
   have m4 : LiAt w f g L (L + 1) n W4 0 0 0 s1 [] := by
    refine ⟨is_below HI2.out b4 (is_lt HI2.out), ?_, ?_, rdr_keep HR2.out b4, grown_thenB HG2.out b4, hg, by rw [← hL]; exact is_lt HI2.out, by omega, rfl⟩
    ·rw [hW4, ← hL, List.nil_append, Nat.sub_zero]; exact is_alloc (is_new W2 30 _) _
    ·rw [hW4, ← hL]
     have := is_new (W2.alloc (.cells (mvs (List.replicate n zM)).toArray 30)) 27 [.int .i64 0, .int .i64 0]
     rw [size_alloc] at this
     exact this
   rw [hL, ← hW4]
   have HM4 := Lib.hid m4
   have hs1f : s1.l.length ≤ f.length := by omega
   clear m4 b4 hW4 hL hmk hbi hq1 hq2 z0
   go_loopw [26] (fun i wr => ∃ (k : Nat) (c r : Int) (sk : St) (done : List Mv), i = .int .i64 (k : Int) ∧ k ≤ n ∧ Lst f n s1 k c r sk done ∧ sk.l.length ≤ f.length ∧ LiAt w f g L (L + 1) n wr k c r sk done) (fun i _ => n - (Go.RowKit.intOf i).toNat)
   case atStart => exact ⟨0, 0, 0, s1, [], rfl, Nat.zero_le _, Lst.start f n s1, hs1f, HM4.out⟩
   case round =>
    obtain ⟨k, c, r, sk, done, rfl, hk, hlst, hsk, hli⟩ := hrel
    have HL := Lib.hid hlst
    have HLI := Lib.hid hli
    clear hlst hli
    by_cases hlt : k < n
    ·have hki : (0 : Int) ≤ (k : Int) := by omega
     have hkn : (k : Int) < (n : Int) := by omega
     have y0 := is_cell HLI.out.box 0
     have y1 := is_cell HLI.out.box 1
     simp only [List.getElem?_cons_zero, List.getElem?_cons_succ] at y0 y1
     obtain ⟨⟨m, e, s'⟩, hm⟩ : ∃ x, rdM f sk = x := ⟨_, rfl⟩
     have hmv := move_c g f sk hf hsk _ HLI.out.rdr
     rw [hm] at hmv
     simp only at hmv
     unfold mv at hmv
     have HMV := Lib.hid hmv
     have HMM := Lib.hid hm
     have hsl : s'.l.length ≤ f.length := Nat.le_trans (rdM_le hm) hsk
     clear hmv hm
     go_wp2_with fail
     refine HMV.out.mono ?_
     rintro e9 W5 ⟨rfl, hr5, hk5⟩
     have M5 := Lib.hid (HLI.out.grow hk5 hr5)
     clear hr5 hk5 y0 y1
     by_cases hee : e = 0
     ·subst hee
      obtain ⟨W6, hW6⟩ : ∃ W6, W6 = W5.alloc (.cells #[.int .i64 (mc m), .int .i64 (mr m), .int .i64 (pa (mw m)), .int .i64 (ch (mw m)), .string (ba (nm (mw m))), .float .f64 (rk (mw m))] 30) := ⟨_, rfl⟩
      have m6 : LiAt w f g L (L + 1) n W6 k c r s' done := by rw [hW6]; exact M5.out.below ((Below.refl _ _).alloc (Nat.le_refl _) _)
      have hi6 : Is W6 W5.heap.size 30 (mcs m) := by rw [hW6]; exact is_new W5 30 (mcs m)
      have t0 := is_cell m6.ahead 0
      have t1 := is_cell m6.ahead 1
      simp only [List.getElem?_cons_zero, List.getElem?_cons_succ] at t0 t1
      rw [hW6] at t0 t1
      have M6 := Lib.hid m6
      have I6 := Lib.hid hi6
      have H6 := Lib.hid hW6
      clear m6 hi6 hW6
      go_wp2_with fail
      rw [← H6.out]
      obtain ⟨G, hG⟩ : ∃ G, W5.heap.size = G := ⟨_, rfl⟩
      have hLG : L + 1 < G := by rw [← hG]; exact is_lt M5.out.ahead
      have hi6 := I6.out
      rw [hG] at hi6
      rw [hG]
      refine (bef_c c r (mc m) (mr m) _).mono ?_
      rintro e9 W7 ⟨rfl, hb7⟩
      have m7 := M6.out.below hb7
      have hi7 := is_below hi6 hb7 (is_lt hi6)
      have M7 := Lib.hid m7
      have I7 := Lib.hid hi7
      clear m7 hi7 hi6 hb7 t0 t1 hG
      by_cases hbf : c < mc m ∨ c = mc m ∧ r < mr m
      ·have hq : befT c r (mc m) (mr m) = true := by unfold befT; simpa using hbf
       rw [hq]
       have HL2 := Lib.hid (HL.out.step hlt HMM.out hbf)
       have c0 := is_cell I7.out 0
       have c1 := is_cell I7.out 1
       have c2 := is_cell I7.out 2
       have c3 := is_cell I7.out 3
       have c4 := is_cell I7.out 4
       have c5 := is_cell I7.out 5
       unfold mcs at c0 c1 c2 c3 c4 c5
       simp only [List.getElem?_cons_zero, List.getElem?_cons_succ] at c0 c1 c2 c3 c4 c5
       have t0 := is_cell M7.out.ahead 0
       have t1 := is_cell M7.out.ahead 1
       simp only [List.getElem?_cons_zero, List.getElem?_cons_succ] at t0 t1
       have f0 := is_free M7.out.ahead 0
       have f1 := is_free M7.out.ahead 1
       obtain ⟨u0, l0⟩ := M7.out.cells hlt 0 (by omega)
       obtain ⟨u1, l1⟩ := M7.out.cells hlt 1 (by omega)
       obtain ⟨u2, l2⟩ := M7.out.cells hlt 2 (by omega)
       obtain ⟨u3, l3⟩ := M7.out.cells hlt 3 (by omega)
       obtain ⟨u4, l4⟩ := M7.out.cells hlt 4 (by omega)
       obtain ⟨u5, l5⟩ := M7.out.cells hlt 5 (by omega)
       have r0 := is_free M7.out.list (k * 6)
       have r1 := is_free M7.out.list (k * 6 + 1)
       have r2 := is_free M7.out.list (k * 6 + 2)
       have r3 := is_free M7.out.list (k * 6 + 3)
       have r4 := is_free M7.out.list (k * 6 + 4)
       have r5 := is_free M7.out.list (k * 6 + 5)
       rw [Nat.add_zero] at l0
       clear hbf hq
       go_wp2_with fail
       go_region_with fail
       all_goals (
        go_wp2_with fail
        go_roundw
        case rel => exact ⟨k + 1, mc m, mr m, s', done ++ [m], by go_num, by omega, HL2.out, hsl, (M7.out.put hlt m).below (Below.refl _ _).drew⟩
        case measure => simp only [Go.RowKit.intOf]; omega)
      ·have hq : befT c r (mc m) (mr m) = false := by
        cases hx : befT c r (mc m) (mr m) with
        | false => rfl
        | true => exact absurd (by unfold befT at hx; simpa using hx) hbf
       rw [hq]
       go_wp2_with fail
       go_ret2
       rw [HEND.out, HL.out.order hlt HMM.out hbf, if_pos (show (12 : Int) ≠ 0 by simp)]
       exact ⟨M7.out.own, rfl⟩
     ·have hq1 : (e != 0) = true := by simpa using hee
      have hq2 : (e == 0) = false := by simpa using hee
      go_wp2_with fail
      go_ret2
      rw [HEND.out, HL.out.err hlt HMM.out hee, if_pos hee]
      exact ⟨(M5.out.below ((Below.refl _ _).alloc (Nat.le_refl _) _)).own, rfl⟩
    ·obtain rfl : k = n := by omega
     have hlast := HL.out.last
     go_wp2_with fail
     go_ret2
     have hown := HLI.out.own
     have hgl := HLI.out.gl
     have hwl := HLI.out.wL
     have hdl := HLI.out.len
     have hli := HLI.out.list
     have hrd := HLI.out.rdr
     rw [Nat.sub_self, List.replicate_zero, List.append_nil] at hli
     rw [HEND.out, hlast]
     simp only
     rw [if_neg (show ¬ ((0 : Int) ≠ 0) by simp), hdl]
     exact ⟨hown, L, rfl, by omega, by omega, hli, hrd⟩
 ·have hq1 : (s1.e != 0) = true := by simpa using he
  have hq2 : (s1.e == 0) = false := by simpa using he
  go_wp2_with fail
  go_ret2
  refine ⟨HG2.out, ?_⟩
  rw [HS1.out, if_pos he]
  rfl
end Go.Proofs.Ytojhenpaeedimaa
