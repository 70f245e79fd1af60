/-
 Decode: the program's.
-/
import Derived.Test.YtojhenpaeedimaaZk
import Derived.Test.YtojhenpaeedimaaZe
import Derived.Test.YtojhenpaeedimaaCue
import Derived.Test.YtojhenpaeedimaaBl
namespace Go.Proofs.Ytojhenpaeedimaa
open Go.RowKit Go.IntWalk
open Pk Ck Rf Fl Wd
set_option maxRecDepth 100000
attribute [local go_sem] Oper.semAt_some
def DecEnd (f : List UInt8) (w : World) (e : Ending) (w' : World) : Prop :=
 Below w.heap.size w w' ∧
 (if (decR f).2 ≠ 0 then e = .returned (.tuple #[.slice none 0 0, .int .i64 (decR f).2])
  else ∃ L, e = .returned (.tuple #[.slice (some ⟨L, 0, none⟩) (decR f).1.length (decR f).1.length, .int .i64 0]) ∧ w.heap.size ≤ L ∧ Is w' L 30 (mvs (decR f).1))
theorem list_ends {f : List UInt8} {g : Nat} {w w' : World} {e : Ending} (h0 : verE f = 0) (h1 : verV f = 1) (h : ListEnd f g ⟨f.drop 5, 0⟩ w e w') :
  w.grownBy w' (some g) ∧
  ((∃ x, x ≠ 0 ∧ e = .returned (.tuple #[.slice none 0 0, .int .i64 x]) ∧ decR f = ([], x)) ∨
   (∃ L l s, e = .returned (.tuple #[.slice (some ⟨L, 0, none⟩) (List.length l) (List.length l), .int .i64 0]) ∧ w.heap.size ≤ L ∧ L ≠ g ∧ Is w' L 30 (mvs l) ∧ Rdr w' g s ∧
    decR f = if doneV s ≠ 0 then ([], doneV s) else (l, 0))) := by
 obtain ⟨hg, h⟩ := h
 refine ⟨hg, ?_⟩
 unfold decR
 rw [if_neg (by rw [h0]; simp), if_neg (by rw [h1]; simp)]
 simp only
 by_cases a1 : (numS ⟨f.drop 5, 0⟩).e ≠ 0
 ·rw [if_pos a1] at h ⊢
  exact Or.inl ⟨_, a1, h, rfl⟩
 ·rw [if_neg a1] at h ⊢
  by_cases a2 : 2000 < numV ⟨f.drop 5, 0⟩
  ·rw [if_pos a2] at h ⊢
   exact Or.inl ⟨10, by simp, h, rfl⟩
  ·rw [if_neg a2] at h ⊢
   by_cases a3 : (rdL f (numV ⟨f.drop 5, 0⟩) 0 0 (numS ⟨f.drop 5, 0⟩)).2.1 ≠ 0
   ·rw [if_pos a3] at h ⊢
    exact Or.inl ⟨_, a3, h, rfl⟩
   ·rw [if_neg a3] at h ⊢
    obtain ⟨L, q1, q2, q3, q4, q5⟩ := h
    exact Or.inr ⟨L, _, _, q1, q2, q3, q4, q5, rfl⟩
set_option maxHeartbeats 4000000 in
theorem pdecode_c (f : List UInt8) (hf : f.length ≤ 100000000) (w : World) :
  Calls Try.prog 13 #[.string (ba f)] w (DecEnd f w) := by
 have hbs := ba_size f
 obtain ⟨ve, hve⟩ : ∃ ve, verE f = ve := ⟨_, rfl⟩
 obtain ⟨vv, hvv⟩ : ∃ vv, verV f = vv := ⟨_, rfl⟩
 have hver := version_c f (by omega) w
 unfold VerEnd at hver
 rw [hve, hvv] at hver
 have HV := Lib.hid hver
 have HVE := Lib.hid hve
 have HVV := Lib.hid hvv
 clear hver hve hvv
 go_enter Try.func13, Try.ntmps13
 go_wp2_with fail
 refine HV.out.mono ?_
 rintro e W1 ⟨rfl, hb1⟩
 have HB1 : Hid (Below w.heap.size w W1) := Lib.hid (by rw [← hb1]; exact Below.refl _ _)
 clear hb1
 by_cases he : ve = 0
 ·subst he
  by_cases h1 : vv = 1
  ·subst h1
   have hlen : 5 ≤ f.length := by
    have h := HVE.out
    unfold verE at h
    split at h
    ·cases h
    ·split at h
     ·cases h
     ·omega
   have hz0 : (ba startB).size = 5 := rfl
   have hex := extract_drop f 5
   have hl5 : (5 : Int) ≤ (f.length : Int) := by omega
   go_wp2_with fail
   refine (start_c _).mono ?_
   rintro e W2 ⟨rfl, hb2⟩
   have HB2 := Lib.hid (HB1.out.trans (hb2.mono HB1.out.size))
   clear hb2
   go_wp2_with fail
   refine (new_c (f.drop 5) _).mono ?_
   rintro e W3 ⟨rfl, hr3, hw3⟩
   obtain ⟨g, hg⟩ : ∃ g, W2.heap.size = g := ⟨_, rfl⟩
   rw [hg] at hr3
   rw [hg]
   have b3 : Below w.heap.size w W3 := by rw [hw3]; exact HB2.out.alloc HB2.out.size _
   have hwg : w.heap.size ≤ g := by rw [← hg]; exact HB2.out.size
   obtain ⟨W4, hW4⟩ : ∃ W4, W4 = W3.alloc (.cells #[.pointer (some ⟨g, 0, none⟩), .string (ba f)] 59) := ⟨_, rfl⟩
   have b34 : Below W3.heap.size W3 W4 := by rw [hW4]; exact (Below.refl _ _).alloc (Nat.le_refl _) _
   have hi4 : Is W4 W3.heap.size 59 [.pointer (some ⟨g, 0, none⟩), .string (ba f)] := by rw [hW4]; exact is_new W3 59 _
   have hr4 := rdr_keep hr3 b34
   have hg3 : g < W3.heap.size := is_lt hr3
   have HB4 := Lib.hid (b3.trans (b34.mono b3.size))
   have H4 := Lib.hid hW4
   have I4 := Lib.hid hi4
   have HLS := Lib.hid (list_c g f ⟨f.drop 5, 0⟩ hf (by simp) W4 hr4)
   clear b3 b34 hi4 hr4 hr3 hw3 hW4 hg hex hl5 hz0
   go_wp2_with fail
   rw [← H4.out]
   refine HLS.out.mono ?_
   rintro e W5 hle
   obtain ⟨hk5, hcase⟩ := list_ends HVE.out HVV.out hle
   have hi5 := is_grown I4.out hk5 (by intro e; injection e; omega)
   have y0 := is_cell hi5 0
   have y1 := is_cell hi5 1
   simp only [List.getElem?_cons_zero, List.getElem?_cons_succ] at y0 y1
   have b5 : Below w.heap.size w W5 := below_only HB4.out hk5 HB4.out.size hwg
   have HB5 := Lib.hid b5
   clear hle hi5 b5
   rcases hcase with ⟨x, hx, rfl, hd⟩ | ⟨L, l, s, rfl, hL, hLg, hlist, hrd, hd⟩
   ·have hq1 : (x != 0) = true := by simpa using hx
    have hq2 : (x == 0) = false := by simpa using hx
    have HD := Lib.hid hd
    clear hd
    go_wp2_with fail
    go_ret2
    unfold DecEnd
    rw [HD.out]
    simp only
    rw [if_pos hx]
    exact ⟨HB5.out, rfl⟩
   ·have HD := Lib.hid hd
    have HL := Lib.hid hlist
    have HR := Lib.hid hrd
    have h4L : w.heap.size ≤ L := Nat.le_trans HB4.out.size hL
    clear hd hlist hrd
    go_wp2_with fail
    refine (done_c g s _ HR.out).mono ?_
    rintro e W6 ⟨rfl, rfl⟩
    by_cases hdn : doneV s = 0
    ·have hq1 : (doneV s != 0) = false := by rw [hdn]; rfl
     have hq2 : (doneV s == 0) = true := by rw [hdn]; rfl
     have hd := HD.out
     rw [if_neg (by rw [hdn]; simp)] at hd
     go_wp2_with fail
     go_ret2
     unfold DecEnd
     rw [hd]
     exact ⟨HB5.out, L, rfl, h4L, HL.out⟩
    ·have hq1 : (doneV s != 0) = true := by simpa using hdn
     have hq2 : (doneV s == 0) = false := by simpa using hdn
     have hd := HD.out
     rw [if_pos hdn] at hd
     go_wp2_with fail
     go_ret2
     unfold DecEnd
     rw [hd]
     simp only
     rw [if_pos hdn]
     exact ⟨HB5.out, rfl⟩
  ·have hq1 : (vv != 1) = true := by simpa using h1
   have hq2 : (vv == 1) = false := by simpa using h1
   have hd : decR f = ([], 8) := by unfold decR; rw [if_neg (by rw [HVE.out]; simp), if_pos (by rw [HVV.out]; exact h1)]
   go_wp2_with fail
   go_ret2
   unfold DecEnd
   rw [hd]
   exact ⟨HB1.out, rfl⟩
 ·have hq1 : (ve != 0) = true := by simpa using he
  have hq2 : (ve == 0) = false := by simpa using he
  have hd : decR f = ([], ve) := by unfold decR; rw [HVE.out, if_pos he]
  go_wp2_with fail
  go_ret2
  unfold DecEnd
  rw [hd]
  simp only
  rw [if_pos he]
  exact ⟨HB1.out, rfl⟩
end Go.Proofs.Ytojhenpaeedimaa
