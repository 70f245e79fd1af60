/-
  Moves united: the program's, and the document's.
-/
import Derived.Test.YtihaiabkjmmmoaaUm
namespace Go.Proofs.Ytihaiabkjmmmoaa
open Go.RowKit Go.IntWalk
open Wd Fl
set_option maxRecDepth 100000
attribute [local go_sem] Oper.semAt_some

theorem uniM_step {a b : List Mv} {k : Nat} {m : Mv} (h : b[k]? = some m) : uniM a (b.take (k + 1)) = (insM (uniM a (b.take k)) m).1 := by
  unfold uniM
  rw [List.take_add_one, h, List.foldl_append]
  rfl

set_option maxHeartbeats 4000000 in
theorem muni_c (A1 A2 : Option Addr) (c1 c2 : Nat) (a b : List Mv) (hl : a.length + b.length ≤ 100000) (hA : A1 = none → c1 = 0) (hcap : a.length ≤ c1) (w : World) (h1 : At w w.heap.size A1 (mvs a)) (h2 : At w w.heap.size A2 (mvs b)) :
    Calls Try.prog 27 #[.slice A1 a.length c1, .slice A2 b.length c2] w (ToldM (uniM a b) w) := by
  have H1 := Lib.hid h1
  have H2 := Lib.hid h2
  have HA := Lib.hid hA
  clear h1 h2 hA
  go_enter Try.func27, Try.ntmps27
  go_wp2_with fail
  go_loopw [0, 9] (fun v i wr => ∃ (k : Nat) (Av : Option Addr) (cv : Nat), i = .int .i64 (k : Int) ∧ v = .slice Av (uniM a (b.take k)).length cv ∧ k ≤ b.length ∧ At wr wr.heap.size Av (mvs (uniM a (b.take k))) ∧ (Av = none → cv = 0) ∧ (uniM a (b.take k)).length ≤ cv ∧ Below w.heap.size w wr) (fun _ i _ => b.length - (intOf i).toNat)
  case atStart => exact ⟨0, A1, c1, rfl, rfl, Nat.zero_le _, H1.out, HA.out, hcap, Below.refl _ _⟩
  case round =>
    obtain ⟨k, Av, cv, rfl, rfl, hk, hat, hav, hcv, hbw⟩ := hrel
    have HAT := Lib.hid hat
    have HAV := Lib.hid hav
    clear hat hav
    by_cases hlt : k < b.length
    · obtain ⟨m, hm⟩ := some_at hlt
      obtain ⟨b0, o0, rfl, hb0, d0, d1, d2, d3, d4, d5⟩ := move_cells (H2.out.keep hbw) hm
      have hki : (0 : Int) ≤ (k : Int) := by omega
      have hkl : (k : Int) < (b.length : Int) := by omega
      have hst := uniM_step (a := a) hm
      have hul := uniM_len (b.take k) a
      rw [List.length_take] at hul
      obtain ⟨U, hU⟩ : ∃ U, uniM a (b.take k) = U := ⟨_, rfl⟩
      rw [hU] at hst hul hcv ⊢
      have hat := HAT.out
      rw [hU] at hat
      have hb1 := (Below.refl wr.heap.size wr).alloc (Nat.le_refl _) (.cells #[.int .i64 (mc m), .int .i64 (mr m), .int .i64 (pa (mw m)), .int .i64 (ch (mw m)), .string (ba (nm (mw m))), .float .f64 (rk (mw m))] 30)
      have hins := minsert_c Av cv U m (by omega) HAV.out hcv _ (hat.keep hb1)
      have HINS := Lib.hid hins
      have HST := Lib.hid hst
      clear hm hst hins hat HAT hU
      go_wp2_with fail
      refine HINS.out.mono ?_
      rintro e w1 ⟨A3, c3, rfl, ha3, hn3, hc3, hb3⟩
      have hbr : Below wr.heap.size wr w1 := hb1.trans (hb3.mono (by simp))
      have hbw1 := hbw.trans (hbr.mono hbw.size)
      have HA3 := Lib.hid ha3
      have HN3 := Lib.hid hn3
      have HC3 := Lib.hid hc3
      clear ha3 hn3 hc3 hb3
      go_wp2_with fail
      go_roundw
      case rel => exact ⟨k + 1, A3, c3, by go_num, by rw [HST.out], by omega, by rw [HST.out]; exact HA3.out, HN3.out, by rw [HST.out]; exact HC3.out, hbw1⟩
      case measure => simp only [intOf]; omega
    · obtain rfl : k = b.length := by omega
      have hat := HAT.out
      rw [List.take_length] at hat hcv ⊢
      have HAT2 := Lib.hid hat
      have HCV := Lib.hid hcv
      clear hat HAT hcv
      go_wp2_with fail
      go_ret
      exact ⟨Av, cv, rfl, HAT2.out, HAV.out, HCV.out, hbw⟩

set_option maxHeartbeats 4000000 in
theorem rmuni_c (A1 A2 : Option Addr) (c1 c2 : Nat) (a b : List Mv) (hl : a.length + b.length ≤ 100000) (hA : A1 = none → c1 = 0) (hcap : a.length ≤ c1) (w : World) (h1 : At w w.heap.size A1 (mvs a)) (h2 : At w w.heap.size A2 (mvs b)) :
    Calls Try.prog 28 #[.slice A1 a.length c1, .slice A2 b.length c2] w (ToldM (uniM a b) w) := by
  have H1 := Lib.hid h1
  have H2 := Lib.hid h2
  have HA := Lib.hid hA
  clear h1 h2 hA
  go_enter Try.func28, Try.ntmps28
  go_wp2_with fail
  go_loopw [5, 6] (fun v i wr => ∃ (k : Nat) (Av : Option Addr) (cv : Nat), i = .int .i64 (k : Int) ∧ v = .slice Av (uniM a (b.take k)).length cv ∧ k ≤ b.length ∧ At wr wr.heap.size Av (mvs (uniM a (b.take k))) ∧ (Av = none → cv = 0) ∧ (uniM a (b.take k)).length ≤ cv ∧ Below w.heap.size w wr) (fun _ i _ => b.length - (intOf i).toNat)
  case atStart => exact ⟨0, A1, c1, rfl, rfl, Nat.zero_le _, H1.out, HA.out, hcap, Below.refl _ _⟩
  case round =>
    obtain ⟨k, Av, cv, rfl, rfl, hk, hat, hav, hcv, hbw⟩ := hrel
    have HAT := Lib.hid hat
    have HAV := Lib.hid hav
    clear hat hav
    by_cases hlt : k < b.length
    · obtain ⟨m, hm⟩ := some_at hlt
      obtain ⟨b0, o0, rfl, hb0, d0, d1, d2, d3, d4, d5⟩ := move_cells (H2.out.keep hbw) hm
      have hki : (0 : Int) ≤ (k : Int) := by omega
      have hkl : (k : Int) < (b.length : Int) := by omega
      have hst := uniM_step (a := a) hm
      have hul := uniM_len (b.take k) a
      rw [List.length_take] at hul
      obtain ⟨U, hU⟩ : ∃ U, uniM a (b.take k) = U := ⟨_, rfl⟩
      rw [hU] at hst hul hcv ⊢
      have hat := HAT.out
      rw [hU] at hat
      have hins := rminsert_c Av cv U m (by omega) HAV.out hcv _ hat
      have HINS := Lib.hid hins
      have HST := Lib.hid hst
      clear hm hst hins hat HAT hU
      go_wp2_with fail
      refine HINS.out.mono ?_
      rintro e w1 ⟨A3, c3, rfl, ha3, hn3, hc3, hb3⟩
      have hbw1 := hbw.trans (hb3.mono hbw.size)
      have HA3 := Lib.hid ha3
      have HN3 := Lib.hid hn3
      have HC3 := Lib.hid hc3
      clear ha3 hn3 hc3 hb3
      go_wp2_with fail
      go_roundw
      case rel => exact ⟨k + 1, A3, c3, by go_num, by rw [HST.out], by omega, by rw [HST.out]; exact HA3.out, HN3.out, by rw [HST.out]; exact HC3.out, hbw1⟩
      case measure => simp only [intOf]; omega
    · obtain rfl : k = b.length := by omega
      have hat := HAT.out
      rw [List.take_length] at hat hcv ⊢
      have HAT2 := Lib.hid hat
      have HCV := Lib.hid hcv
      clear hat HAT hcv
      go_wp2_with fail
      go_ret
      exact ⟨Av, cv, rfl, HAT2.out, HAV.out, HCV.out, hbw⟩
end Go.Proofs.Ytihaiabkjmmmoaa
