/-
  Encode of flags, the program's and the document's.
-/
import Derived.Test.YtiehmeheilfocaaPc
import Derived.Test.YtiehmeheilfocaaRg
import Derived.Test.YtiehmeheilfocaaQh
namespace Go.Proofs.Ytiehmeheilfocaa
open Go.RowKit Go.IntWalk
open Pk
set_option maxRecDepth 100000
attribute [local go_sem] Oper.semAt_some

theorem encF_len {l : List Bool} (hl : l.length ≤ 100000) : (encF l).length ≤ 10 * (l.length + 1) := by
  have h1 := encN_len (lens_lt (f := false) (l := l) (by omega))
  have h2 := lens_len false l
  unfold encF; omega
theorem lenI_at {l : List Bool} {k : Nat} {x : Int} (h : (lenI l)[k]? = some x) : ∃ n : Nat, x = (n : Int) ∧ (lens false l)[k]? = some n ∧ n ≤ l.length := by
  unfold lenI at h
  rw [List.getElem?_map] at h
  cases hx : (lens false l)[k]? with
  | none => rw [hx] at h; simp at h
  | some n =>
    rw [hx] at h
    simp at h
    exact ⟨n, h.symm, rfl, lens_le (List.mem_of_getElem? hx)⟩
theorem encN_take_len {r : List Nat} (h : LtN r) (k : Nat) : (encN (r.take k)).length ≤ 10 * r.length := by
  have h1 := encN_len (r := r.take k) (fun x hx => h x (List.mem_of_mem_take hx))
  rw [List.length_take] at h1
  omega

set_option maxHeartbeats 4000000 in
theorem fencode_c (A : Option Addr) (cap : Nat) (l : List Bool) (hx : l.length ≤ 100000) (w : World) (hc : At w w.heap.size A (bvs l)) :
    Calls Try.prog 19 #[.slice A l.length cap] w fun e w' => e = .returned (.string (ba (encF l))) ∧ Below w.heap.size w w' := by
  have hll := lenI_len l
  have HLT := Lib.hid (lens_lt (f := false) (l := l) (by omega))
  have HDL := Lib.hid (lens_len false l)
  have HC := Lib.hid hc
  unfold encF
  go_enter Try.func19, Try.ntmps19
  go_wp2_with fail
  have h0 : Below w.heap.size w (w.alloc (.cells #[.pointer none, .slice none 0 0] 65)) := (Below.refl _ _).alloc (Nat.le_refl _) _
  refine (lengths_c A cap l hx _ ((HC.out.below h0).mono (by simp))).mono ?_
  rintro e w1 ⟨A', cap', rfl, -, hfr, hat, hb1⟩
  have hbld0 := bld_grown (bld_new w w1.heap.size) hb1
  have hbb : But w1.heap.size w.heap.size w1 w1 := But.refl _ _ _
  rw [World.size_alloc] at hfr hb1
  have hb01 := h0.trans (hb1.mono (Nat.le_succ _))
  have hsz1 : w.heap.size < w1.heap.size := by have := hb1.size; simp at this; omega
  obtain ⟨D, hD⟩ : ∃ D, D = lenI l := ⟨_, rfl⟩
  have hdl2 : D.length ≤ 100001 := by rw [hD]; omega
  have hDl : D.length = (lens false l).length := by rw [hD]; unfold lenI; rw [List.length_map]
  rw [← hD] at hat ⊢
  have HD := Lib.hid hD
  have HAT := Lib.hid hat
  have HFR := Lib.hid hfr
  have HDE := Lib.hid hDl
  clear hD hat hfr h0 hb1 hc hll hDl
  go_wp2_with fail
  go_loopw [9] (fun i wr => ∃ k : Nat, i = .int .i64 (k : Int) ∧ k ≤ D.length ∧ Bld wr w1.heap.size w.heap.size (encN ((lens false l).take k)) ∧ But w1.heap.size w.heap.size w1 wr) (fun i _ => D.length - (intOf i).toNat)
  case atStart => exact ⟨0, rfl, Nat.zero_le _, hbld0, hbb⟩
  case round =>
    clear hbld0 hbb
    obtain ⟨k, rfl, hk, hbld, hbut⟩ := hrel
    by_cases hlt : k < D.length
    · obtain ⟨x, hxk⟩ := some_at hlt
      rw [HD.out] at hxk
      obtain ⟨n, rfl, hnk, hnl⟩ := lenI_at hxk
      have hnl2 : n ≤ 100000 := by omega
      obtain ⟨b, off, rfl, hbl, hcell0⟩ := HAT.out k _ (ivs_at (by rw [HD.out]; exact hxk))
      have hne : b ≠ w.heap.size := by have := HFR.out _ rfl; simp at this; omega
      have hcell : wr.cell? ⟨b, off + k, none⟩ = some (.int .i64 (n : Int)) := (but_cell hbut (p := ⟨b, off + k, none⟩) hbl hne).trans hcell0
      have hql := put_len10 (n := n) (by omega)
      have hde := encN_take_len HLT.out k
      have hdd := HDL.out
      have hle : (encN ((lens false l).take k)).length + (put n).length ≤ 140737488355328 := by omega
      have hws := hbut.size
      have hbR := bld_lt hbld
      have HX := Lib.hid hnk
      clear hcell0 hxk hql hde hdd hnk
      go_wp2_with fail
      refine (put_c n (by omega) _).mono ?_
      rintro e w4 ⟨rfl, hb4⟩
      have hbld4 := bld_grown hbld hb4
      have hbut4 := hbut.trans (but_below (b := w.heap.size) (hb4.mono hws))
      have hws4 : w1.heap.size ≤ w4.heap.size := hbut4.size
      clear hbld hbut hb4 hws hcell
      go_wp2_with fail
      refine (write_c w1.heap.size w.heap.size _ (put n) _ hbld4 hle hws4).mono ?_
      rintro e w5 ⟨rfl, hbld5, hbut5⟩
      have hbut6 := hbut4.trans hbut5
      clear hbld4 hbut4 hbut5 hws4
      go_wp2_with fail
      go_roundw
      case rel => exact ⟨k + 1, by go_num, by omega, by rw [encN_take HX.out]; exact hbld5, hbut6⟩
      case measure => simp only [intOf]; omega
    · obtain rfl : k = D.length := by omega
      rw [HDE.out, List.take_length] at hbld
      go_wp2_with fail
      refine (string_c w1.heap.size w.heap.size w.heap.size _ _ hbld (Nat.le_of_lt hsz1) (Nat.le_refl _)).mono ?_
      rintro e w3 ⟨rfl, hb3⟩
      go_wp2
      go_ret
      exact ⟨rfl, (hb01.trans (hbut.below (Nat.le_of_lt hsz1) (Nat.le_refl _))).trans hb3⟩

set_option maxHeartbeats 4000000 in
theorem frencode_c (A : Option Addr) (cap : Nat) (l : List Bool) (hx : l.length ≤ 100000) (w : World) (hc : At w w.heap.size A (bvs l)) :
    Calls Try.prog 20 #[.slice A l.length cap] w fun e w' => e = .returned (.string (ba (encF l))) ∧ Below w.heap.size w w' := by
  have hll := lenI_len l
  have HLT := Lib.hid (lens_lt (f := false) (l := l) (by omega))
  have HDL := Lib.hid (lens_len false l)
  have HC := Lib.hid hc
  unfold encF
  go_enter Try.func20, Try.ntmps20
  go_wp2_with fail
  refine (rlengths_c A cap l hx _ HC.out).mono ?_
  rintro e w1 ⟨A', cap', rfl, -, -, hat, hb1⟩
  obtain ⟨D, hD⟩ : ∃ D, D = lenI l := ⟨_, rfl⟩
  have hdl2 : D.length ≤ 100001 := by rw [hD]; omega
  have hDl : D.length = (lens false l).length := by rw [hD]; unfold lenI; rw [List.length_map]
  rw [← hD] at hat ⊢
  have HD := Lib.hid hD
  have HAT := Lib.hid hat
  have HDE := Lib.hid hDl
  clear hD hat hc hll hDl
  go_wp2_with fail
  go_loopw [4, 5] (fun s i wr => ∃ k : Nat, s = .string (ba (encN ((lens false l).take k))) ∧ i = .int .i64 (k : Int) ∧ k ≤ D.length ∧ Below w1.heap.size w1 wr) (fun _ i _ => D.length - (intOf i).toNat)
  case atStart => exact ⟨0, rfl, rfl, Nat.zero_le _, Below.refl _ _⟩
  case round =>
    obtain ⟨k, rfl, rfl, hk, hb⟩ := hrel
    by_cases hlt : k < D.length
    · obtain ⟨x, hxk⟩ := some_at hlt
      rw [HD.out] at hxk
      obtain ⟨n, rfl, hnk, hnl⟩ := lenI_at hxk
      have hnl2 : n ≤ 100000 := by omega
      have hqw : IntKind.u64.wrap (n : Int) = (n : Int) := by rw [IntKind.wrap_u64]; omega
      obtain ⟨b, off, rfl, hbl, hcell⟩ := (HAT.out.below hb) k _ (ivs_at (by rw [HD.out]; exact hxk))
      have hql := put_len10 (n := n) (by omega)
      have hde := encN_take_len HLT.out k
      have hdd := HDL.out
      have hadd := add_ba (encN ((lens false l).take k)) (put n) (by omega)
      have HX := Lib.hid hnk
      have HNL := Lib.hid (show n < 18446744073709551616 by omega)
      clear hxk hql hde hdd hnk
      go_wp2_with fail
      refine (rPut_c n HNL.out _).mono ?_
      rintro e w2 ⟨rfl, hm⟩
      have hb2 := hb.trans (hm.mono hb.size)
      clear hm hb hcell
      go_wp2_with fail
      go_roundw
      case rel => exact ⟨k + 1, by rw [encN_take HX.out], by go_num, by omega, hb2⟩
      case measure => simp only [intOf]; omega
    · obtain rfl : k = D.length := by omega
      have hdr : (lens false l).take D.length = lens false l := by rw [HDE.out, List.take_length]
      rw [hdr]
      go_wp2_with fail
      go_ret
      exact ⟨rfl, hb1.trans (hb.mono hb1.size)⟩
end Go.Proofs.Ytiehmeheilfocaa
