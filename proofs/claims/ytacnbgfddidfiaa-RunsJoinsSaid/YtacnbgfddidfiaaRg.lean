/-
  The document's Rising; Encode and the document's.
-/
import Derived.Test.YtacnbgfddidfiaaRe
import Derived.Test.YtacnbgfddidfiaaBs
import Derived.Test.YtacnbgfddidfiaaBb
import Derived.Test.YtacnbgfddidfiaaBc
namespace Go.Proofs.Ytacnbgfddidfiaa
open Go.RowKit Go.IntWalk
open Pk
set_option maxRecDepth 100000

theorem but_cell {B b : Nat} {w w' : World} (h : But B b w w') {p : Addr} (hp : p.block < B) (hne : p.block ≠ b) : w'.cell? p = w.cell? p := World.cell?_of_block (h.block _ hp hne)

theorem rrising_c (A : Option Addr) (cap : Nat) (xs : List Int) (hx : xs.length ≤ 100000) (w : World) (hc : At w w.heap.size A (ivs xs)) :
    Calls Try.prog 22 #[.slice A xs.length cap] w fun e w' => e = .returned (.bool (rises xs)) ∧ Below w.heap.size w w' := by
  have HC := Lib.hid hc
  clear hc
  go_enter Try.func22, Try.ntmps22
  go_wp2
  go_loopw [3] (fun i wr => ∃ k : Nat, i = .int .i64 ((k : Int) + 1) ∧ (k < xs.length ∨ k = 0) ∧ (∀ a, xs[k]? = some a → rs a (xs.drop (k + 1)) = rises xs) ∧ Below w.heap.size w wr)
    (fun i _ => xs.length - (intOf i).toNat)
  case atStart =>
    refine ⟨0, rfl, .inr rfl, fun a ha => ?_, Below.refl _ _⟩
    cases xs with
    | nil => simp at ha
    | cons x l => simp at ha; subst ha; rfl
  case round =>
    obtain ⟨k, rfl, hk, heq, hb⟩ := hrel
    have HE := Lib.hid heq
    clear heq
    by_cases hlt : k + 1 < xs.length
    · obtain ⟨x, hxk⟩ := some_at (show k < xs.length by omega)
      obtain ⟨y, hyk⟩ := some_at hlt
      obtain ⟨b, off, rfl, hbl, hcell⟩ := (HC.out.below hb) k _ (ivs_at hxk)
      obtain ⟨b', off', hbe, _, hcell2⟩ := (HC.out.below hb) (k + 1) _ (ivs_at hyk)
      cases hbe
      have hee := HE.out x hxk
      rw [drop_at_cons hyk] at hee
      have HEE := Lib.hid hee
      have HX := Lib.hid hxk
      have HY := Lib.hid hyk
      have hi1 : (k : Int) + 1 < (xs.length : Int) := by omega
      have hi0 : (0 : Int) ≤ (k : Int) + 1 := by omega
      have hk1 : k < xs.length := by omega
      clear hxk hyk hee
      by_cases hge : y ≤ x
      · go_wp2
        go_quiet (fail)
        go_wp2
        go_ret
        refine ⟨ret_bool ?_, below_drewN hb _⟩
        rw [← HEE.out]
        have : ¬ x < y := by omega
        simp [rs, this]
      · go_wp2
        go_quiet (fail)
        go_wp2
        go_roundw
        case rel =>
          refine ⟨k + 1, by go_num, .inl hlt, fun a ha => ?_, below_drewN hb _⟩
          have e : a = y := by have := HY.out.symm.trans ha; injection this with this; exact this.symm
          subst e
          have : x < a := by omega
          rw [← HEE.out, rs]
          simp [this]
        case measure => simp only [intOf]; omega
    · go_wp2
      go_ret
      refine ⟨ret_bool ?_, hb⟩
      rcases hk with hk | hk
      · obtain ⟨x, hxk⟩ := some_at hk
        have h := HE.out x hxk
        rw [List.drop_of_length_le (by omega)] at h
        rw [← h]; rfl
      · subst hk
        cases xs with
        | nil => rfl
        | cons x l =>
          cases l with
          | nil => rfl
          | cons y l => simp at hlt

set_option maxHeartbeats 2000000 in
theorem encode_c (A : Option Addr) (cap : Nat) (xs : List Int) (hx : xs.length ≤ 100000) (w : World) (hc : At w w.heap.size A (ivs xs)) :
    Calls Try.prog 19 #[.slice A xs.length cap] w fun e w' => e = .returned (.string (ba (encL xs))) ∧ Below w.heap.size w w' := by
  have hdi := dl_in 0 xs
  have hdl := dl_len 0 xs
  have hel := (encL_len xs).2
  unfold encL at hel ⊢
  have HC := Lib.hid hc
  have HDI := Lib.hid hdi
  clear hc hdi
  go_enter Try.func19, Try.ntmps19
  go_wp2_with fail
  have h0 : Below w.heap.size w (w.alloc (.cells #[.pointer none, .slice none 0 0] 59)) := (Below.refl _ _).alloc (Nat.le_refl _) _
  refine (deltas_c A cap xs hx _ ((HC.out.below h0).mono (by simp))).mono ?_
  rintro e w1 ⟨A', cap', rfl, -, hfr, hat, hb1⟩
  have hbld0 := bld_grown (bld_new w w1.heap.size) hb1
  have hbb : But w1.heap.size w.heap.size w1 w1 := But.refl _ _ _
  rw [World.size_alloc] at hfr hb1
  have hb01 := h0.trans (hb1.mono (Nat.le_succ _))
  have hsz1 : w.heap.size < w1.heap.size := by have := hb1.size; simp at this; omega
  obtain ⟨D, hD⟩ : ∃ D, D = dl 0 xs := ⟨_, rfl⟩
  have hdl2 : D.length = xs.length := by rw [hD]; exact hdl
  rw [← hD] at hat HDI hel
  have HD := Lib.hid hD
  have HAT := Lib.hid hat
  have HFR := Lib.hid hfr
  have HEL := Lib.hid hel
  have HDL := Lib.hid hdl2
  clear hD hat hfr hel hdl hdl2 h0 hb1
  go_wp2_with fail
  go_loopw [9] (fun i wr => ∃ k : Nat, i = .int .i64 (k : Int) ∧ k ≤ xs.length ∧ Bld wr w1.heap.size w.heap.size (encD (D.take k)) ∧ But w1.heap.size w.heap.size w1 wr) (fun i _ => xs.length - (intOf i).toNat)
  case atStart => exact ⟨0, rfl, Nat.zero_le _, hbld0, hbb⟩
  case round =>
    clear hbld0 hbb
    obtain ⟨k, rfl, hk, hbld, hbut⟩ := hrel
    by_cases hlt : k < xs.length
    · obtain ⟨x, hxk⟩ := some_at (show k < D.length by rw [HDL.out]; exact hlt)
      obtain ⟨b, off, rfl, hbl, hcell⟩ := HAT.out k _ (ivs_at hxk)
      have hne : b ≠ w.heap.size := by have := HFR.out _ rfl; simp at this; omega
      have hcell2 : wr.cell? ⟨b, off + k, none⟩ = some (.int .i64 x) := (but_cell hbut (p := ⟨b, off + k, none⟩) hbl hne).trans hcell
      have hx64 := HDI.out x (mem_at hxk)
      have hzl := zig_lt hx64.1 (by have := hx64.2; omega)
      obtain ⟨hx1, hx2⟩ := hx64
      have hpl := put_len10 hzl
      have hde := (encD_len (D.take k) (fun y hy => HDI.out y (List.mem_of_mem_take hy))).2
      rw [List.length_take] at hde
      have hle : (encD (D.take k)).length + (put (zig x)).length ≤ 140737488355328 := by omega
      have hws := hbut.size
      have HX := Lib.hid hxk
      clear hcell hxk hpl hde
      go_wp2_with fail
      refine (zig_c x hx1 (by omega) _).mono ?_
      rintro e wz ⟨rfl, rfl⟩
      go_wp2_with fail
      refine (put_c (zig x) hzl _).mono ?_
      rintro e w2 ⟨rfl, hb2⟩
      have hbld2 := bld_grown hbld hb2
      have hbut2 := hbut.trans (but_below (b := w.heap.size) (hb2.mono hws))
      have hws2 := Nat.le_trans hws hb2.size
      clear hbld hbut hb2 hcell2
      go_wp2_with fail
      refine (write_c w1.heap.size w.heap.size _ (put (zig x)) _ hbld2 hle hws2).mono ?_
      rintro e w3 ⟨rfl, hbld3, hbut3⟩
      have hbut4 := hbut2.trans hbut3
      clear hbld2 hbut2 hbut3
      go_wp2_with fail
      go_roundw
      case rel => exact ⟨k + 1, by go_num, by omega, by rw [List.take_add_one, HX.out]; simpa [encD] using hbld3, hbut4⟩
      case measure => simp only [intOf]; omega
    · obtain rfl : k = xs.length := by omega
      rw [← HDL.out, List.take_length] at hbld
      go_wp2_with fail
      refine (string_c w1.heap.size w.heap.size w.heap.size _ _ hbld (Nat.le_of_lt hsz1) (Nat.le_refl _)).mono ?_
      rintro e w3 ⟨rfl, hb3⟩
      go_wp2
      go_ret
      rw [← HD.out]
      exact ⟨rfl, (hb01.trans (hbut.below (Nat.le_of_lt hsz1) (Nat.le_refl _))).trans hb3⟩
theorem ba_append (a b : List UInt8) : ba a ++ ba b = ba (a ++ b) := by
  apply ByteArray.ext
  simp [ba]
theorem add_ba (a b : List UInt8) (h : a.length + b.length ≤ 9223372036854775807) (w : World) : (Op.stringOp .add (ba a) (ba b)).run Try.prog w = .ok (.string (ba (a ++ b))) w := by
  rw [run_string_add_sum w (ba a) (ba b) (by rw [ba_size, ba_size]; exact h), ba_append]

set_option maxHeartbeats 2000000 in
theorem rencode_c (A : Option Addr) (cap : Nat) (xs : List Int) (hx : xs.length ≤ 100000) (hxi : Ints xs) (w : World) (hc : At w w.heap.size A (ivs xs)) :
    Calls Try.prog 20 #[.slice A xs.length cap] w fun e w' => e = .returned (.string (ba (encL xs))) ∧ Below w.heap.size w w' := by
  have hdi := dl_in 0 xs
  have hdl := dl_len 0 xs
  have hel := (encL_len xs).2
  unfold encL at hel ⊢
  have HC := Lib.hid hc
  have HDI := Lib.hid hdi
  have HXI := Lib.hid hxi
  clear hc hdi hxi
  go_enter Try.func20, Try.ntmps20
  go_wp2_with fail
  refine (rdeltas_c A cap xs hx HXI.out _ HC.out).mono ?_
  rintro e w1 ⟨A', cap', rfl, -, -, hat, hb1⟩
  obtain ⟨D, hD⟩ : ∃ D, D = dl 0 xs := ⟨_, rfl⟩
  have hdl2 : D.length = xs.length := by rw [hD]; exact hdl
  rw [← hD] at hat HDI hel
  have HD := Lib.hid hD
  have HAT := Lib.hid hat
  have HDL := Lib.hid hdl2
  clear hD hat hel hdl hdl2
  go_wp2_with fail
  go_loopw [4, 5] (fun s i wr => ∃ k : Nat, s = .string (ba (encD (D.take k))) ∧ i = .int .i64 (k : Int) ∧ k ≤ xs.length ∧ Below w1.heap.size w1 wr) (fun _ i _ => xs.length - (intOf i).toNat)
  case atStart => exact ⟨0, rfl, rfl, Nat.zero_le _, Below.refl _ _⟩
  case round =>
    obtain ⟨k, rfl, rfl, hk, hb⟩ := hrel
    by_cases hlt : k < xs.length
    · obtain ⟨x, hxk⟩ := some_at (show k < D.length by rw [HDL.out]; exact hlt)
      obtain ⟨b, off, rfl, hbl, hcell⟩ := (HAT.out.below hb) k _ (ivs_at hxk)
      have hx64 := HDI.out x (mem_at hxk)
      have hzl := zig_lt hx64.1 (by have := hx64.2; omega)
      obtain ⟨hx1, hx2⟩ := hx64
      have hpl := put_len10 hzl
      have hde := (encD_len (D.take k) (fun y hy => HDI.out y (List.mem_of_mem_take hy))).2
      rw [List.length_take] at hde
      have hadd := add_ba (encD (D.take k)) (put (zig x)) (by omega)
      have HX := Lib.hid hxk
      clear hxk hpl hde
      go_wp2_with fail
      refine (rZig_c x hx1 (by omega) _).mono ?_
      rintro e wz ⟨rfl, rfl⟩
      go_wp2_with fail
      refine (rPut_c (zig x) hzl _).mono ?_
      rintro e w2 ⟨rfl, hb2⟩
      have hb3 := hb.trans (hb2.mono hb.size)
      clear hb hb2 hcell
      go_wp2_with fail
      go_roundw
      case rel => exact ⟨k + 1, by rw [List.take_add_one, HX.out]; simp [encD], by go_num, by omega, hb3⟩
      case measure => simp only [intOf]; omega
    · obtain rfl : k = xs.length := by omega
      rw [← HDL.out, List.take_length]
      go_wp2_with fail
      go_ret
      rw [← HD.out]
      exact ⟨rfl, hb1.trans (hb.mono hb1.size)⟩
end Go.Proofs.Ytacnbgfddidfiaa
