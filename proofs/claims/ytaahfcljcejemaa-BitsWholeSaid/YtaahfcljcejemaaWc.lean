/-
  The walk of BitsOrder.
-/
import Derived.Test.YtaahfcljcejemaaWb
namespace Go.Proofs.Ytaahfcljcejemaa
open Go.RowKit
open Fl
set_option maxRecDepth 100000

namespace bitsOrder
theorem walk_nan (f g : Nat) (hf : f < 18446744073709551616) (hg : g < 18446744073709551616) (h : nn f = true ∨ (nn f = false ∧ nn g = true)) (w : World) :
    Calls Try.prog 5 #[.float .f64 f, .float .f64 g] w fun e w' => e = .returned (.bool true) ∧ Below w.heap.size w w' := by
  have h1 := o_self f hf
  have h2 := o_self g hg
  rcases h with h | ⟨h, h'⟩
  · rw [h] at h1
    go_enter Try.func5, Try.ntmps5
    go_wp2_with fail
    refine (live_c _).mono ?_
    rintro e w5 ⟨rfl, hb5⟩
    go_wp2
    go_ret
    exact ⟨rfl, hb5⟩
  · rw [h] at h1
    rw [h'] at h2
    go_enter Try.func5, Try.ntmps5
    go_wp2_with fail
    refine (live_c _).mono ?_
    rintro e w5 ⟨rfl, hb5⟩
    go_wp2
    go_ret
    exact ⟨rfl, hb5⟩

theorem minus_num {x : Nat} {b : Bool} (hn : nn x = false) (hg : ng x = b) : (!nn x && ng x) = b := by rw [hn, hg]; rfl

set_option maxHeartbeats 1000000 in
theorem walk_tf (f g : Nat) (hf : f < 18446744073709551616) (hg : g < 18446744073709551616) (nf : nn f = false) (nG : nn g = false) (sf : ng f = true) (sg : ng g = false) (w : World) :
    Calls Try.prog 5 #[.float .f64 f, .float .f64 g] w fun e w' => e = .returned (.bool true) ∧ Below w.heap.size w w' := by
  have h1 := o_self f hf
  have h2 := o_self g hg
  rw [nf] at h1
  rw [nG] at h2
  obtain ⟨hN, nN, sN, hxor⟩ := neg_facts f hf nf
  rw [sf] at sN
  have k1 : decide (g < f) = true := decide_eq_true (by have := ng_true.1 sf; have := ng_false.1 sg; omega)
  have k2 := o_le f g hf hg nf nG
  rw [decide_eq_true (show vl f ≤ vl g from by rw [vl_neg sf, vl_pos sg]; have := ng_true.1 sf; omega)] at k2
  have SF := Lib.hid sf
  have SG := Lib.hid sg
  have SN := Lib.hid sN
  clear sf sg sN
  go_enter Try.func5, Try.ntmps5
  go_wp2_with fail
  refine (bits_c f hf _).mono ?_
  rintro e w1 ⟨rfl, hb1⟩
  rw [cb_num nf]
  go_wp2_with fail
  refine (bits_c g hg _).mono ?_
  rintro e w2 ⟨rfl, hb2⟩
  rw [cb_num nG]
  go_wp2_with fail
  refine (bits_c (Op.negFloat .f64 f) hN _).mono ?_
  rintro e w3 ⟨rfl, hb3⟩
  rw [cb_num nN]
  go_wp2_with fail
  refine (minus_c f hf _).mono ?_
  rintro e wz ⟨rfl, rfl⟩
  rw [minus_num nf SF.out]
  go_wp2_with fail
  refine (minus_c (Op.negFloat .f64 f) hN _).mono ?_
  rintro e wz ⟨rfl, rfl⟩
  rw [minus_num nN SN.out]
  go_wp2_with fail
  refine (minus_c f hf _).mono ?_
  rintro e wz ⟨rfl, rfl⟩
  rw [minus_num nf SF.out]
  go_wp2_with fail
  refine (minus_c g hg _).mono ?_
  rintro e wz ⟨rfl, rfl⟩
  rw [minus_num nG SG.out]
  go_wp2_with fail
  refine (minus_c f hf _).mono ?_
  rintro e wz ⟨rfl, rfl⟩
  rw [minus_num nf SF.out]
  go_wp2_with fail
  refine (minus_c f hf _).mono ?_
  rintro e wz ⟨rfl, rfl⟩
  rw [minus_num nf SF.out]
  go_wp2_with fail
  refine (live_c _).mono ?_
  rintro e w4 ⟨rfl, hb4⟩
  go_wp2
  go_ret
  have c2 := hb1.trans (hb2.mono hb1.size)
  have c3 := c2.trans (hb3.mono c2.size)
  exact ⟨rfl, c3.trans (hb4.mono c3.size)⟩

set_option maxHeartbeats 1000000 in
theorem walk_ft0 (f g : Nat) (hf : f < 18446744073709551616) (hg : g < 18446744073709551616) (nf : nn f = false) (nG : nn g = false) (sf : ng f = false) (sg : ng g = true) (hz : mg f ≠ 0) (w : World) :
    Calls Try.prog 5 #[.float .f64 f, .float .f64 g] w fun e w' => e = .returned (.bool true) ∧ Below w.heap.size w w' := by
  have h1 := o_self f hf
  have h2 := o_self g hg
  rw [nf] at h1
  rw [nG] at h2
  obtain ⟨hN, nN, sN, hxor⟩ := neg_facts f hf nf
  rw [sf] at sN
  have k1 : decide (g < f) = false := decide_eq_false (by have := ng_true.1 sg; have := ng_false.1 sf; omega)
  have k2 := o_le f g hf hg nf nG
  have hmg : mg f = f := Nat.mod_eq_of_lt (ng_false.1 sf)
  rw [decide_eq_false (show ¬ vl f ≤ vl g from by rw [vl_neg sg, vl_pos sf]; have := ng_true.1 sg; omega)] at k2
  have k3 := o_zero f hf nf
  rw [decide_eq_false hz] at k3
  clear hmg
  have SF := Lib.hid sf
  have SG := Lib.hid sg
  have SN := Lib.hid sN
  clear sf sg sN
  go_enter Try.func5, Try.ntmps5
  go_wp2_with fail
  refine (bits_c f hf _).mono ?_
  rintro e w1 ⟨rfl, hb1⟩
  rw [cb_num nf]
  go_wp2_with fail
  refine (bits_c g hg _).mono ?_
  rintro e w2 ⟨rfl, hb2⟩
  rw [cb_num nG]
  go_wp2_with fail
  refine (bits_c (Op.negFloat .f64 f) hN _).mono ?_
  rintro e w3 ⟨rfl, hb3⟩
  rw [cb_num nN]
  go_wp2_with fail
  refine (minus_c f hf _).mono ?_
  rintro e wz ⟨rfl, rfl⟩
  rw [minus_num nf SF.out]
  go_wp2_with fail
  refine (minus_c (Op.negFloat .f64 f) hN _).mono ?_
  rintro e wz ⟨rfl, rfl⟩
  rw [minus_num nN SN.out]
  go_wp2_with fail
  refine (minus_c f hf _).mono ?_
  rintro e wz ⟨rfl, rfl⟩
  rw [minus_num nf SF.out]
  go_wp2_with fail
  refine (minus_c g hg _).mono ?_
  rintro e wz ⟨rfl, rfl⟩
  rw [minus_num nG SG.out]
  go_wp2_with fail
  refine (minus_c f hf _).mono ?_
  rintro e wz ⟨rfl, rfl⟩
  rw [minus_num nf SF.out]
  go_wp2_with fail
  refine (minus_c f hf _).mono ?_
  rintro e wz ⟨rfl, rfl⟩
  rw [minus_num nf SF.out]
  go_wp2_with fail
  refine (live_c _).mono ?_
  rintro e w4 ⟨rfl, hb4⟩
  go_wp2
  go_ret
  have c2 := hb1.trans (hb2.mono hb1.size)
  have c3 := c2.trans (hb3.mono c2.size)
  exact ⟨rfl, c3.trans (hb4.mono c3.size)⟩

set_option maxHeartbeats 1000000 in
theorem walk_ft1 (f g : Nat) (hf : f < 18446744073709551616) (hg : g < 18446744073709551616) (nf : nn f = false) (nG : nn g = false) (sf : ng f = false) (sg : ng g = true) (hz : mg f = 0) (hy : mg g ≠ 0) (w : World) :
    Calls Try.prog 5 #[.float .f64 f, .float .f64 g] w fun e w' => e = .returned (.bool true) ∧ Below w.heap.size w w' := by
  have h1 := o_self f hf
  have h2 := o_self g hg
  rw [nf] at h1
  rw [nG] at h2
  obtain ⟨hN, nN, sN, hxor⟩ := neg_facts f hf nf
  rw [sf] at sN
  have k1 : decide (g < f) = false := decide_eq_false (by have := ng_true.1 sg; have := ng_false.1 sf; omega)
  have k2 := o_le f g hf hg nf nG
  have hmg : mg f = f := Nat.mod_eq_of_lt (ng_false.1 sf)
  have hmy : mg g = g % 9223372036854775808 := rfl
  rw [decide_eq_false (show ¬ vl f ≤ vl g from by rw [vl_neg sg, vl_pos sf]; have := ng_true.1 sg; omega)] at k2
  have k3 := o_zero f hf nf
  rw [decide_eq_true hz] at k3
  have k4 := o_zero g hg nG
  rw [decide_eq_false hy] at k4
  clear hmg hmy hz
  have SF := Lib.hid sf
  have SG := Lib.hid sg
  have SN := Lib.hid sN
  clear sf sg sN
  go_enter Try.func5, Try.ntmps5
  go_wp2_with fail
  refine (bits_c f hf _).mono ?_
  rintro e w1 ⟨rfl, hb1⟩
  rw [cb_num nf]
  go_wp2_with fail
  refine (bits_c g hg _).mono ?_
  rintro e w2 ⟨rfl, hb2⟩
  rw [cb_num nG]
  go_wp2_with fail
  refine (bits_c (Op.negFloat .f64 f) hN _).mono ?_
  rintro e w3 ⟨rfl, hb3⟩
  rw [cb_num nN]
  go_wp2_with fail
  refine (minus_c f hf _).mono ?_
  rintro e wz ⟨rfl, rfl⟩
  rw [minus_num nf SF.out]
  go_wp2_with fail
  refine (minus_c (Op.negFloat .f64 f) hN _).mono ?_
  rintro e wz ⟨rfl, rfl⟩
  rw [minus_num nN SN.out]
  go_wp2_with fail
  refine (minus_c f hf _).mono ?_
  rintro e wz ⟨rfl, rfl⟩
  rw [minus_num nf SF.out]
  go_wp2_with fail
  refine (minus_c g hg _).mono ?_
  rintro e wz ⟨rfl, rfl⟩
  rw [minus_num nG SG.out]
  go_wp2_with fail
  refine (minus_c f hf _).mono ?_
  rintro e wz ⟨rfl, rfl⟩
  rw [minus_num nf SF.out]
  go_wp2_with fail
  refine (minus_c f hf _).mono ?_
  rintro e wz ⟨rfl, rfl⟩
  rw [minus_num nf SF.out]
  go_wp2_with fail
  refine (live_c _).mono ?_
  rintro e w4 ⟨rfl, hb4⟩
  go_wp2
  go_ret
  have c2 := hb1.trans (hb2.mono hb1.size)
  have c3 := c2.trans (hb3.mono c2.size)
  exact ⟨rfl, c3.trans (hb4.mono c3.size)⟩

set_option maxHeartbeats 1000000 in
theorem walk_ft2 (f g : Nat) (hf : f < 18446744073709551616) (hg : g < 18446744073709551616) (nf : nn f = false) (nG : nn g = false) (sf : ng f = false) (sg : ng g = true) (hz : mg f = 0) (hy : mg g = 0) (w : World) :
    Calls Try.prog 5 #[.float .f64 f, .float .f64 g] w fun e w' => e = .returned (.bool true) ∧ Below w.heap.size w w' := by
  have h1 := o_self f hf
  have h2 := o_self g hg
  rw [nf] at h1
  rw [nG] at h2
  obtain ⟨hN, nN, sN, hxor⟩ := neg_facts f hf nf
  rw [sf] at sN
  have k1 : decide (g < f) = false := decide_eq_false (by have := ng_true.1 sg; have := ng_false.1 sf; omega)
  have k2 := o_le f g hf hg nf nG
  have hmg : mg f = f := Nat.mod_eq_of_lt (ng_false.1 sf)
  have hmy : mg g = g % 9223372036854775808 := rfl
  rw [decide_eq_true (show vl f ≤ vl g from by rw [vl_neg sg, vl_pos sf]; have := ng_true.1 sg; omega)] at k2
  have k3 := o_zero f hf nf
  rw [decide_eq_true hz] at k3
  have k4 := o_zero g hg nG
  rw [decide_eq_true hy] at k4
  clear hmg hmy hz hy
  have SF := Lib.hid sf
  have SG := Lib.hid sg
  have SN := Lib.hid sN
  clear sf sg sN
  go_enter Try.func5, Try.ntmps5
  go_wp2_with fail
  refine (bits_c f hf _).mono ?_
  rintro e w1 ⟨rfl, hb1⟩
  rw [cb_num nf]
  go_wp2_with fail
  refine (bits_c g hg _).mono ?_
  rintro e w2 ⟨rfl, hb2⟩
  rw [cb_num nG]
  go_wp2_with fail
  refine (bits_c (Op.negFloat .f64 f) hN _).mono ?_
  rintro e w3 ⟨rfl, hb3⟩
  rw [cb_num nN]
  go_wp2_with fail
  refine (minus_c f hf _).mono ?_
  rintro e wz ⟨rfl, rfl⟩
  rw [minus_num nf SF.out]
  go_wp2_with fail
  refine (minus_c (Op.negFloat .f64 f) hN _).mono ?_
  rintro e wz ⟨rfl, rfl⟩
  rw [minus_num nN SN.out]
  go_wp2_with fail
  refine (minus_c f hf _).mono ?_
  rintro e wz ⟨rfl, rfl⟩
  rw [minus_num nf SF.out]
  go_wp2_with fail
  refine (minus_c g hg _).mono ?_
  rintro e wz ⟨rfl, rfl⟩
  rw [minus_num nG SG.out]
  go_wp2_with fail
  refine (minus_c f hf _).mono ?_
  rintro e wz ⟨rfl, rfl⟩
  rw [minus_num nf SF.out]
  go_wp2_with fail
  refine (minus_c f hf _).mono ?_
  rintro e wz ⟨rfl, rfl⟩
  rw [minus_num nf SF.out]
  go_wp2_with fail
  refine (live_c _).mono ?_
  rintro e w4 ⟨rfl, hb4⟩
  go_wp2
  go_ret
  have c2 := hb1.trans (hb2.mono hb1.size)
  have c3 := c2.trans (hb3.mono c2.size)
  exact ⟨rfl, c3.trans (hb4.mono c3.size)⟩

set_option maxHeartbeats 1000000 in
theorem walk_tt (f g : Nat) (hf : f < 18446744073709551616) (hg : g < 18446744073709551616) (nf : nn f = false) (nG : nn g = false) (sf : ng f = true) (sg : ng g = true) (w : World) :
    Calls Try.prog 5 #[.float .f64 f, .float .f64 g] w fun e w' => e = .returned (.bool true) ∧ Below w.heap.size w w' := by
  have h1 := o_self f hf
  have h2 := o_self g hg
  rw [nf] at h1
  rw [nG] at h2
  obtain ⟨hN, nN, sN, hxor⟩ := neg_facts f hf nf
  rw [sf] at sN
  have k2 := o_lt f g hf hg nf nG
  rw [show decide (vl f < vl g) = decide (g < f) from decide_eq_decide.2 (by rw [vl_neg sf, vl_neg sg]; omega)] at k2
  have k3 := o_eq f g hf hg nf nG
  rw [show decide (vl f = vl g) = ((f : Int) == (g : Int)) from by rw [Bool.eq_iff_iff, decide_eq_true_eq, beq_iff_eq, vl_neg sf, vl_neg sg]; omega] at k3
  have SF := Lib.hid sf
  have SG := Lib.hid sg
  have SN := Lib.hid sN
  clear sf sg sN
  go_enter Try.func5, Try.ntmps5
  go_wp2_with fail
  refine (bits_c f hf _).mono ?_
  rintro e w1 ⟨rfl, hb1⟩
  rw [cb_num nf]
  go_wp2_with fail
  refine (bits_c g hg _).mono ?_
  rintro e w2 ⟨rfl, hb2⟩
  rw [cb_num nG]
  go_wp2_with fail
  refine (bits_c (Op.negFloat .f64 f) hN _).mono ?_
  rintro e w3 ⟨rfl, hb3⟩
  rw [cb_num nN]
  go_wp2_with fail
  refine (minus_c f hf _).mono ?_
  rintro e wz ⟨rfl, rfl⟩
  rw [minus_num nf SF.out]
  go_wp2_with fail
  refine (minus_c (Op.negFloat .f64 f) hN _).mono ?_
  rintro e wz ⟨rfl, rfl⟩
  rw [minus_num nN SN.out]
  go_wp2_with fail
  refine (minus_c f hf _).mono ?_
  rintro e wz ⟨rfl, rfl⟩
  rw [minus_num nf SF.out]
  go_wp2_with fail
  refine (minus_c g hg _).mono ?_
  rintro e wz ⟨rfl, rfl⟩
  rw [minus_num nG SG.out]
  go_wp2_with fail
  refine (minus_c f hf _).mono ?_
  rintro e wz ⟨rfl, rfl⟩
  rw [minus_num nf SF.out]
  go_wp2_with fail
  refine (live_c _).mono ?_
  rintro e w4 ⟨rfl, hb4⟩
  go_wp2
  go_ret
  have c2 := hb1.trans (hb2.mono hb1.size)
  have c3 := c2.trans (hb3.mono c2.size)
  exact ⟨rfl, c3.trans (hb4.mono c3.size)⟩

set_option maxHeartbeats 1000000 in
theorem walk_ff (f g : Nat) (hf : f < 18446744073709551616) (hg : g < 18446744073709551616) (nf : nn f = false) (nG : nn g = false) (sf : ng f = false) (sg : ng g = false) (w : World) :
    Calls Try.prog 5 #[.float .f64 f, .float .f64 g] w fun e w' => e = .returned (.bool true) ∧ Below w.heap.size w w' := by
  have h1 := o_self f hf
  have h2 := o_self g hg
  rw [nf] at h1
  rw [nG] at h2
  obtain ⟨hN, nN, sN, hxor⟩ := neg_facts f hf nf
  rw [sf] at sN
  have k2 := o_lt f g hf hg nf nG
  rw [show decide (vl f < vl g) = decide (f < g) from decide_eq_decide.2 (by rw [vl_pos sf, vl_pos sg]; omega)] at k2
  have k3 := o_eq f g hf hg nf nG
  rw [show decide (vl f = vl g) = ((f : Int) == (g : Int)) from by rw [Bool.eq_iff_iff, decide_eq_true_eq, beq_iff_eq, vl_pos sf, vl_pos sg]] at k3
  have SF := Lib.hid sf
  have SG := Lib.hid sg
  have SN := Lib.hid sN
  clear sf sg sN
  go_enter Try.func5, Try.ntmps5
  go_wp2_with fail
  refine (bits_c f hf _).mono ?_
  rintro e w1 ⟨rfl, hb1⟩
  rw [cb_num nf]
  go_wp2_with fail
  refine (bits_c g hg _).mono ?_
  rintro e w2 ⟨rfl, hb2⟩
  rw [cb_num nG]
  go_wp2_with fail
  refine (bits_c (Op.negFloat .f64 f) hN _).mono ?_
  rintro e w3 ⟨rfl, hb3⟩
  rw [cb_num nN]
  go_wp2_with fail
  refine (minus_c f hf _).mono ?_
  rintro e wz ⟨rfl, rfl⟩
  rw [minus_num nf SF.out]
  go_wp2_with fail
  refine (minus_c (Op.negFloat .f64 f) hN _).mono ?_
  rintro e wz ⟨rfl, rfl⟩
  rw [minus_num nN SN.out]
  go_wp2_with fail
  refine (minus_c f hf _).mono ?_
  rintro e wz ⟨rfl, rfl⟩
  rw [minus_num nf SF.out]
  go_wp2_with fail
  refine (minus_c g hg _).mono ?_
  rintro e wz ⟨rfl, rfl⟩
  rw [minus_num nG SG.out]
  go_wp2_with fail
  refine (minus_c f hf _).mono ?_
  rintro e wz ⟨rfl, rfl⟩
  rw [minus_num nf SF.out]
  go_wp2_with fail
  refine (live_c _).mono ?_
  rintro e w4 ⟨rfl, hb4⟩
  go_wp2
  go_ret
  have c2 := hb1.trans (hb2.mono hb1.size)
  have c3 := c2.trans (hb3.mono c2.size)
  exact ⟨rfl, c3.trans (hb4.mono c3.size)⟩

theorem walk (f g : Nat) (wf : (Lit.float .f64 f).wf = true) (wg : (Lit.float .f64 g).wf = true) (w : World) :
    Calls Try.prog 5 #[.float .f64 f, .float .f64 g] w fun e w' => e = .returned (.bool true) ∧ Below w.heap.size w w' := by
  have hf := f64_lt wf
  have hg := f64_lt wg
  cases nf : nn f
  · cases nG : nn g
    · cases sf : ng f
      · cases sg : ng g
        · exact walk_ff f g hf hg nf nG sf sg w
        · by_cases hz : mg f = 0
          · by_cases hy : mg g = 0
            · exact walk_ft2 f g hf hg nf nG sf sg hz hy w
            · exact walk_ft1 f g hf hg nf nG sf sg hz hy w
          · exact walk_ft0 f g hf hg nf nG sf sg hz w
      · cases sg : ng g
        · exact walk_tf f g hf hg nf nG sf sg w
        · exact walk_tt f g hf hg nf nG sf sg w
    · exact walk_nan f g hf hg (.inr ⟨nf, nG⟩) w
  · exact walk_nan f g hf hg (.inl nf) w
end bitsOrder
end Go.Proofs.Ytaahfcljcejemaa
