/-
  The walk of MovesInserts.
-/
import Derived.Test.YtihaiabkjmmmoaaUo
namespace Go.Proofs.Ytihaiabkjmmmoaa
open Go.RowKit Go.IntWalk
open Wd Fl
set_option maxRecDepth 100000
attribute [local go_sem] Oper.semAt_some

theorem rmfew_k {A : Option Addr} {cap : Nat} {l : List Mv} (n : Nat) {b : Bool} (h : fewM l n = b) (hl : l.length ≤ maxLen) (hn : n ≤ 1000) {w : World} (hc : At w w.heap.size A (mvs l)) (z : Int) (hz : z = (n : Int)) :
    Calls Try.prog 14 #[.slice A l.length cap, .int .i64 z] w fun e w' => e = .returned (.bool b) ∧ w = w' := by
  subst h hz
  exact rmfew_c A cap l n hl hn w hc
theorem insM_moves {l : List Mv} {m : Mv} (h : Moves_ l) (hm : rk (mw m) < 18446744073709551616 ∧ (nm (mw m)).length ≤ maxLen) : Moves_ (insM l m).1 := fun x hx => by
  rcases insM_mem hx with hx | rfl
  · exact h x hx
  · exact hm
theorem rmsame_k {A1 A2 : Option Addr} {c1 c2 n1 n2 : Nat} {q : Bool} (a b : List Mv) (h : sameM a b = q) (hn1 : a.length = n1) (hn2 : b.length = n2) (hl1 : n1 ≤ 1000) (hl2 : n2 ≤ 1000) (hm1 : Moves_ a) (hm2 : Moves_ b) {w : World} (h1 : At w w.heap.size A1 (mvs a)) (h2 : At w w.heap.size A2 (mvs b)) :
    Calls Try.prog 24 #[.slice A1 n1 c1, .slice A2 n2 c2] w fun e w' => e = .returned (.bool q) ∧ Below w.heap.size w w' := by
  subst hn1 hn2 h
  exact rmsame_c A1 A2 c1 c2 a b (by unfold maxLen; omega) (by unfold maxLen; omega) hm1 hm2 w h1 h2

namespace movesInserts
set_option maxHeartbeats 8000000 in
theorem walk (A : Option Addr) (cap : Nat) (l : List Mv) (m : Mv) (hA : A = none → cap = 0) (hcap : l.length ≤ cap) (hl : l.length ≤ maxLen) (hM : Moves_ l) (hm1 : rk (mw m) < 18446744073709551616) (hm2 : (nm (mw m)).length ≤ maxLen) (w : World) (hc : At w w.heap.size A (mvs l)) :
    Calls Try.prog 4 #[.slice A l.length cap, .agg #[.int .i64 (mc m), .int .i64 (mr m), .int .i64 (pa (mw m)), .int .i64 (ch (mw m)), .string (ba (nm (mw m))), .float .f64 (rk (mw m))]] w fun e w' => e = .returned (.bool true) ∧ Below w.heap.size w w' := by
  have hbx := (Below.refl w.heap.size w).alloc (Nat.le_refl _) (.cells #[.int .i64 (mc m), .int .i64 (mr m), .int .i64 (pa (mw m)), .int .i64 (ch (mw m)), .string (ba (nm (mw m))), .float .f64 (rk (mw m))] 30)
  have hI0 : Is (w.alloc (.cells #[.int .i64 (mc m), .int .i64 (mr m), .int .i64 (pa (mw m)), .int .i64 (ch (mw m)), .string (ba (nm (mw m))), .float .f64 (rk (mw m))] 30)) w.heap.size 30 [.int .i64 (mc m), .int .i64 (mr m), .int .i64 (pa (mw m)), .int .i64 (ch (mw m)), .string (ba (nm (mw m))), .float .f64 (rk (mw m))] := is_new w 30 [.int .i64 (mc m), .int .i64 (mr m), .int .i64 (pa (mw m)), .int .i64 (ch (mw m)), .string (ba (nm (mw m))), .float .f64 (rk (mw m))]
  have HI0 := Lib.hid hI0
  have HBX := Lib.hid hbx
  have HC := Lib.hid (hc.keep hbx)
  have HA := Lib.hid hA
  have HM := Lib.hid hM
  have HM2 := Lib.hid (And.intro hm1 hm2)
  have HL := Lib.hid hl
  have hsz := ba_size (nm (mw m))
  unfold maxLen at hm2
  clear hI0 hbx hc hA hM hl hm1
  cases hf : fewM l 60 with
  | false =>
    have HF := Lib.hid hf
    clear hf
    go_enter Try.func4, Try.ntmps4
    go_wp2_with fail
    refine (rmfew_k 60 HF.out HL.out (by omega) HC.out _ rfl).mono ?_
    rintro e w1 ⟨rfl, rfl⟩
    go_wp2_with fail
    refine (live13_c _).mono ?_
    rintro e w2 ⟨rfl, hb⟩
    go_wp2_with fail
    go_ret
    exact ⟨rfl, HBX.out.trans (hb.mono HBX.out.size)⟩
  | true =>
    obtain ⟨hl60, -⟩ := fewM_in hf
    have HF := Lib.hid hf
    clear hf
    by_cases hlong : 100 < (nm (mw m)).length
    · go_enter Try.func4, Try.ntmps4
      go_wp2_with fail
      refine (rmfew_k 60 HF.out HL.out (by omega) HC.out _ rfl).mono ?_
      rintro e w1 ⟨rfl, rfl⟩
      obtain ⟨k0, k1, k2, k3, k4, k5⟩ := box6 (m := m) HI0.out
      go_wp2_with fail
      refine (live13_c _).mono ?_
      rintro e w2 ⟨rfl, hb⟩
      go_wp2_with fail
      go_ret
      exact ⟨rfl, HBX.out.trans (hb.mono HBX.out.size)⟩
    · have hins := insM_moves HM.out HM2.out
      have hlen := insM_len l m
      have H1 := Lib.hid fun (W : World) (h : At W W.heap.size A (mvs l)) => minsert_c A cap l m (by omega) HA.out hcap W h
      have H2 := Lib.hid fun (W : World) (h : At W W.heap.size A (mvs l)) => rminsert_c A cap l m (by omega) HA.out hcap W h
      obtain ⟨⟨L, k, b⟩, ho⟩ : ∃ o, insM l m = o := ⟨_, rfl⟩
      have h1 := H1.out
      have h2 := H2.out
      rw [ho] at h1 h2 hins hlen
      have G1 := Lib.hid h1
      have G2 := Lib.hid h2
      have HINS := Lib.hid hins
      change L.length ≤ l.length + 1 at hlen
      clear h1 h2 H1 H2 ho hins
      go_enter Try.func4, Try.ntmps4
      go_wp2_with fail
      refine (rmfew_k 60 HF.out HL.out (by omega) HC.out _ rfl).mono ?_
      rintro e w1 ⟨rfl, rfl⟩
      obtain ⟨k0, k1, k2, k3, k4, k5⟩ := box6 (m := m) HI0.out
      go_wp2_with fail
      refine (G1.out _ HC.out).mono ?_
      rintro e w2 ⟨A2, c2, rfl, ha2, -, -, hb2⟩
      have hbw2 := HBX.out.trans (hb2.mono HBX.out.size)
      have HC2 := Lib.hid (HC.out.keep hb2)
      have HA2 := Lib.hid ha2
      have hI2 := is_below HI0.out hb2 (is_lt HI0.out)
      clear k0 k1 k2 k3 k4 k5 ha2 hb2
      obtain ⟨k0, k1, k2, k3, k4, k5⟩ := box6 (m := m) hI2
      go_wp2_with fail
      refine (G2.out _ HC2.out).mono ?_
      rintro e w3 ⟨A3, c3, rfl, ha3, -, -, hb3⟩
      have hbw3 := hbw2.trans (hb3.mono hbw2.size)
      have HA3 := Lib.hid ha3
      have HA2b := Lib.hid (HA2.out.keep hb3)
      clear k0 k1 k2 k3 k4 k5 ha3 hb3 hI2
      cases b
      all_goals
        go_wp2_with fail
        refine (rmsame_k L L (sameM_refl L) rfl rfl (by omega) (by omega) HINS.out HINS.out HA2b.out HA3.out).mono ?_
        rintro e w4 ⟨rfl, hb4⟩
        have hbw4 := hbw3.trans (hb4.mono hbw3.size)
        go_wp2_with fail
        refine (live13_c _).mono ?_
        rintro e w5 ⟨rfl, hb5⟩
        go_wp2_with fail
        go_ret
        exact ⟨rfl, hbw4.trans (hb5.mono hbw4.size)⟩
end movesInserts
end Go.Proofs.Ytihaiabkjmmmoaa
