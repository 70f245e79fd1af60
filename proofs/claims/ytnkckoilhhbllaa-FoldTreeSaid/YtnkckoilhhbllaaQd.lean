/-
  'live' of layer 14's statements: some answers that are written out.
-/
import Derived.Test.YtnkckoilhhbllaaQc
import Derived.Deep.RegionHeld3
import Derived.Deep.RegionWith
namespace Go.Proofs.Ytnkckoilhhbllaa
open Go.RowKit Go.IntWalk Go.Maps
set_option maxRecDepth 100000
attribute [local go_sem] Oper.semAt_some

abbrev rw1 : Rw := (1, 0, [97], 0)
abbrev rw2 : Rw := (2, 1, [98], 0)
abbrev rw3 : Rw := (2, 0, [100], 0)
abbrev rl14 : List Rw := [rw1, rw2]
abbrev rm14 : List Rw := [rw1, rw3]
abbrev mv0 (c p : Int) (n : List UInt8) : Mv := (0, 0, c, p, n, 0)
abbrev ms14 : List Mv := [mv0 1 0 [97], mv0 2 1 [98], mv0 1 2 [99]]

theorem at_lits (w : World) (t : TypeId) (xs : List Value) : At (w.alloc (.cells xs.toArray t)) (w.alloc (.cells xs.toArray t)).heap.size (some ⟨w.heap.size, 0, none⟩) xs := fun i v hv =>
  ⟨w.heap.size, 0, rfl, by simp, by rw [Nat.zero_add]; exact (is_cell (is_new w t xs) i).trans hv⟩
theorem above_asc {l : List Rw} (hs : ascB l = true) (hl : l.length ≤ 100000) (A : Option Addr) (cap : Nat) (a b : Int) (w : World) (hc : At w w.heap.size A (tvs l)) :
    Calls Try.prog 70 #[.slice A l.length cap, .int .i64 a, .int .i64 b] w fun e W' => e = .returned (.bool (abv l a l.length b)) ∧ Below w.heap.size w W' :=
  above_k A cap l a b hl (ordOk_asc hs (by unfold maxLen; omega)) w hc
theorem f14_all : allP [] ms14 = rl14 := by decide
theorem f14_asc : ∀ k, k ≤ ms14.length → ascB (allP [] (ms14.take k)) = true
  | 0, _ => rfl
  | 1, _ => rfl
  | 2, _ => by decide
  | 3, _ => by decide
  | n + 4, h => absurd h (by simp)
theorem all14_c {A2 : Option Addr} {cap2 : Nat} {w : World} (hc2 : At w w.heap.size A2 (mvs ms14)) :
    Calls Try.prog 25 #[.slice none 0 0, .slice A2 3 cap2] w fun e w' => ∃ A cap, e = .returned (.slice A 2 cap) ∧ At w' w'.heap.size A (tvs rl14) ∧ (A = none → cap = 0) ∧ 2 ≤ cap ∧ Below w.heap.size w w' := by
  have := mall_c none A2 0 cap2 [] ms14 (by simp) (fun _ => rfl) (by simp) (fun k hk A cap a b w hc => above_asc (f14_asc k hk) (by have := allP_len [] (ms14.take k); simp at this ⊢; omega) A cap a b w hc) w (At.nil _ _ _) hc2
  rw [f14_all] at this
  exact this
theorem do14_c {A : Option Addr} {cap N : Nat} {c p : Int} {n : List UInt8} {L : List Rw} {q : Bool} (hL : doP rl14 (mv0 c p n) = L) (hN : L.length = N) (hq : (!barP rl14 (mv0 c p n)) = q) (hA : A = none → cap = 0) (hcap : 2 ≤ cap) {w : World} (hc : At w w.heap.size A (tvs rl14)) :
    Calls Try.prog 19 #[.slice A 2 cap, .agg #[.int .i64 0, .int .i64 0, .int .i64 p, .int .i64 c, .string (ba n), .float .f64 0]] w fun e w' => ∃ A cap, e = .returned (.tuple #[.slice A N cap, .bool q]) ∧ At w' w'.heap.size A (tvs L) ∧ (A = none → cap = 0) ∧ N ≤ cap ∧ Below w.heap.size w w' := by
  subst hL hq hN
  exact mdo_c A cap rl14 (mv0 c p n) (by decide) hA hcap (above_asc (by decide) (by decide) A cap) w hc
theorem bar14_c {A : Option Addr} {cap : Nat} {c p : Int} {q : Bool} (hq : barP rl14 (mv0 c p []) = q) {w : World} (hc : At w w.heap.size A (tvs rl14)) :
    Calls Try.prog 22 #[.slice A 2 cap, .agg #[.int .i64 0, .int .i64 0, .int .i64 p, .int .i64 c, .string ByteArray.empty, .float .f64 0]] w fun e w' => e = .returned (.bool q) ∧ Below w.heap.size w w' := by
  subst hq
  exact mbarred_c A cap rl14 (mv0 c p []) (above_asc (by decide) (by decide) A cap) w hc
theorem f14_do1 : doP rl14 (mv0 2 0 [100]) = rm14 := by decide
theorem f14_do2 : doP rl14 (mv0 2 2 []) = rl14 := by decide
theorem f14_nod : nodP rl14 [mv0 7 2 []] = [0, 1, 2, 7] := by decide
theorem nod14_c {A A2 : Option Addr} {cap cap2 : Nat} {w : World} (hc : At w w.heap.size A (tvs rl14)) (hc2 : At w w.heap.size A2 (mvs [mv0 7 2 []])) :
    Calls Try.prog 28 #[.slice A 2 cap, .slice A2 1 cap2] w fun e w' => ∃ A' cap', e = .returned (.slice A' 4 cap') ∧ At w' w'.heap.size A' (ivs [0, 1, 2, 7]) ∧ Below w.heap.size w w' := by
  have := nodes_c A A2 cap cap2 rl14 [mv0 7 2 []] (by decide) (by decide) (fun x hx => by simp [namR, namM] at hx; rcases hx with rfl | rfl | rfl | rfl | rfl | rfl <;> unfold In64 <;> decide) w hc hc2
  rw [f14_nod] at this
  exact this

set_option maxHeartbeats 16000000 in
theorem live14_c (w : World) :
    Calls Try.prog 18 #[] w fun e w' => e = .returned (.bool true) ∧ Below w.heap.size w w' := by
  go_enter Try.func18, Try.ntmps18
  go_wp2_with fail
  refine (all14_c (at_lits w 27 (mvs ms14))).mono ?_
  rintro e w1 ⟨A1, c1, rfl, h1, n1, k1, b1⟩
  obtain ⟨B1, o1, rfl, -⟩ := row_cells (k := 0) h1 rfl
  have hb1 : Below w.heap.size w w1 := ((Below.refl _ w).alloc (Nat.le_refl _) _).trans (b1.mono (by simp))
  have H1 := Lib.hid h1
  have HK1 := Lib.hid k1
  have HB1 := Lib.hid hb1
  clear h1 n1 k1 b1 hb1
  go_wp2_with fail
  refine (do14_c (c := 2) (p := 0) (n := [100]) (N := 2) (q := true) f14_do1 rfl (by decide) (fun h => by cases h) HK1.out H1.out).mono ?_
  rintro e w2 ⟨A2, c2, rfl, h2, n2, k2, b2⟩
  obtain ⟨B2, o2, rfl, -⟩ := row_cells (k := 0) h2 rfl
  have hb2 := HB1.out.trans (b2.mono HB1.out.size)
  have H12 := Lib.hid (H1.out.keep b2)
  have H2 := Lib.hid h2
  have HB2 := Lib.hid hb2
  clear h2 n2 k2 b2 hb2
  go_wp2_with fail
  refine (do14_c (c := 2) (p := 2) (n := []) (N := 2) (q := false) f14_do2 rfl (by decide) (fun h => by cases h) HK1.out H12.out).mono ?_
  rintro e w3 ⟨A3, c3, rfl, h3, n3, k3, b3⟩
  obtain ⟨B3, o3, rfl, -⟩ := row_cells (k := 0) h3 rfl
  have hb3 := HB2.out.trans (b3.mono HB2.out.size)
  have H13 := H12.out.keep b3
  have H23 := H2.out.keep b3
  have HB3 := Lib.hid hb3
  have H13' := Lib.hid H13
  obtain ⟨x1, y1, e1, -, p0, p1, p2, p3⟩ := row_cells (k := 0) H13 rfl
  cases e1
  obtain ⟨x1, y1, e1, -, q0, q1, q2, q3⟩ := row_cells (k := 1) H13 rfl
  cases e1
  obtain ⟨x1, y1, e1, -, r0, r1, r2, r3⟩ := row_cells (k := 1) H23 rfl
  cases e1
  obtain ⟨x1, y1, e1, -, s0, s1, s2, s3⟩ := row_cells (k := 1) h3 rfl
  cases e1
  have t1 : w3.cell? ⟨B1, o1 + 2, none⟩ = some (.string ⟨#[97]⟩) := by rw [← show o1 + 0 * 4 + 2 = o1 + 2 by omega]; exact p2
  have t2 : w3.cell? ⟨B1, o1 + 1 * 4 + 1, none⟩ = some (.int .i64 1) := q1
  have t3 : w3.cell? ⟨B2, o2 + 1 * 4 + 2, none⟩ = some (.string ⟨#[100]⟩) := r2
  have t4 : w3.cell? ⟨B2, o2 + 1 * 4 + 1, none⟩ = some (.int .i64 0) := r1
  have t5 : w3.cell? ⟨B3, o3 + 1 * 4 + 2, none⟩ = some (.string ⟨#[98]⟩) := s2
  clear n3 k3 b3 h3 hb3 H13 H23 H12 H2 HB2 HB1 H1 HK1 p0 p1 p2 p3 q0 q1 q2 q3 r0 r1 r2 r3 s0 s1 s2 s3
  go_wp2_with fail
  refine (bar14_c (c := 1) (p := 2) (q := true) (by decide) H13'.out).mono ?_
  rintro e w4 ⟨rfl, b4⟩
  have H4 := Lib.hid (H13'.out.keep b4)
  have HB4 := Lib.hid (HB3.out.trans (b4.mono HB3.out.size))
  clear t1 t2 t3 t4 t5 b4
  go_wp2_with fail
  refine (bar14_c (c := 0) (p := 9) (q := true) (by decide) H4.out).mono ?_
  rintro e w5 ⟨rfl, b5⟩
  have H5 := Lib.hid (H4.out.keep b5)
  have HB5 := Lib.hid (HB4.out.trans (b5.mono HB4.out.size))
  clear b5
  go_wp2_with fail
  refine (bar14_c (c := 3) (p := 9) (q := false) (by decide) H5.out).mono ?_
  rintro e w6 ⟨rfl, b6⟩
  have H6 := Lib.hid (H5.out.keep b6)
  have HB6 := Lib.hid (HB5.out.trans (b6.mono HB5.out.size))
  clear b6
  go_wp2_with fail
  have hb7 := (Below.refl w6.heap.size w6).alloc (Nat.le_refl _) (.cells (mvs [mv0 7 2 []]).toArray 27)
  refine (nod14_c (H6.out.keep hb7) (at_lits w6 27 (mvs [mv0 7 2 []]))).mono ?_
  rintro e w7 ⟨A7, c7, rfl, h7, b7⟩
  have H7 := Lib.hid h7
  have HB7 := Lib.hid (HB6.out.trans ((hb7.trans (b7.mono hb7.size)).mono HB6.out.size))
  clear hb7 b7 h7
  go_wp2_with fail
  have hb8 := (Below.refl w7.heap.size w7).alloc (Nat.le_refl _) (.cells (ivs [0, 1, 2, 7]).toArray 3)
  refine (same5_q A7 (some ⟨w7.heap.size, 0, none⟩) c7 4 [0, 1, 2, 7] [0, 1, 2, 7] (by decide) (by decide) _ (H7.out.keep hb8) (at_lits w7 3 (ivs [0, 1, 2, 7]))).mono ?_
  rintro e w9 ⟨rfl, q, rfl⟩
  have HB9 := Lib.hid (below_drewN (HB7.out.trans (hb8.mono HB7.out.size)) q)
  clear hb8
  go_wp2_with fail
  go_ret
  exact ⟨rfl, HB9.out⟩
end Go.Proofs.Ytnkckoilhhbllaa
