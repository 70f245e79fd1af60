/-
 Same of replicas; replicas that come one behind the other.
 The document's Children, Few.
-/
import Derived.Test.YthhckdjagnlgpaaGreatWg
section
namespace Go.Proofs.YthhckdjagnlgpaaGreat
open Go.RowKit Go.IntWalk Go.Maps
open Gr
set_option maxRecDepth 100000
attribute [local go_sem] Oper.semAt_some
theorem equalK_v {A1 A2 : Option Addr} {c1 c2 : Nat} {xs ys : List Mk} {b : Bool} (h : decide (xs = ys) = b) (hx : xs.length ≤ maxLen) (hy : ys.length ≤ maxLen) {w : World} (h1 : At w w.heap.size A1 (kvs xs)) (h2 : At w w.heap.size A2 (kvs ys)) :
  Calls Tryz.prog 116 #[.slice A1 xs.length c1, .slice A2 ys.length c2] w fun e w' => e = .returned (.bool b) ∧ Below w.heap.size w w' := by
 subst h; exact equalK_c A1 A2 c1 c2 xs ys hx hy w h1 h2
theorem tsame_v {A1 A2 : Option Addr} {c1 c2 : Nat} {xs ys : List Rw} {b : Bool} (h : sameP xs ys = b) (hx : xs.length ≤ maxLen) (hy : ys.length ≤ maxLen) (hwx : Rows_ xs) (hwy : Rows_ ys) {w : World} (h1 : At w w.heap.size A1 (tvs xs)) (h2 : At w w.heap.size A2 (tvs ys)) :
  Calls Tryz.prog 25 #[.slice A1 xs.length c1, .slice A2 ys.length c2] w fun e w' => e = .returned (.bool b) ∧ Below w.heap.size w w' := by
 subst h; exact tsame_c A1 A2 c1 c2 xs ys hx hy hwx hwy w h1 h2
theorem mmsame_v {A1 A2 : Option Addr} {c1 c2 : Nat} {xs ys : List Mv} {b : Bool} (h : sameM xs ys = b) (hx : xs.length ≤ 100000) (hy : ys.length ≤ 100000) (hwx : Moves_ xs) (hwy : Moves_ ys) {w : World} (h1 : At w w.heap.size A1 (mvs xs)) (h2 : At w w.heap.size A2 (mvs ys)) :
  Calls Tryz.prog 117 #[.slice A1 xs.length c1, .slice A2 ys.length c2] w fun e w' => e = .returned (.bool b) ∧ Below w.heap.size w w' := by
 subst h; exact mmsame_c A1 A2 c1 c2 xs ys hx hy hwx hwy w h1 h2
set_option maxHeartbeats 8000000 in
theorem fSame_c {p1 p2 : Pl} {r1 r2 : Rp} (o1 : RpOk r1) (o2 : RpOk r2) {w : World} (a1 : RpAt p1 r1 w) (a2 : RpAt p2 r2 w) :
  Calls Tryz.prog 52 #[.agg #[.slice p1.A1 r1.B.length p1.c1, .int .i64 r1.fc, .int .i64 r1.fr, .slice p1.A2 r1.L.length p1.c2, .slice p1.A3 r1.V.length p1.c3], .agg #[.slice p2.A1 r2.B.length p2.c1, .int .i64 r2.fc, .int .i64 r2.fr, .slice p2.A2 r2.L.length p2.c2, .slice p2.A3 r2.V.length p2.c3]] w fun e w' => e = .returned (.bool (sameF r1 r2)) ∧ Below w.heap.size w w' := by
 obtain ⟨w2, hw2⟩ : ∃ w2, w2 = (w.alloc (.cells #[.slice p1.A1 r1.B.length p1.c1, .int .i64 r1.fc, .int .i64 r1.fr, .slice p1.A2 r1.L.length p1.c2, .slice p1.A3 r1.V.length p1.c3] 55)).alloc (.cells #[.slice p2.A1 r2.B.length p2.c1, .int .i64 r2.fc, .int .i64 r2.fr, .slice p2.A2 r2.L.length p2.c2, .slice p2.A3 r2.V.length p2.c3] 55) := ⟨_, rfl⟩
 have hI : Is w2 w.heap.size 55 [.slice p1.A1 r1.B.length p1.c1, .int .i64 r1.fc, .int .i64 r1.fr, .slice p1.A2 r1.L.length p1.c2, .slice p1.A3 r1.V.length p1.c3] := by rw [hw2]; exact is_below (is_new w 55 _) ((Below.refl _ _).alloc (Nat.le_refl _) _) (by simp)
 have hJ : Is w2 (w.heap.size + 1) 55 [.slice p2.A1 r2.B.length p2.c1, .int .i64 r2.fc, .int .i64 r2.fr, .slice p2.A2 r2.L.length p2.c2, .slice p2.A3 r2.V.length p2.c3] := by rw [hw2]; exact is_newA w 55 _ _
 have hb2 : Below w.heap.size w w2 := by rw [hw2]; exact ((Below.refl w.heap.size w).alloc (Nat.le_refl _) _).alloc (by simp) _
 have HA1 := Lib.hid a1
 have HA2 := Lib.hid a2
 have O1 := Lib.hid o1
 have O2 := Lib.hid o2
 have HW := Lib.hid hw2
 have HI := Lib.hid hI
 have HJ := Lib.hid hJ
 have HB := Lib.hid hb2
 have l1 := o1.lb
 have l2 := o1.ll
 have l3 := o1.lv
 have l4 := o2.lb
 have l5 := o2.ll
 have l6 := o2.lv
 obtain ⟨⟨q0, q1, q2, q3, q4⟩, -⟩ := cells5 hI
 obtain ⟨⟨k0, k1, k2, k3, k4⟩, -⟩ := cells5 hJ
 clear a1 a2 o1 o2 hw2 hI hJ hb2
 obtain ⟨x1, hx1⟩ : ∃ x, r1.fc = x := ⟨_, rfl⟩
 obtain ⟨x2, hx2⟩ : ∃ x, r1.fr = x := ⟨_, rfl⟩
 obtain ⟨y1, hy1⟩ : ∃ x, r2.fc = x := ⟨_, rfl⟩
 obtain ⟨y2, hy2⟩ : ∃ x, r2.fr = x := ⟨_, rfl⟩
 have hres : sameF r1 r2 = (decide (x1 = y1 ∧ x2 = y2) && (decide (r1.V = r2.V) && (sameP r1.B r2.B && sameM r1.L r2.L))) := by unfold sameF; rw [hx1, hx2, hy1, hy2]
 have HWW := HW.out
 rw [hx1] at q1 HWW
 rw [hx2] at q2 HWW
 rw [hy1] at k1 HWW
 rw [hy2] at k2 HWW
 rw [hres, hx1, hx2, hy1, hy2]
 have HW := Lib.hid HWW
 clear hx1 hx2 hy1 hy2 HWW hres
 by_cases e1 : x1 = y1
 case neg =>
  have HR := Lib.hid (show decide (x1 = y1 ∧ x2 = y2) = false from decide_eq_false fun h => e1 h.1)
  rw [HR.out, Bool.false_and]
  go_enter Tryz.func52, Tryz.ntmps52
  go_wp2_with fail
  rw [← HW.out]
  go_wp2_with fail
  go_ret
  exact ⟨rfl, HB.out⟩
 by_cases e2 : x2 = y2
 case neg =>
  have HR := Lib.hid (show decide (x1 = y1 ∧ x2 = y2) = false from decide_eq_false fun h => e2 h.2)
  rw [HR.out, Bool.false_and]
  subst e1
  go_enter Tryz.func52, Tryz.ntmps52
  go_wp2_with fail
  rw [← HW.out]
  go_wp2_with fail
  go_ret
  exact ⟨rfl, HB.out⟩
 subst e1
 subst e2
 have HR := Lib.hid (show decide (x1 = x1 ∧ x2 = x2) = true from decide_eq_true ⟨rfl, rfl⟩)
 rw [HR.out, Bool.true_and]
 obtain ⟨v, hv⟩ : ∃ v, decide (r1.V = r2.V) = v := ⟨_, rfl⟩
 obtain ⟨t, ht⟩ : ∃ v, sameP r1.B r2.B = v := ⟨_, rfl⟩
 obtain ⟨u, hu⟩ : ∃ v, sameM r1.L r2.L = v := ⟨_, rfl⟩
 rw [hv, ht, hu]
 have HV := Lib.hid hv
 have HT := Lib.hid ht
 have HU := Lib.hid hu
 clear hv ht hu HR
 go_enter Tryz.func52, Tryz.ntmps52
 go_wp2_with fail
 rw [← HW.out]
 refine (equalK_v HV.out (by unfold maxLen; omega) (by unfold maxLen; omega) (HA1.out.keep HB.out).v (HA2.out.keep HB.out).v).mono ?_
 rintro e w3 ⟨rfl, hb3⟩
 have HB3 := Lib.hid (HB.out.trans (hb3.mono HB.out.size))
 have HI3 := Lib.hid (is_below HI.out hb3 (is_lt HI.out))
 have HJ3 := Lib.hid (is_below HJ.out hb3 (is_lt HJ.out))
 clear q0 q1 q2 q3 q4 k0 k1 k2 k3 k4 hb3
 obtain ⟨⟨q0, -, -, q3, -⟩, -⟩ := cells5 HI3.out
 obtain ⟨⟨k0, -, -, k3, -⟩, -⟩ := cells5 HJ3.out
 cases v with
 | false =>
  go_wp2_with fail
  go_ret
  exact ⟨rfl, HB3.out⟩
 | true =>
  go_wp2_with fail
  refine (tsame_v HT.out (by unfold maxLen; omega) (by unfold maxLen; omega) O1.out.rb O2.out.rb (HA1.out.keep HB3.out).b (HA2.out.keep HB3.out).b).mono ?_
  rintro e w4 ⟨rfl, hb4⟩
  have HB4 := Lib.hid (HB3.out.trans (hb4.mono HB3.out.size))
  have HI4 := Lib.hid (is_below HI3.out hb4 (is_lt HI3.out))
  have HJ4 := Lib.hid (is_below HJ3.out hb4 (is_lt HJ3.out))
  clear q0 q3 k0 k3 hb4
  obtain ⟨⟨q0, -, -, q3, -⟩, -⟩ := cells5 HI4.out
  obtain ⟨⟨k0, -, -, k3, -⟩, -⟩ := cells5 HJ4.out
  cases t with
  | false =>
   go_wp2_with fail
   go_ret
   exact ⟨rfl, HB4.out⟩
  | true =>
   go_wp2_with fail
   refine (mmsame_v HU.out (by omega) (by omega) O1.out.rl O2.out.rl (HA1.out.keep HB4.out).l (HA2.out.keep HB4.out).l).mono ?_
   rintro e w5 ⟨rfl, hb5⟩
   have HB5 := Lib.hid (HB4.out.trans (hb5.mono HB4.out.size))
   clear q0 q3 k0 k3 hb5
   go_wp2_with fail
   go_ret
   exact ⟨rfl, HB5.out⟩
end Go.Proofs.YthhckdjagnlgpaaGreat
end
section
namespace Go.Proofs.YthhckdjagnlgpaaGreat
open Go.RowKit Go.IntWalk Go.Maps
open Gr
set_option maxRecDepth 100000
attribute [local go_sem] Oper.semAt_some
set_option maxHeartbeats 8000000 in
theorem children_c (A1 A2 : Option Addr) (c1 c2 : Nat) (l : List Rw) (ms : List Mv) (one : Int) (hone : In64 one) (hl : l.length + ms.length ≤ 1500) (hi1 : ∀ r ∈ l, In64 (ch r)) (hi2 : ∀ m ∈ ms, In64 (ch (mw m))) (w : World) (h1 : At w w.heap.size A1 (tvs l)) (h2 : At w w.heap.size A2 (mvs ms)) :
  Calls Tryz.prog 91 #[.slice A1 l.length c1, .slice A2 ms.length c2, .int .i64 one] w fun e w' => ∃ (z : Nat) (b : Bool), e = .returned (.tuple #[.int .i64 (z : Int), .bool b]) ∧ z ≤ 1500 ∧ Below w.heap.size w w' := by
 have H1 := Lib.hid h1
 have H2 := Lib.hid h2
 have HI1 := Lib.hid hi1
 have HI2 := Lib.hid hi2
 have hmm := @run_makeMap Tryz.prog
 have hmade := World.ownsMap_made w Tryz.prog 3 RB
 obtain ⟨b, hb⟩ : ∃ b, b = w.heap.size := ⟨_, rfl⟩
 rw [← hb] at hmade
 have HMD := Lib.hid hmade
 clear h1 h2 hi1 hi2 hmade
 go_enter Tryz.func91, Tryz.ntmps91
 go_wp2_with fail
 rw [← hb]
 have hwb : w.heap.size ≤ b := by omega
 have HB0 := Lib.hid ((Below.refl w.heap.size w).alloc (Nat.le_refl _) (.map #[] 0))
 clear hb hmm
 go_loopw [9] (fun i wr => ∃ (k : Nat) (D : DataW Unit), i = .int .i64 (k : Int) ∧ k ≤ l.length ∧ wr.ownsMap Tryz.prog 3 RB b k D ∧ Bok D ((l.take k).map ch) ∧ Below w.heap.size w wr)
  (fun i _ => l.length - (Go.RowKit.intOf i).toNat)
 case atStart => exact ⟨0, _, rfl, Nat.zero_le _, HMD.out, bok_nil, HB0.out⟩
 case round =>
  obtain ⟨k, D, rfl, hk, hmap, hD, hbw⟩ := hrel
  have HBW := Lib.hid hbw
  have HMP := Lib.hid (And.intro hmap hD)
  clear hmap hD hbw
  by_cases hlt : k < l.length
  ·obtain ⟨r, hr⟩ := some_at hlt
   obtain ⟨b0, o0, rfl, -, e0, e1, e2, e3⟩ := row_cells (H1.out.keep HBW.out) hr
   have hk0 : (0 : Int) ≤ (k : Int) := by omega
   have hkl : (k : Int) < (l.length : Int) := by omega
   obtain ⟨wa, Da, hra, hma, hka, hga⟩ := put_b HMP.out.1 HMP.out.2 (by omega) (HI1.out r (mem_at hr))
   have HE := Lib.hid (And.intro hma (And.intro hka (HBW.out.grown hga HBW.out.size (fun k e => by cases e; exact hwb))))
   have HTK := Lib.hid (show (l.take (k + 1)).map ch = (l.take k).map ch ++ [ch r] by rw [List.take_add_one, hr]; simp)
   clear hma hka hga hr
   go_wp2_with fail
   go_roundw
   case rel => exact ⟨k + 1, Da, by go_num, by omega, HE.out.1, by rw [HTK.out]; exact HE.out.2.1, HE.out.2.2⟩
   case measure => simp only [Go.RowKit.intOf]; omega
  ·obtain rfl : k = l.length := by omega
   have hD := HMP.out.2
   rw [List.take_length] at hD
   have HM0 := Lib.hid (And.intro HMP.out.1 hD)
   clear HMP hD
   go_wp2_with fail
   go_loopw [10] (fun i wr => ∃ (k : Nat) (D : DataW Unit), i = .int .i64 (k : Int) ∧ k ≤ ms.length ∧ wr.ownsMap Tryz.prog 3 RB b (l.length + k) D ∧ Bok D (chs l (ms.take k)) ∧ Below w.heap.size w wr)
    (fun i _ => ms.length - (Go.RowKit.intOf i).toNat)
   case atStart => exact ⟨0, D, rfl, Nat.zero_le _, HM0.out.1, by unfold chs; simpa using HM0.out.2, HBW.out⟩
   case round =>
    clear HBW HM0
    obtain ⟨k, D, rfl, hk, hmap, hD, hbw⟩ := hrel
    have HBW := Lib.hid hbw
    have HMP := Lib.hid (And.intro hmap hD)
    clear hmap hD hbw
    by_cases hlt2 : k < ms.length
    ·obtain ⟨m, hm⟩ := some_at hlt2
     obtain ⟨b0, o0, rfl, -, e0, e1, e2, e3, e4, e5⟩ := move_cells (H2.out.keep HBW.out) hm
     have hk0 : (0 : Int) ≤ (k : Int) := by omega
     have hkl : (k : Int) < (ms.length : Int) := by omega
     obtain ⟨wa, Da, hra, hma, hka, hga⟩ := put_b HMP.out.1 HMP.out.2 (by omega) (HI2.out m (mem_at hm))
     have HE := Lib.hid (And.intro hma (And.intro hka (HBW.out.grown hga HBW.out.size (fun k e => by cases e; exact hwb))))
     have HTK := Lib.hid (show chs l (ms.take (k + 1)) = chs l (ms.take k) ++ [ch (mw m)] by unfold chs; rw [List.take_add_one, hm]; simp)
     clear hma hka hga hm
     go_wp2_with fail
     go_roundw
     case rel => exact ⟨k + 1, Da, by go_num, by omega, by rw [← Nat.add_assoc]; exact HE.out.1, by rw [HTK.out]; exact HE.out.2.1, HE.out.2.2⟩
     case measure => simp only [Go.RowKit.intOf]; omega
    ·obtain rfl : k = ms.length := by omega
     have hsz := size_le HMP.out.1 HMP.out.2.1
     have hcl : (chs l (ms.take ms.length)).length ≤ 1500 := by unfold chs; rw [List.length_append, List.length_map, List.length_map, List.length_take]; omega
     have hmd := map_keep HMP.out.1 ((Below.refl _ _).drew)
     have hln := hmd.len Tryz.underlying47 3
     have hlk := look_b hmd HMP.out.2 hone
     obtain ⟨z, hz⟩ : ∃ z, Maps.size D = z := ⟨_, rfl⟩
     obtain ⟨q, hq⟩ : ∃ q, decide (one ∈ chs l (ms.take ms.length)) = q := ⟨_, rfl⟩
     rw [hz] at hln hsz
     rw [hq] at hlk
     have hz2 : z ≤ 1500 := by omega
     clear hz hq hsz hcl hmd
     go_wp2_with fail
     go_region
     go_wp2_with fail
     refine bodyPost_ret (v := .tuple #[.int .i64 (z : Int), .bool q]) (by simp [results, Tryz.f91, go_sem]) rfl ?_
     exact ⟨z, q, rfl, hz2, HBW.out.drew⟩
end Go.Proofs.YthhckdjagnlgpaaGreat
end
