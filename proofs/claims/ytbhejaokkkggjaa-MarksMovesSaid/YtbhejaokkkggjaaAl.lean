/-
  Some answers that chapter 17 gives.
-/
import Derived.Test.YtbhejaokkkggjaaAk
import Derived.Test.YtbhejaokkkggjaaUe
namespace Go.Proofs.Ytbhejaokkkggjaa
open Go.RowKit Go.IntWalk
set_option maxRecDepth 100000
attribute [local go_sem] Oper.semAt_some
attribute [-go_sem] run_eql_struct
attribute [local go_sem] time_guard eql_times

theorem at_isK {w : World} {g : Nat} {t : TypeId} {xs : List Value} (h : Is w g t xs) : At w w.heap.size (some ⟨g, 0, none⟩) xs := fun i v hv => ⟨g, 0, rfl, is_lt h, by rw [Nat.zero_add]; exact (is_cell h i).trans hv⟩
def m17 : List Mk := [(1, 3), (2, 5), (3, 9)]
theorem n17a : nextV (nextN m17 0) 2 = .tuple #[.agg #[.int .i64 10, .int .i64 2], .bool true] := rfl
theorem n17b : nextV (nextN m17 4611686018427387903) 2 = .tuple #[.agg #[.int .i64 0, .int .i64 0], .bool false] := rfl
theorem knext_k {A : Option Addr} {cap : Nat} {v : List Mk} {c r r2 : Int} {u : Value} (h : nextV (nextN v c) r = u) (hl : v.length ≤ 50000) {w : World} (hc : At w w.heap.size A (kvs v)) :
    Calls Try.prog 38 #[.slice A v.length cap, .agg #[.int .i64 c, .int .i64 r2], .int .i64 r] w fun e w' => e = .returned u ∧ Below w.heap.size w w' := by
  subst h; exact knext_c A cap v c r r2 hl w hc
theorem kbelow_k {A1 A2 : Option Addr} {c1 c2 : Nat} {a b : List Mk} {q : Bool} (h : belowK a b = q) (ha : a.length ≤ 100000) (hb : b.length ≤ 100000) {w : World} (k1 : At w w.heap.size A1 (kvs a)) (k2 : At w w.heap.size A2 (kvs b)) :
    Calls Try.prog 49 #[.slice A1 a.length c1, .slice A2 b.length c2] w fun e w' => e = .returned (.bool q) ∧ Below w.heap.size w w' := by
  subst h; exact kbelow_c A1 A2 c1 c2 a b (by unfold maxLen; omega) (by unfold maxLen; omega) w k1 k2
theorem kmay_k {A : Option Addr} {cap : Nat} {l : List Mk} {q : Bool} (h : mayK l = q) (hl : l.length ≤ 100000) {w : World} (hc : At w w.heap.size A (kvs l)) :
    Calls Try.prog 40 #[.slice A l.length cap] w fun e w' => e = .returned (.bool q) ∧ Below w.heap.size w w' := by
  subst h; exact kmay_c A cap l (by unfold maxLen; omega) w hc
theorem same17_k {A1 A2 : Option Addr} {c1 c2 : Nat} {xs ys : List Mk} {q : Bool} (h : decide (xs = ys) = q) (hx : xs.length ≤ 100000) (hy : ys.length ≤ 100000) {w : World} (h1 : At w w.heap.size A1 (kvs xs)) (h2 : At w w.heap.size A2 (kvs ys)) :
    Calls Try.prog 44 #[.slice A1 xs.length c1, .slice A2 ys.length c2] w fun e w' => e = .returned (.bool q) ∧ Below w.heap.size w w' := by
  subst h; exact same17_c A1 A2 c1 c2 xs ys (by unfold maxLen; omega) (by unfold maxLen; omega) w h1 h2

set_option maxHeartbeats 8000000 in
theorem live17_c (w : World) :
    Calls Try.prog 37 #[] w fun e w' => e = .returned (.bool true) ∧ Below w.heap.size w w' := by
  go_enter Try.func37, Try.ntmps37
  go_wp2_with fail
  refine (kRaise_k (A := none) (cap := 0) (l := []) (N := [(2, 5)]) rfl (by simp) (fun _ => rfl) (At.nil _ _ _)).mono ?_
  rintro e w1 ⟨A1, c1, rfl, ho1, hb1⟩
  have H1 := Lib.hid (own_atK ho1)
  have N1 := Lib.hid (own_noneK ho1)
  have HB1 := Lib.hid hb1
  clear ho1 hb1
  go_wp2_with fail
  refine (kRaise_k (A := A1) (cap := c1) (l := [(2, 5)]) (N := [(1, 3), (2, 5)]) rfl (by simp) N1.out H1.out).mono ?_
  rintro e w2 ⟨A2, c2, rfl, ho2, hb2⟩
  have H2 := Lib.hid (own_atK ho2)
  have N2 := Lib.hid (own_noneK ho2)
  have HB2 := Lib.hid (HB1.out.trans (hb2.mono HB1.out.size))
  clear ho2 hb2
  obtain ⟨w3, hw3⟩ : ∃ w3, w3 = w2.alloc (.cells #[.int .i64 2, .int .i64 4, .int .i64 3, .int .i64 9] 70) := ⟨_, rfl⟩
  have hb3 : Below w2.heap.size w2 w3 := by rw [hw3]; exact (Below.refl _ _).alloc (Nat.le_refl _) _
  have hI3 : Is w3 w2.heap.size 70 (kvs [(2, 4), (3, 9)]) := by rw [hw3]; exact is_new w2 70 (kvs [(2, 4), (3, 9)])
  have HI3 := Lib.hid (at_isK hI3)
  have HW3 := Lib.hid hw3
  have HB3 := Lib.hid (HB2.out.trans (hb3.mono HB2.out.size))
  have H3 := Lib.hid (H2.out.keep hb3)
  clear hw3 hb3 hI3
  go_wp2_with fail
  rw [← HW3.out]
  refine (kjoin_c A2 (some ⟨w2.heap.size, 0, none⟩) c2 2 [(1, 3), (2, 5)] [(2, 4), (3, 9)] (by simp) N2.out w3 H3.out HI3.out).mono ?_
  rintro e w4 ⟨A4, c4, rfl, ho4, hb4⟩
  have H4 := Lib.hid (show At w4 w4.heap.size A4 (kvs m17) from own_atK ho4)
  have H24 := Lib.hid (H3.out.keep hb4)
  have HB4 := Lib.hid (HB3.out.trans (hb4.mono HB3.out.size))
  clear ho4 hb4 HW3 HI3 H3
  rw [show (joinK [(1, 3), (2, 5)] [(2, 4), (3, 9)]).length = 3 from rfl]
  go_wp2_with fail
  refine (knext_k (v := m17) n17a (by decide) H4.out).mono ?_
  rintro e w5 ⟨rfl, hb5⟩
  have H5 := Lib.hid (H4.out.keep hb5)
  have H25 := Lib.hid (H24.out.keep hb5)
  have HB5 := Lib.hid (HB4.out.trans (hb5.mono HB4.out.size))
  clear hb5
  obtain ⟨w6, hw6⟩ : ∃ w6, w6 = w5.alloc (.cells #[.int .i64 10, .int .i64 2] 35) := ⟨_, rfl⟩
  have hb6 : Below w5.heap.size w5 w6 := by rw [hw6]; exact (Below.refl _ _).alloc (Nat.le_refl _) _
  have HT6 := Lib.hid (show Is w6 w5.heap.size 35 [.int .i64 10, .int .i64 2] by rw [hw6]; exact is_new w5 35 _)
  have HW6 := Lib.hid hw6
  have H6 := Lib.hid (H5.out.keep hb6)
  have H26 := Lib.hid (H25.out.keep hb6)
  have HB6 := Lib.hid (HB5.out.trans (hb6.mono HB5.out.size))
  clear hw6 hb6 H5 H25 H4 H24 H2 H1
  go_wp2_with fail
  rw [← HW6.out]
  refine (knext_k (v := m17) n17b (by decide) H6.out).mono ?_
  rintro e w7 ⟨rfl, hb7⟩
  have HT7 := Lib.hid (is_below HT6.out hb7 (is_lt HT6.out))
  have H7 := Lib.hid (H6.out.keep hb7)
  have H27 := Lib.hid (H26.out.keep hb7)
  have HB7 := Lib.hid (HB6.out.trans (hb7.mono HB6.out.size))
  clear hb7 H6 H26 HT6 HW6
  obtain ⟨w8, hw8⟩ : ∃ w8, w8 = (w7.alloc (.cells #[.int .i64 0, .int .i64 0] 35)).alloc (.cells #[.int .i64 1, .int .i64 3, .int .i64 2, .int .i64 5] 70) := ⟨_, rfl⟩
  have hb8 : Below w7.heap.size w7 w8 := by rw [hw8]; exact ((Below.refl _ _).alloc (Nat.le_refl _) _).alloc (by simp) _
  have hI8 : Is w8 (w7.heap.size + 1) 70 (kvs [(1, 3), (2, 5)]) := by
    have := is_new (w7.alloc (.cells #[.int .i64 0, .int .i64 0] 35)) 70 (kvs [(1, 3), (2, 5)])
    rw [World.size_alloc] at this
    rw [hw8]; exact this
  have HI8 := Lib.hid (at_isK hI8)
  have HW8 := Lib.hid hw8
  have HT8 := Lib.hid (is_below HT7.out hb8 (is_lt HT7.out))
  have H8 := Lib.hid (H7.out.keep hb8)
  have H28 := Lib.hid (H27.out.keep hb8)
  have HB8 := Lib.hid (HB7.out.trans (hb8.mono HB7.out.size))
  clear hw8 hb8 hI8 H7 H27 HT7
  go_wp2_with fail
  rw [← HW8.out]
  refine (same17_k (xs := [(1, 3), (2, 5)]) (ys := [(1, 3), (2, 5)]) (q := true) (by decide) (by simp) (by simp) H28.out HI8.out).mono ?_
  rintro e w9 ⟨rfl, hb9⟩
  have HT9 := Lib.hid (is_below HT8.out hb9 (is_lt HT8.out))
  have H9 := Lib.hid (H8.out.keep hb9)
  have H29 := Lib.hid (H28.out.keep hb9)
  have HB9 := Lib.hid (HB8.out.trans (hb9.mono HB8.out.size))
  clear hb9 H8 H28 HT8 HW8 HI8
  go_wp2_with fail
  refine (kget_k (l := m17) (c := 2) (v := 5) rfl (by decide) _ H9.out).mono ?_
  rintro e w10 ⟨rfl, hb10⟩
  have HT10 := Lib.hid (is_below HT9.out hb10 (is_lt HT9.out))
  have H10 := Lib.hid (H9.out.keep hb10)
  have H210 := Lib.hid (H29.out.keep hb10)
  have HB10 := Lib.hid (HB9.out.trans (hb10.mono HB9.out.size))
  clear hb10 H9 H29 HT9
  go_wp2_with fail
  refine (kget_k (l := m17) (c := 9) (v := 0) rfl (by decide) _ H10.out).mono ?_
  rintro e w11 ⟨rfl, hb11⟩
  have HT11 := Lib.hid (is_below HT10.out hb11 (is_lt HT10.out))
  have H11 := Lib.hid (H10.out.keep hb11)
  have H211 := Lib.hid (H210.out.keep hb11)
  have HB11 := Lib.hid (HB10.out.trans (hb11.mono HB10.out.size))
  clear hb11 H10 H210 HT10
  go_wp2_with fail
  refine (kbelow_k (a := [(1, 3), (2, 5)]) (b := m17) (q := true) rfl (by decide) (by decide) H211.out H11.out).mono ?_
  rintro e w12 ⟨rfl, hb12⟩
  have HT12 := Lib.hid (is_below HT11.out hb12 (is_lt HT11.out))
  have H12 := Lib.hid (H11.out.keep hb12)
  have H212 := Lib.hid (H211.out.keep hb12)
  have HB12 := Lib.hid (HB11.out.trans (hb12.mono HB11.out.size))
  clear hb12 H11 H211 HT11
  go_wp2_with fail
  refine (kbelow_k (a := m17) (b := [(1, 3), (2, 5)]) (q := false) rfl (by decide) (by decide) H12.out H212.out).mono ?_
  rintro e w13 ⟨rfl, hb13⟩
  have HT13 := Lib.hid (is_below HT12.out hb13 (is_lt HT12.out))
  have H13 := Lib.hid (H12.out.keep hb13)
  have HB13 := Lib.hid (HB12.out.trans (hb13.mono HB12.out.size))
  clear hb13 H12 H212 HT12
  go_wp2_with fail
  refine (kmay_k (l := m17) (q := true) rfl (by decide) H13.out).mono ?_
  rintro e w14 ⟨rfl, hb14⟩
  have HT14 := Lib.hid (is_below HT13.out hb14 (is_lt HT13.out))
  have HB14 := Lib.hid (HB13.out.trans (hb14.mono HB13.out.size))
  clear hb14 H13 HT13
  obtain ⟨w15, hw15⟩ : ∃ w15, w15 = w14.alloc (.cells #[.int .i64 1, .int .i64 0] 70) := ⟨_, rfl⟩
  have hb15 : Below w14.heap.size w14 w15 := by rw [hw15]; exact (Below.refl _ _).alloc (Nat.le_refl _) _
  have HI15 := Lib.hid (show At w15 w15.heap.size (some ⟨w14.heap.size, 0, none⟩) (kvs [(1, 0)]) from at_isK (show Is w15 w14.heap.size 70 (kvs [(1, 0)]) by rw [hw15]; exact is_new w14 70 (kvs [(1, 0)])))
  have HW15 := Lib.hid hw15
  have HT15 := Lib.hid (is_below HT14.out hb15 (is_lt HT14.out))
  have HB15 := Lib.hid (HB14.out.trans (hb15.mono HB14.out.size))
  clear hw15 hb15 HT14
  go_wp2_with fail
  rw [← HW15.out]
  refine (kmay_k (l := [(1, 0)]) (q := false) rfl (by decide) HI15.out).mono ?_
  rintro e w16 ⟨rfl, hb16⟩
  obtain ⟨t0, t1⟩ := box2K (is_below HT15.out hb16 (is_lt HT15.out))
  have HB16 := Lib.hid (HB15.out.trans (hb16.mono HB15.out.size))
  clear hb16 HT15 HW15 HI15
  go_wp2_with fail
  obtain ⟨w17, hw17⟩ : ∃ w17, w17 = w16.alloc (.cells #[.int .i64 1, .int .i64 1, .int .i64 0, .int .i64 0, .string ⟨#[]⟩, .float .f64 0, .int .i64 2, .int .i64 1, .int .i64 0, .int .i64 0, .string ⟨#[]⟩, .float .f64 0] 38) := ⟨_, rfl⟩
  have hb17 : Below w16.heap.size w16 w17 := by rw [hw17]; exact (Below.refl _ _).alloc (Nat.le_refl _) _
  have hI17 : Is w17 w16.heap.size 38 (mvs [(1, 1, 0, 0, [], 0), (2, 1, 0, 0, [], 0)]) := by rw [hw17]; exact is_new w16 38 (mvs [(1, 1, 0, 0, [], 0), (2, 1, 0, 0, [], 0)])
  have HI17 := Lib.hid (at_isK hI17)
  have HW17 := Lib.hid hw17
  have HB17 := Lib.hid (HB16.out.trans (hb17.mono HB16.out.size))
  clear hw17 hb17 hI17 t0 t1
  rw [← HW17.out]
  refine (kof_c (some ⟨w16.heap.size, 0, none⟩) 2 [(1, 1, 0, 0, [], 0), (2, 1, 0, 0, [], 0)] (by simp) w17 HI17.out).mono ?_
  rintro e w18 ⟨A18, c18, rfl, ho18, hb18⟩
  rw [show ofK [(1, 1, 0, 0, [], 0), (2, 1, 0, 0, [], 0)] = [(1, 2)] from rfl] at ho18 ⊢
  have HB18 := Lib.hid (HB17.out.trans (hb18.mono HB17.out.size))
  obtain ⟨w19, hw19⟩ : ∃ w19, w19 = w18.alloc (.cells #[.int .i64 1, .int .i64 2] 70) := ⟨_, rfl⟩
  have hb19 : Below w18.heap.size w18 w19 := by rw [hw19]; exact (Below.refl _ _).alloc (Nat.le_refl _) _
  have HI19 := Lib.hid (show At w19 w19.heap.size (some ⟨w18.heap.size, 0, none⟩) (kvs [(1, 2)]) from at_isK (show Is w19 w18.heap.size 70 (kvs [(1, 2)]) by rw [hw19]; exact is_new w18 70 (kvs [(1, 2)])))
  have HO19 := Lib.hid ((own_atK ho18).keep hb19)
  have HW19 := Lib.hid hw19
  have HB19 := Lib.hid (HB18.out.trans (hb19.mono HB18.out.size))
  clear ho18 hb18 hw19 hb19 HI17 HW17
  go_wp2_with fail
  rw [← HW19.out]
  refine (same17_k (xs := [(1, 2)]) (ys := [(1, 2)]) (q := true) (by decide) (by simp) (by simp) HO19.out HI19.out).mono ?_
  rintro e w20 ⟨rfl, hb20⟩
  have HB20 := Lib.hid (HB19.out.trans (hb20.mono HB19.out.size))
  clear hb20
  go_wp2_with fail
  go_ret
  exact ⟨rfl, HB20.out⟩
end Go.Proofs.Ytbhejaokkkggjaa
