/-
  The walk of DeltaJoins.
-/
import Derived.Test.YtacnbgfddidfiaaSa
import Derived.Test.YtacnbgfddidfiaaMi
namespace Go.Proofs.Ytacnbgfddidfiaa
open Go.RowKit Go.IntWalk
open Pk
set_option maxRecDepth 100000

theorem at_news {w : World} {B b o : Nat} {xs : List Value} (h : At w B (some ⟨b, o, none⟩) xs) : ∀ j u, xs[j]? = some u → w.cell? ((⟨b, o, none⟩ : Addr).add j) = some u := by
  intro j u hu
  obtain ⟨b', o', e, _, hc⟩ := h j u hu
  cases e
  rw [Go.WideShapes.add_plain]
  exact hc
theorem ivs_one (xs : List Int) : ∀ u ∈ ivs xs, u.oneCell' = true := by
  intro u hu
  simp only [ivs, List.mem_map] at hu
  obtain ⟨x, _, rfl⟩ := hu
  rfl
theorem ivs_app (a b : List Int) : ivs (a ++ b) = ivs a ++ ivs b := by simp [ivs]
theorem own_one (w : World) (x : Int) : (w.alloc (.cells #[.int .i64 x] 3)).ownsRow w.heap.size 3 1 (.slice (some ⟨w.heap.size, 0, none⟩) 1 1) 1 (ivs [x]) :=
  ⟨rfl, .inr ⟨w.heap.size, 1, #[.int .i64 x], rfl, Nat.le_refl _, heap_alloc_new w _, Nat.le_refl _, by unfold maxLen; omega, rfl, rfl⟩⟩
theorem slice_head (g n cap k : Nat) (h : k ≤ cap) (W : World) :
    (Instr.slice 22 (.slice (some ⟨g, 0, none⟩) n cap) none (some (.int .i64 (k : Int))) none).run Try.prog W = .ok (.slice (some ⟨g, 0, none⟩) k cap) W := by
  have h1 : (k : Int) ≤ (cap : Int) := by omega
  by_cases hc : cap = 0
  · simp [go_sem, hc]
    omega
  · simp [go_sem, hc, h1]

theorem below_own2 {B : Nat} {w w1 w2 : World} {v : Value} {e : TypeId} {size n : Nat} {xs : List Value} (hb : Below B w w1) (hB : B ≤ w1.heap.size) (hown : w1.ownsRow B e size v n xs) (hg : w1.grownBy w2 v.ownBlock) : Below B w w2 :=
  hb.grown hg hB (fun k hk => (hown.lt k hk).1)
theorem own_head {w : World} {B : Nat} {e : TypeId} {v : Value} {n m : Nat} {xs ys : List Value} (h : w.ownsRow B e 1 v n xs) (hn : n = m) (hx : xs = ys) : w.ownsRow B e 1 v m ys := by subst hn; subst hx; exact h

theorem rising_kb {A : Option Addr} {cap n : Nat} (xs : List Int) (b : Bool) (hr : rises xs = b) (hn : xs.length = n) (hx : n ≤ 100000) (hcap : n ≤ cap) {w : World} (hc : At w w.heap.size A (ivs xs)) :
    Calls Try.prog 21 #[.slice A n cap] w fun e w' => e = .returned (.bool b) ∧ Below w.heap.size w w' := by
  subst hr; exact rising_k xs hn hx hcap hc
theorem j_keep {g : Nat} {w w' : World} {p1 p2 : Addr} {v1 v2 : Value} (h1 : w.cell? p1 = some v1) (h2 : w.cell? p2 = some v2) (l1 : p1.block < g) (l2 : p2.block < g) (hb : Below g w w') : w'.cell? p1 = some v1 ∧ w'.cell? p2 = some v2 ∧ Below g w w' :=
  ⟨(hb.cell (p := p1) l1).trans h1, (hb.cell (p := p2) l2).trans h2, hb⟩

namespace deltaJoins
theorem walk_out (A1 A2 : Option Addr) (c1 c2 n m : Nat) (hn : n ≤ maxLen) (hm : m ≤ maxLen) (h : 100 < n ∨ (n ≤ 100 ∧ 100 < m) ∨ (n ≤ 100 ∧ m ≤ 100 ∧ n = 0) ∨ (0 < n ∧ n ≤ 100 ∧ m = 0)) (w : World) :
    Calls Try.prog 7 #[.slice A1 n c1, .slice A2 m c2] w fun e w' => e = .returned (.bool true) ∧ Below w.heap.size w w' := by
  unfold maxLen at hn hm
  rcases h with h | ⟨h, h'⟩ | ⟨h, h', rfl⟩ | ⟨h, h', rfl⟩
  · go_enter Try.func7, Try.ntmps7
    go_wp2_with fail
    refine (live5_c _).mono ?_
    rintro e w1 ⟨rfl, hb1⟩
    go_wp2
    go_ret
    exact ⟨rfl, hb1⟩
  · go_enter Try.func7, Try.ntmps7
    go_wp2_with fail
    refine (live5_c _).mono ?_
    rintro e w1 ⟨rfl, hb1⟩
    go_wp2
    go_ret
    exact ⟨rfl, hb1⟩
  · go_enter Try.func7, Try.ntmps7
    go_wp2_with fail
    refine (live5_c _).mono ?_
    rintro e w1 ⟨rfl, hb1⟩
    go_wp2
    go_ret
    exact ⟨rfl, hb1⟩
  · go_enter Try.func7, Try.ntmps7
    go_wp2_with fail
    refine (live5_c _).mono ?_
    rintro e w1 ⟨rfl, hb1⟩
    go_wp2
    go_ret
    exact ⟨rfl, hb1⟩

set_option maxHeartbeats 8000000 in
theorem walk_in (A1 A2 : Option Addr) (c1 c2 k : Nat) (xs : List Int) (z y0 : Int) (ms : List Int) (hxl : xs.length = k + 1) (hk : k + 1 ≤ 100) (hm : ms.length + 1 ≤ 100) (hxz : xs[k]? = some z) (hxi : Ints xs) (hyi : Ints (y0 :: ms)) (hc1 : k + 1 ≤ c1) (hc2 : ms.length + 1 ≤ c2)
    (w : World) (ha1 : At w w.heap.size A1 (ivs xs)) (ha2 : At w w.heap.size A2 (ivs (y0 :: ms))) :
    Calls Try.prog 7 #[.slice A1 (k + 1) c1, .slice A2 (ms.length + 1) c2] w fun e w' => e = .returned (.bool true) ∧ Below w.heap.size w w' := by
  obtain ⟨i0, hi, hz0, hz1, hz2⟩ := info_parts Try.info3
  obtain ⟨b1, o1, rfl, hlt1, hcz⟩ := ha1 k _ (ivs_at hxz)
  obtain ⟨b2, o2, rfl, hlt2, hcy⟩ := ha2 0 _ rfl
  rw [Nat.add_zero] at hcy
  have hzi := hxi z (mem_at hxz)
  have HX := Lib.hid ha1
  have HY := Lib.hid ha2
  have HCZ := Lib.hid hcz
  have HCY := Lib.hid hcy
  have HXL := Lib.hid hxl
  have HXI := Lib.hid hxi
  have HYI := Lib.hid hyi
  have HZI := Lib.hid hzi
  have HC1 := Lib.hid hc1
  have HC2 := Lib.hid hc2
  have HXZ := Lib.hid hxz
  have hbA : decide (100 < (k : Int) + 1) = false := by simp; omega
  have hbB : decide (100 < (ms.length : Int) + 1) = false := by simp; omega
  have hbC : ((k : Int) + 1 == 0) = false := by simp; omega
  have hbD : ((ms.length : Int) + 1 == 0) = false := by simp; omega
  have hol := World.ownsRow_made (base := w.heap.size) (e := 3) (size := 1) w #[] 0 (Nat.le_refl _) (by unfold maxLen; omega) rfl
  have HOL := Lib.hid hol
  have hx0 : At (w.alloc (.cells #[] 3)) w.heap.size (some ⟨b1, o1, none⟩) (ivs xs) := ha1.below ((Below.refl _ _).alloc (Nat.le_refl _) _)
  have HX0 := Lib.hid hx0
  have hxl2 : (ivs xs).length = (k + 1) * 1 := by rw [ivs_len, hxl]; omega
  have HXL2 := Lib.hid hxl2
  obtain ⟨l', hl'⟩ := split_last hxl hxz
  obtain ⟨E, hE⟩ : ∃ E, E = encD (dl z (y0 :: ms)) := ⟨_, rfl⟩
  obtain ⟨H, hH⟩ : ∃ H, encL xs = H := ⟨_, rfl⟩
  obtain ⟨O, hO⟩ : ∃ O, encL [z] = O := ⟨_, rfl⟩
  obtain ⟨S, hS⟩ : ∃ S, S = H ++ E := ⟨_, rfl⟩
  obtain ⟨T, hT⟩ : ∃ T, T = O ++ E := ⟨_, rfl⟩
  have hse : encL (xs ++ (y0 :: ms)) = S := by rw [hl', encL_app, ← hl', hH, hS, hE]
  have hte : encL ([z] ++ (y0 :: ms)) = T := by
    have := encL_app z [] (y0 :: ms)
    rw [List.nil_append, hO] at this
    rw [this, hT, hE]
  have hris : rises (xs ++ (y0 :: ms)) = (rises xs && rises (y0 :: ms) && decide (z < y0)) := by rw [hl', rises_app]
  have HSE := Lib.hid hse
  have HTE := Lib.hid hte
  have HH := Lib.hid hH
  have HO := Lib.hid hO
  have HRIS := Lib.hid hris
  have hsH := ba_size H
  have hsO := ba_size O
  have hsS := ba_size S
  have hsT := ba_size T
  have hlS : H.length ≤ S.length := by rw [hS]; simp
  have hlT : O.length ≤ T.length := by rw [hT]; simp
  have hSl : S.length ≤ 2000 := by rw [← hse]; have := (encL_len (xs ++ (y0 :: ms))).2; simp at this; omega
  have hTl : T.length ≤ 2000 := by rw [← hte]; have := (encL_len ([z] ++ (y0 :: ms))).2; rw [List.length_append, List.length_cons, List.length_cons, List.length_nil] at this; omega
  have hext1 : (ba S).extract H.length S.length = ba E := by rw [extract_drop, hS, List.drop_left]
  have hext2 : (ba T).extract O.length T.length = ba E := by rw [extract_drop, hT, List.drop_left]
  have hext3 : (ba S).extract 0 H.length = ba H := by rw [extract_take, hS, List.take_left]
  have hdS : decide ((S.length : Int) < (H.length : Int)) = false := by simp; omega
  have hdT : decide ((T.length : Int) < (O.length : Int)) = false := by simp; omega
  clear hl' hE hH hO hS hT hse hte hris
  clear ha1 ha2 hcz hcy hxl hxi hyi hzi hc1 hc2 hxz hol hx0 hxl2
  go_enter Try.func7, Try.ntmps7
  have hyl2 : (ivs (y0 :: ms)).length = (ms.length + 1) * 1 := by rw [ivs_len]; simp
  have HYL2 := Lib.hid hyl2
  clear hyl2
  go_wp2_with (first
    | (at_builtin; refine wpList_append_own _ rfl _ _ 22 rfl w.heap.size 3 i0 (.int .i64 0) 1 8 Try.underlying22 hi hz0 hz1 hz2 rfl (by decide) _ _ _ rfl HOL.out ⟨b1, o1, none⟩ (k + 1) c1 (ivs xs) rfl HXL2.out (at_news HX0.out) (ivs_one xs) (by unfold maxLen; omega) (by omega) (by simp) ?_; intro v1 w1 hown1 hgrow1 _; have hb1 := below_own2 ((Below.refl w.heap.size w).alloc (Nat.le_refl _) _) (by simp) HOL.out hgrow1; have hs1 := hb1.size; have HOWN := Lib.hid (own_head hown1 (Nat.zero_add (k + 1)) (List.nil_append _)); have HY1 := Lib.hid (HY.out.below hb1); clear HOL HX0 hown1 hgrow1)
    | (at_builtin; refine wpList_append_own _ rfl _ _ 22 rfl w.heap.size 3 i0 (.int .i64 0) 1 8 Try.underlying22 hi hz0 hz1 hz2 rfl (by decide) _ _ _ rfl HOWN.out ⟨b2, o2, none⟩ (ms.length + 1) c2 (ivs (y0 :: ms)) rfl HYL2.out (at_news HY1.out) (ivs_one (y0 :: ms)) (by unfold maxLen; omega) (by omega) hs1 ?_; intro v2 w2 hown2 hgrow2 _; have hb2 := below_own2 hb1 hs1 HOWN.out hgrow2; obtain ⟨Aa, ca, rfl, hata, -, hca⟩ := own_at hown2; have HATA := Lib.hid hata; have HCA := Lib.hid hca; have HC2Z := Lib.hid ((hb2.cell (p := ⟨b1, o1 + k, none⟩) hlt1).trans HCZ.out); have hcz := HC2Z.out; clear HOWN HY1 hown2 hgrow2 hb1 hs1 hata hca)
    | (at_builtin; refine wpList_append_own _ rfl _ _ 22 rfl w2.heap.size 3 i0 (.int .i64 0) 1 8 Try.underlying22 hi hz0 hz1 hz2 rfl (by decide) _ _ _ rfl (own_one w2 z) ⟨b2, o2, none⟩ (ms.length + 1) c2 (ivs (y0 :: ms)) rfl HYL2.out (at_news (HY.out.below (hb2.alloc hb2.size (.cells #[.int .i64 z] 3)))) (ivs_one (y0 :: ms)) (by unfold maxLen; omega) (by omega) (by simp) ?_; intro v3 w3 hown3 hgrow3 _; have hm3 := below_own2 ((Below.refl w2.heap.size w2).alloc (Nat.le_refl _) _) (by simp) (own_one w2 z) hgrow3; have HOWN3 := Lib.hid (own_head hown3 (show 1 + (ms.length + 1) = ms.length + 1 + 1 by omega) (ivs_app [z] (y0 :: ms)).symm); clear hown3 hgrow3 hcz; obtain ⟨g3, ca3, rfl⟩ := ownsRow_succ HOWN3.out))
  have hb3 := hb2.trans (hm3.mono hb2.size)
  obtain ⟨A3, ca3', h3e, hat3, -, hca3⟩ := own_at HOWN3.out
  injection h3e with h3a h3b h3c
  subst h3a
  subst h3c
  have HATA := Lib.hid (HATA.out.keep hm3)
  have HAT3 := Lib.hid hat3
  have hca1 : (1 : Int) ≤ (ca3 : Int) := by omega
  have hca0 : ¬ ca3 = 0 := by omega
  clear hat3 hm3 hb2 HOWN3 hca3
  have hxall : (xs ++ (y0 :: ms)).length = k + 1 + (ms.length + 1) := by rw [List.length_append, HXL.out]; rfl
  have HXALL := Lib.hid hxall
  have hatall : At w3 w3.heap.size Aa (ivs (xs ++ (y0 :: ms))) := by rw [ivs_app]; exact HATA.out
  have HATA := Lib.hid hatall
  clear hxall hatall h3b
  refine (encode_k (xs ++ (y0 :: ms)) HXALL.out (by omega) HATA.out).mono ?_
  rintro e w4 ⟨rfl, hm4⟩
  rw [HSE.out]
  have HATA := Lib.hid (HATA.out.keep hm4)
  have HAT3 := Lib.hid (HAT3.out.keep hm4)
  have hb4 := hb3.trans (hm4.mono hb3.size)
  clear hm4 hb3
  go_wp2_with fail
  refine (encode_k xs HXL.out (by omega) (HX.out.keep hb4)).mono ?_
  rintro e w5 ⟨rfl, hm5⟩
  rw [HH.out]
  have HATA := Lib.hid (HATA.out.keep hm5)
  have HAT3 := Lib.hid (HAT3.out.keep hm5)
  have hb5 := hb4.trans (hm5.mono hb4.size)
  clear hm5 hb4
  go_wp2_with fail
  refine (encode_k ([z] ++ (y0 :: ms)) (by simp) (by omega) HAT3.out).mono ?_
  rintro e w6 ⟨rfl, hm6⟩
  rw [HTE.out]
  have HATA := Lib.hid (HATA.out.keep hm6)
  have HAT3 := Lib.hid (HAT3.out.keep hm6)
  have hb6 := hb5.trans (hm6.mono hb5.size)
  clear hm6 hb5
  go_wp2_with fail
  refine (encode_k [z] rfl (by simp) ((HAT3.out.take 1) : At w6 w6.heap.size (some ⟨g3, 0, none⟩) (ivs [z]))).mono ?_
  rintro e w7 ⟨rfl, hm7⟩
  rw [HO.out]
  have HATA := Lib.hid (HATA.out.keep hm7)
  have hb7 := hb6.trans (hm7.mono hb6.size)
  clear hm7 hb6 HAT3
  go_wp2_with fail
  go_quiet (fail)
  have HATA := Lib.hid (at_drewN HATA.out nq)
  have hb8 := below_drewN hb7 nq
  obtain ⟨w8, hw8⟩ : ∃ w8, w8 = w7.drewN nq := ⟨_, rfl⟩
  rw [← hw8] at HATA hb8 ⊢
  clear hw8 hb7
  go_wp2_with fail
  have hkx : k + 1 ≤ 100000 := by omega
  have hkw : IntKind.i64.wrap (k : Int) = (k : Int) := by rw [i64_left]; exact wrap64_in _ (by omega)
  have hk0 : (0 : Int) ≤ (k : Int) := by omega
  have hk1 : (k : Int) < (k : Int) + 1 := by omega
  have hm0 : (0 : Int) < (ms.length : Int) + 1 := by omega
  have hmx : ms.length + 1 ≤ 100000 := by omega
  have HATD : At w8.drew w8.drew.heap.size Aa (ivs (xs ++ (y0 :: ms))) := HATA.out
  have hallx : k + 1 + (ms.length + 1) ≤ 100000 := by omega
  have HATD := Lib.hid HATD
  clear HATA
  cases hp : rises xs with
  | false =>
    have HP := Lib.hid hp
    have hR1 := rising_kb (cap := ca) (xs ++ (y0 :: ms)) false (by rw [HRIS.out, hp]; rfl) HXALL.out hallx HCA.out HATD.out
    obtain ⟨q, hq⟩ : ∃ q, rises (y0 :: ms) = q := ⟨_, rfl⟩
    have HQ := Lib.hid hq
    clear hp hq
    refine wp_region_any (by kernel_rfl) ?_
    change wpAny _ _ _ _ _ _ _ (World.drew _)
    refine wpAny_take (i := 0) (v := ?_) rfl (by kernel_rfl) (by kernel_rfl) (by kernel_rfl) (fun _ _ _ h => h) (Or.inl ⟨by rfl, ?_⟩) ?_
    rotate_left
    · intro w; go_simp; try with_reducible rfl
    go_simp
    refine wpAny_take (i := 2) (v := ?_) rfl (by kernel_rfl) (by kernel_rfl) (by kernel_rfl) (fun _ _ _ h => h) (Or.inl ⟨by rfl, ?_⟩) ?_
    rotate_left
    · intro w; go_simp; try with_reducible rfl
    go_simp
    refine wpAny_ready (rs := [1]) (by kernel_rfl) (by simp) (AllReady.cons rfl (fun K hK => ?_) AllReady.nil)
    go_simp
    go_wp2_with (go_at_call 21; refine hR1.mono ?_; clear hR1; rintro e w9 ⟨rfl, hm9⟩; have hb9 := hb8.drew.trans (hm9.mono hb8.size); clear hm9; have hR2 := rising_kb (cap := c1) xs false HP.out HXL.out hkx HC1.out (HX.out.keep hb9))
    try (refine hK _ _ ?_)
    try clear hK
    try clear K
    refine wpAny_ready (rs := [3]) (by kernel_rfl) (by simp) (AllReady.cons rfl (fun K hK => ?_) AllReady.nil)
    go_simp
    go_wp2_with (go_at_call 21; refine hR2.mono ?_; clear hR2; rintro e w10 ⟨rfl, hm10⟩; have hb10 := hb9.trans (hm10.mono hb9.size); clear hm10; have hR3 := rising_kb (cap := c2) (n := ms.length + 1) (y0 :: ms) q HQ.out rfl hmx HC2.out (HY.out.keep hb10))
    try (refine hK _ _ ?_)
    try clear hK
    try clear K
    refine wpAny_take (i := 4) (v := ?_) rfl (by kernel_rfl) (by kernel_rfl) (by kernel_rfl) (fun _ _ _ h => h) (Or.inl ⟨by rfl, ?_⟩) ?_
    rotate_left
    · intro w; go_simp; try with_reducible rfl
    go_simp
    refine wpAny_take (i := 5) (v := undef) rfl (by kernel_rfl) (by kernel_rfl) (by kernel_rfl) (fun _ _ _ h => h) (Or.inr ⟨by rfl, rfl⟩) ?_
    go_simp
    refine wpAny_take (i := 6) (v := undef) rfl (by kernel_rfl) (by kernel_rfl) (by kernel_rfl) (fun _ _ _ h => h) (Or.inr ⟨by rfl, rfl⟩) ?_
    go_simp
    refine wpAny_take (i := 7) (v := ?_) rfl (by kernel_rfl) (by kernel_rfl) (by kernel_rfl) (fun _ _ _ h => h) (Or.inl ⟨by rfl, ?_⟩) ?_
    rotate_left
    · intro w; go_simp; try with_reducible rfl
    go_simp
    refine wpAny_take (i := 8) (v := ?_) rfl (by kernel_rfl) (by kernel_rfl) (by kernel_rfl) (fun _ _ _ h => h) (Or.inl ⟨by rfl, ?_⟩) ?_
    rotate_left
    · intro w; go_simp; try with_reducible rfl
    go_simp
    refine wpAny_take (i := 9) (v := undef) rfl (by kernel_rfl) (by kernel_rfl) (by kernel_rfl) (fun _ _ _ h => h) (Or.inr ⟨by rfl, rfl⟩) ?_
    go_simp
    refine wpAny_take (i := 10) (v := undef) rfl (by kernel_rfl) (by kernel_rfl) (by kernel_rfl) (fun _ _ _ h => h) (Or.inr ⟨by rfl, rfl⟩) ?_
    go_simp
    refine wpAny_take (i := 11) (v := undef) rfl (by kernel_rfl) (by kernel_rfl) (by kernel_rfl) (fun _ _ _ h => h) (Or.inr ⟨by rfl, rfl⟩) ?_
    go_simp
    refine wpAny_take (i := 12) (v := undef) rfl (by kernel_rfl) (by kernel_rfl) (by kernel_rfl) (fun _ _ _ h => h) (Or.inr ⟨by rfl, rfl⟩) ?_
    go_simp
    refine wpAny_take (i := 13) (v := undef) rfl (by kernel_rfl) (by kernel_rfl) (by kernel_rfl) (fun _ _ _ h => h) (Or.inr ⟨by rfl, rfl⟩) ?_
    go_simp
    refine wpAny_take (i := 14) (v := undef) rfl (by kernel_rfl) (by kernel_rfl) (by kernel_rfl) (fun _ _ _ h => h) (Or.inr ⟨by rfl, rfl⟩) ?_
    go_simp
    refine wpAny_take (i := 15) (v := undef) rfl (by kernel_rfl) (by kernel_rfl) (by kernel_rfl) (fun _ _ _ h => h) (Or.inr ⟨by rfl, rfl⟩) ?_
    go_simp
    refine wpAny_take (i := 16) (v := undef) rfl (by kernel_rfl) (by kernel_rfl) (by kernel_rfl) (fun _ _ _ h => h) (Or.inr ⟨by rfl, rfl⟩) ?_
    go_simp
    refine wpAny_take (i := 17) (v := undef) rfl (by kernel_rfl) (by kernel_rfl) (by kernel_rfl) (fun _ _ _ h => h) (Or.inr ⟨by rfl, rfl⟩) ?_
    go_simp
    refine wpAny_take (i := 18) (v := undef) rfl (by kernel_rfl) (by kernel_rfl) (by kernel_rfl) (fun _ _ _ h => h) (Or.inr ⟨by rfl, rfl⟩) ?_
    go_simp
    refine wpAny_take (i := 19) (v := ?_) rfl (by kernel_rfl) (by kernel_rfl) (by kernel_rfl) (fun _ _ _ h => h) (Or.inl ⟨by rfl, ?_⟩) ?_
    rotate_left
    · intro w; go_simp; try with_reducible rfl
    go_simp
    refine wpAny_take (i := 20) (v := ?_) rfl (by kernel_rfl) (by kernel_rfl) (by kernel_rfl) (fun _ _ _ h => h) (Or.inl ⟨by rfl, ?_⟩) ?_
    rotate_left
    · intro w; go_simp; try with_reducible rfl
    go_simp
    refine wpAny_take (i := 21) (v := ?_) rfl (by kernel_rfl) (by kernel_rfl) (by kernel_rfl) (fun _ _ _ h => h) (Or.inl ⟨by rfl, ?_⟩) ?_
    rotate_left
    · intro w; go_simp; try with_reducible rfl
    go_simp
    refine wpAny_ready (rs := [22]) (by kernel_rfl) (by simp) (AllReady.cons rfl (fun K hK => ?_) AllReady.nil)
    go_simp
    go_wp2_with (go_at_call 13; refine (live5_c _).mono ?_; rintro e w12 ⟨rfl, hm12⟩; have hb12 := hb10.trans (hm12.mono hb10.size); clear hm12)
    try (refine hK _ _ ?_)
    try clear hK
    try clear K
    refine wpAny_take (i := 23) (v := ?_) rfl (by kernel_rfl) (by kernel_rfl) (by kernel_rfl) (fun _ _ _ h => h) (Or.inl ⟨by rfl, ?_⟩) ?_
    rotate_left
    · intro w; go_simp; try with_reducible rfl
    go_simp
    refine wpAny_take (i := 24) (v := ?_) rfl (by kernel_rfl) (by kernel_rfl) (by kernel_rfl) (fun _ _ _ h => h) (Or.inl ⟨by rfl, ?_⟩) ?_
    rotate_left
    · intro w; go_simp; try with_reducible rfl
    go_simp
    refine wpAny_done (by kernel_rfl) ?_ _
    go_wp2
    go_ret
    exact ⟨rfl, hb12⟩
  | true =>
    have HP := Lib.hid hp
    cases hq : rises (y0 :: ms) with
    | false =>
      have HQ := Lib.hid hq
      have hR1 := rising_kb (cap := ca) (xs ++ (y0 :: ms)) false (by rw [HRIS.out, hp, hq]; rfl) HXALL.out hallx HCA.out HATD.out
      clear hp hq
      refine wp_region_any (by kernel_rfl) ?_
      change wpAny _ _ _ _ _ _ _ (World.drew _)
      refine wpAny_take (i := 0) (v := ?_) rfl (by kernel_rfl) (by kernel_rfl) (by kernel_rfl) (fun _ _ _ h => h) (Or.inl ⟨by rfl, ?_⟩) ?_
      rotate_left
      · intro w; go_simp; try with_reducible rfl
      go_simp
      refine wpAny_take (i := 2) (v := ?_) rfl (by kernel_rfl) (by kernel_rfl) (by kernel_rfl) (fun _ _ _ h => h) (Or.inl ⟨by rfl, ?_⟩) ?_
      rotate_left
      · intro w; go_simp; try with_reducible rfl
      go_simp
      refine wpAny_ready (rs := [1]) (by kernel_rfl) (by simp) (AllReady.cons rfl (fun K hK => ?_) AllReady.nil)
      go_simp
      go_wp2_with (go_at_call 21; refine hR1.mono ?_; clear hR1; rintro e w9 ⟨rfl, hm9⟩; have hb9 := hb8.drew.trans (hm9.mono hb8.size); clear hm9; have hR2 := rising_kb (cap := c1) xs true HP.out HXL.out hkx HC1.out (HX.out.keep hb9))
      try (refine hK _ _ ?_)
      try clear hK
      try clear K
      refine wpAny_ready (rs := [3]) (by kernel_rfl) (by simp) (AllReady.cons rfl (fun K hK => ?_) AllReady.nil)
      go_simp
      go_wp2_with (go_at_call 21; refine hR2.mono ?_; clear hR2; rintro e w10 ⟨rfl, hm10⟩; have hb10 := hb9.trans (hm10.mono hb9.size); clear hm10; have hR3 := rising_kb (cap := c2) (n := ms.length + 1) (y0 :: ms) false HQ.out rfl hmx HC2.out (HY.out.keep hb10))
      try (refine hK _ _ ?_)
      try clear hK
      try clear K
      refine wpAny_take (i := 4) (v := ?_) rfl (by kernel_rfl) (by kernel_rfl) (by kernel_rfl) (fun _ _ _ h => h) (Or.inl ⟨by rfl, ?_⟩) ?_
      rotate_left
      · intro w; go_simp; try with_reducible rfl
      go_simp
      refine wpAny_take (i := 5) (v := ?_) rfl (by kernel_rfl) (by kernel_rfl) (by kernel_rfl) (fun _ _ _ h => h) (Or.inl ⟨by rfl, ?_⟩) ?_
      rotate_left
      · intro w; go_simp; try with_reducible rfl
      go_simp
      refine wpAny_ready (rs := [6]) (by kernel_rfl) (by simp) (AllReady.cons rfl (fun K hK => ?_) AllReady.nil)
      go_simp
      go_wp2_with (go_at_call 21; refine hR3.mono ?_; clear hR3; rintro e w11 ⟨rfl, hm11⟩; have hb11 := hb10.trans (hm11.mono hb10.size); clear hm11)
      try (refine hK _ _ ?_)
      try clear hK
      try clear K
      refine wpAny_take (i := 7) (v := ?_) rfl (by kernel_rfl) (by kernel_rfl) (by kernel_rfl) (fun _ _ _ h => h) (Or.inl ⟨by rfl, ?_⟩) ?_
      rotate_left
      · intro w; go_simp; try with_reducible rfl
      go_simp
      refine wpAny_take (i := 8) (v := ?_) rfl (by kernel_rfl) (by kernel_rfl) (by kernel_rfl) (fun _ _ _ h => h) (Or.inl ⟨by rfl, ?_⟩) ?_
      rotate_left
      · intro w; go_simp; try with_reducible rfl
      go_simp
      refine wpAny_take (i := 9) (v := undef) rfl (by kernel_rfl) (by kernel_rfl) (by kernel_rfl) (fun _ _ _ h => h) (Or.inr ⟨by rfl, rfl⟩) ?_
      go_simp
      refine wpAny_take (i := 10) (v := undef) rfl (by kernel_rfl) (by kernel_rfl) (by kernel_rfl) (fun _ _ _ h => h) (Or.inr ⟨by rfl, rfl⟩) ?_
      go_simp
      refine wpAny_take (i := 11) (v := undef) rfl (by kernel_rfl) (by kernel_rfl) (by kernel_rfl) (fun _ _ _ h => h) (Or.inr ⟨by rfl, rfl⟩) ?_
      go_simp
      refine wpAny_take (i := 12) (v := undef) rfl (by kernel_rfl) (by kernel_rfl) (by kernel_rfl) (fun _ _ _ h => h) (Or.inr ⟨by rfl, rfl⟩) ?_
      go_simp
      refine wpAny_take (i := 13) (v := undef) rfl (by kernel_rfl) (by kernel_rfl) (by kernel_rfl) (fun _ _ _ h => h) (Or.inr ⟨by rfl, rfl⟩) ?_
      go_simp
      refine wpAny_take (i := 14) (v := undef) rfl (by kernel_rfl) (by kernel_rfl) (by kernel_rfl) (fun _ _ _ h => h) (Or.inr ⟨by rfl, rfl⟩) ?_
      go_simp
      refine wpAny_take (i := 15) (v := undef) rfl (by kernel_rfl) (by kernel_rfl) (by kernel_rfl) (fun _ _ _ h => h) (Or.inr ⟨by rfl, rfl⟩) ?_
      go_simp
      refine wpAny_take (i := 16) (v := undef) rfl (by kernel_rfl) (by kernel_rfl) (by kernel_rfl) (fun _ _ _ h => h) (Or.inr ⟨by rfl, rfl⟩) ?_
      go_simp
      refine wpAny_take (i := 17) (v := undef) rfl (by kernel_rfl) (by kernel_rfl) (by kernel_rfl) (fun _ _ _ h => h) (Or.inr ⟨by rfl, rfl⟩) ?_
      go_simp
      refine wpAny_take (i := 18) (v := undef) rfl (by kernel_rfl) (by kernel_rfl) (by kernel_rfl) (fun _ _ _ h => h) (Or.inr ⟨by rfl, rfl⟩) ?_
      go_simp
      refine wpAny_take (i := 19) (v := ?_) rfl (by kernel_rfl) (by kernel_rfl) (by kernel_rfl) (fun _ _ _ h => h) (Or.inl ⟨by rfl, ?_⟩) ?_
      rotate_left
      · intro w; go_simp; try with_reducible rfl
      go_simp
      refine wpAny_take (i := 20) (v := ?_) rfl (by kernel_rfl) (by kernel_rfl) (by kernel_rfl) (fun _ _ _ h => h) (Or.inl ⟨by rfl, ?_⟩) ?_
      rotate_left
      · intro w; go_simp; try with_reducible rfl
      go_simp
      refine wpAny_take (i := 21) (v := ?_) rfl (by kernel_rfl) (by kernel_rfl) (by kernel_rfl) (fun _ _ _ h => h) (Or.inl ⟨by rfl, ?_⟩) ?_
      rotate_left
      · intro w; go_simp; try with_reducible rfl
      go_simp
      refine wpAny_ready (rs := [22]) (by kernel_rfl) (by simp) (AllReady.cons rfl (fun K hK => ?_) AllReady.nil)
      go_simp
      go_wp2_with (go_at_call 13; refine (live5_c _).mono ?_; rintro e w12 ⟨rfl, hm12⟩; have hb12 := hb11.trans (hm12.mono hb11.size); clear hm12)
      try (refine hK _ _ ?_)
      try clear hK
      try clear K
      refine wpAny_take (i := 23) (v := ?_) rfl (by kernel_rfl) (by kernel_rfl) (by kernel_rfl) (fun _ _ _ h => h) (Or.inl ⟨by rfl, ?_⟩) ?_
      rotate_left
      · intro w; go_simp; try with_reducible rfl
      go_simp
      refine wpAny_take (i := 24) (v := ?_) rfl (by kernel_rfl) (by kernel_rfl) (by kernel_rfl) (fun _ _ _ h => h) (Or.inl ⟨by rfl, ?_⟩) ?_
      rotate_left
      · intro w; go_simp; try with_reducible rfl
      go_simp
      refine wpAny_done (by kernel_rfl) ?_ _
      go_wp2
      go_ret
      exact ⟨rfl, hb12⟩
    | true =>
      have HQ := Lib.hid hq
      by_cases hd : z < y0
      · have hR1 := rising_kb (cap := ca) (xs ++ (y0 :: ms)) true (by rw [HRIS.out, hp, hq, decide_eq_true hd]; rfl) HXALL.out hallx HCA.out HATD.out
        have hdd : decide (z < y0) = true := decide_eq_true hd
        clear hp hq hd
        go_region_held3 (fun w' => w'.cell? ⟨b1, o1 + k, none⟩ = some (.int .i64 z) ∧ w'.cell? ⟨b2, o2, none⟩ = some (.int .i64 y0) ∧ Below w.heap.size w w')
          (first
            | (exact j_keep HCZ.out HCY.out hlt1 hlt2 hb8.drew)
            | (exact j_keep HCZ.out HCY.out hlt1 hlt2 hb9)
            | (exact j_keep HCZ.out HCY.out hlt1 hlt2 hb9.drew)
            | (exact j_keep HCZ.out HCY.out hlt1 hlt2 hb10)
            | (exact j_keep HCZ.out HCY.out hlt1 hlt2 hb10.drew)
            | (exact j_keep HCZ.out HCY.out hlt1 hlt2 hb11)
            | (exact j_keep HCZ.out HCY.out hlt1 hlt2 hb11.drew)
            | (exact j_keep HCZ.out HCY.out hlt1 hlt2 hb12)
            | go_keep)
          (first
            | (go_at_call 21; refine hR1.mono ?_; clear hR1; rintro e w9 ⟨rfl, hm9⟩; have hb9 := hb8.drew.trans (hm9.mono hb8.size); clear hm9; have hR2 := rising_kb (cap := c1) xs true HP.out HXL.out hkx HC1.out (HX.out.keep hb9))
            | (go_at_call 21; refine hR2.mono ?_; clear hR2; rintro e w10 ⟨rfl, hm10⟩; have hb10 := hb9.trans (hm10.mono hb9.size); clear hm10; have hR3 := rising_kb (cap := c2) (n := ms.length + 1) (y0 :: ms) true HQ.out rfl hmx HC2.out (HY.out.keep hb10))
            | (go_at_call 21; refine hR3.mono ?_; clear hR3; rintro e w11 ⟨rfl, hm11⟩; have hb11 := hb10.trans (hm11.mono hb10.size); clear hm11)
            | (go_at_call 13; refine (live5_c _).mono ?_; rintro e w12 ⟨rfl, hm12⟩; have hb12 := hb11.trans (hm12.mono hb11.size); clear hm12))
        go_wp2
        go_ret
        exact ⟨rfl, hb12⟩
      · have hR1 := rising_kb (cap := ca) (xs ++ (y0 :: ms)) false (by rw [HRIS.out, hp, hq, decide_eq_false hd]; rfl) HXALL.out hallx HCA.out HATD.out
        have hdd : decide (z < y0) = false := decide_eq_false hd
        clear hp hq hd
        go_region_held3 (fun w' => w'.cell? ⟨b1, o1 + k, none⟩ = some (.int .i64 z) ∧ w'.cell? ⟨b2, o2, none⟩ = some (.int .i64 y0) ∧ Below w.heap.size w w')
          (first
            | (exact j_keep HCZ.out HCY.out hlt1 hlt2 hb8.drew)
            | (exact j_keep HCZ.out HCY.out hlt1 hlt2 hb9)
            | (exact j_keep HCZ.out HCY.out hlt1 hlt2 hb9.drew)
            | (exact j_keep HCZ.out HCY.out hlt1 hlt2 hb10)
            | (exact j_keep HCZ.out HCY.out hlt1 hlt2 hb10.drew)
            | (exact j_keep HCZ.out HCY.out hlt1 hlt2 hb11)
            | (exact j_keep HCZ.out HCY.out hlt1 hlt2 hb11.drew)
            | (exact j_keep HCZ.out HCY.out hlt1 hlt2 hb12)
            | go_keep)
          (first
            | (go_at_call 21; refine hR1.mono ?_; clear hR1; rintro e w9 ⟨rfl, hm9⟩; have hb9 := hb8.drew.trans (hm9.mono hb8.size); clear hm9; have hR2 := rising_kb (cap := c1) xs true HP.out HXL.out hkx HC1.out (HX.out.keep hb9))
            | (go_at_call 21; refine hR2.mono ?_; clear hR2; rintro e w10 ⟨rfl, hm10⟩; have hb10 := hb9.trans (hm10.mono hb9.size); clear hm10; have hR3 := rising_kb (cap := c2) (n := ms.length + 1) (y0 :: ms) true HQ.out rfl hmx HC2.out (HY.out.keep hb10))
            | (go_at_call 21; refine hR3.mono ?_; clear hR3; rintro e w11 ⟨rfl, hm11⟩; have hb11 := hb10.trans (hm11.mono hb10.size); clear hm11)
            | (go_at_call 13; refine (live5_c _).mono ?_; rintro e w12 ⟨rfl, hm12⟩; have hb12 := hb11.trans (hm12.mono hb11.size); clear hm12))
        go_wp2
        go_ret
        exact ⟨rfl, hb12⟩

theorem walk (A1 : Option Addr) (c1 : Nat) (xs : List Int) (A2 : Option Addr) (c2 : Nat) (ys : List Int) (hc1 : xs.length ≤ c1) (hz1 : xs.length ≤ maxLen) (hw1 : ∀ x ∈ xs, (Lit.int .i64 x).wf = true) (hc2 : ys.length ≤ c2) (hz2 : ys.length ≤ maxLen) (hw2 : ∀ x ∈ ys, (Lit.int .i64 x).wf = true)
    (w : World) (ha1 : At w w.heap.size A1 (ivs xs)) (ha2 : At w w.heap.size A2 (ivs ys)) :
    Calls Try.prog 7 #[.slice A1 xs.length c1, .slice A2 ys.length c2] w fun e w' => e = .returned (.bool true) ∧ Below w.heap.size w w' := by
  rcases Nat.lt_or_ge 100 xs.length with h | h
  · exact walk_out A1 A2 c1 c2 _ _ hz1 hz2 (.inl h) w
  rcases Nat.lt_or_ge 100 ys.length with h2 | h2
  · exact walk_out A1 A2 c1 c2 _ _ hz1 hz2 (.inr (.inl ⟨h, h2⟩)) w
  obtain ⟨n, hn⟩ : ∃ n, xs.length = n := ⟨_, rfl⟩
  rcases n with _ | k
  · exact walk_out A1 A2 c1 c2 _ _ hz1 hz2 (.inr (.inr (.inl ⟨h, h2, hn⟩))) w
  rcases ys with _ | ⟨y0, ms⟩
  · exact walk_out A1 A2 c1 c2 _ _ hz1 hz2 (.inr (.inr (.inr ⟨by omega, h, rfl⟩))) w
  obtain ⟨z, hz⟩ := some_at (show k < xs.length by omega)
  rw [hn] at hc1 h ⊢
  exact walk_in A1 A2 c1 c2 k xs z y0 ms hn h h2 hz (ints_of hw1) (ints_of hw2) hc1 hc2 w ha1 ha2
end deltaJoins
end Go.Proofs.Ytacnbgfddidfiaa
