/-
  The walk of RealsJoins.
-/
import Derived.Test.YtjjbiepmfngipaaLh
import Derived.Test.YtjjbiepmfngipaaVh
import Derived.WalkSmall
import Derived.Laws.AppendOwnNone
import Derived.Deep.QuietTactic
import Derived.BigQuiet
namespace Go.Proofs.Ytjjbiepmfngipaa
open Go.RowKit Go.IntWalk
open Pk Fl Re
set_option maxRecDepth 100000
attribute [local go_sem] Oper.semAt_some

theorem good_cbs {xs : List Nat} (h : Words xs) : Re.Good (cbs xs) := fun u hu => by
  simp only [cbs, List.mem_map] at hu
  obtain ⟨x, hx, rfl⟩ := hu
  exact ⟨cb_lt x (h x hx), cn_cb (h x hx)⟩
theorem at_news {w : World} {B b o : Nat} {xs : List Value} (h : At w B (some ⟨b, o, none⟩) xs) : ∀ j u, xs[j]? = some u → w.cell? ((⟨b, o, none⟩ : Addr).add j) = some u := by
  intro j u hu
  obtain ⟨b', o', e, _, hc⟩ := h j u hu
  cases e
  rw [Go.WideShapes.add_plain]
  exact hc
theorem fvs_one (xs : List Nat) : ∀ u ∈ fvs xs, u.oneCell' = true := by
  intro u hu
  simp only [fvs, List.mem_map] at hu
  obtain ⟨x, _, rfl⟩ := hu
  rfl
theorem fvs_app (a b : List Nat) : fvs (a ++ b) = fvs a ++ fvs b := by simp [fvs]
theorem cbs_app (a b : List Nat) : cbs (a ++ b) = cbs a ++ cbs b := by simp [cbs]
theorem below_own2 {B : Nat} {w w1 w2 : World} {v : Value} {e : TypeId} {size n : Nat} {xs : List Value} (hb : Below B w w1) (hB : B ≤ w1.heap.size) (hown : w1.ownsRow B e size v n xs) (hg : w1.grownBy w2 v.ownBlock) : Below B w w2 :=
  hb.grown hg hB (fun k hk => (hown.lt k hk).1)
theorem own_oneF (w : World) (x : Nat) : (w.alloc (.cells #[.float .f64 x] 33)).ownsRow w.heap.size 33 1 (.slice (some ⟨w.heap.size, 0, none⟩) 1 1) 1 (fvs [x]) :=
  ⟨rfl, .inr ⟨w.heap.size, 1, #[.float .f64 x], rfl, Nat.le_refl _, heap_alloc_new w _, Nat.le_refl _, by unfold maxLen; omega, rfl, rfl⟩⟩
theorem words_app {a b : List Nat} (h : Words a) (k : Words b) : Words (a ++ b) := fun u hu => by
  rcases List.mem_append.1 hu with h1 | h1
  · exact h u h1
  · exact k u h1

/-- append of numbers with a point that came in, or of none -/
theorem append_optF (w : World) {ops : Array Oper} {rest : List Oper} {o : Oper} {a : Act} {Q : Exit → Act → World → Prop}
    (hg : o.guard = none) (s x : Operand) (hop : o.op = Op.call { callee := Callee.builtin Builtin.append, args := #[s, x], argTypes := #[22, 22] })
    (base : Nat) (v : Value) (k : Nat) (us : List Nat) (hs : a.eval s = v) (hown : w.ownsRow base 33 1 v k (fvs us)) (A : Option Addr) (c : Nat) (vs : List Nat) (n : Nat) (hnv : n = vs.length) (hx : a.eval x = .slice A n c) (hn : A = none → c = 0) (hvl : n ≤ c)
    (hc : At w base A (fvs vs)) (hlen : k + n ≤ 100000) (b3 : base ≤ w.heap.size)
    (hK : ∀ v' w', w'.ownsRow base 33 1 v' (k + n) (fvs (us ++ vs)) → w.grownBy w' v.ownBlock → wpList Try.prog ops Q rest (a.put o.dst v') w') :
    wpList Try.prog ops Q (o :: rest) a w := by
  subst hnv
  obtain ⟨i0, hi, hz0, hz1, hz2⟩ := info_parts Try.info33
  rcases A with _ | ⟨b, off, spot⟩
  · obtain rfl : c = 0 := hn rfl
    obtain rfl : vs = [] := List.eq_nil_of_length_eq_zero (by omega)
    exact wpList_append_own_none hg s x _ hop base _ i0 1 Try.underlying22 hi v k (fvs us) hs hown hx (hK v w (by simpa using hown) (World.grownBy.refl w _))
  · by_cases hv : vs = []
    · subst hv
      refine wpList_append_own w hg s x _ hop base _ i0 (.float .f64 0) 1 8 Try.underlying22 hi hz0 hz1 hz2 rfl (by decide) v k (fvs us) hs hown ⟨b, off, spot⟩ 0 c [] hx rfl (fun j u hu => by simp at hu) (fun u hu => by simp at hu) (by unfold maxLen; simp at hlen; omega) (by simp at hlen; omega) b3 ?_
      intro v' w' h1 h2 _
      exact hK v' w' (by simpa using h1) h2
    · obtain ⟨y, ys, rfl⟩ : ∃ y ys, vs = y :: ys := by cases vs with | nil => exact absurd rfl hv | cons y ys => exact ⟨y, ys, rfl⟩
      obtain ⟨b', off', e, _, _⟩ := hc 0 _ rfl
      cases e
      refine wpList_append_own w hg s x _ hop base _ i0 (.float .f64 0) 1 8 Try.underlying22 hi hz0 hz1 hz2 rfl (by decide) v k (fvs us) hs hown ⟨b, off, none⟩ (y :: ys).length c (fvs (y :: ys)) hx (by rw [fvs_len, Nat.mul_one]) (at_news hc) (fvs_one _) (by unfold maxLen; omega) (by omega) b3 ?_
      intro v' w' h1 h2 _
      exact hK v' w' (by rw [fvs_app]; exact h1) h2
theorem encodeR_n {A : Option Addr} {cap n : Nat} (xs : List Nat) (S : List UInt8) (hn : n = xs.length) (hS : encR (cbs xs) = S) (hx : n ≤ 100000) (hw : Words xs) {w : World} (hc : At w w.heap.size A (fvs xs)) :
    Calls Try.prog 16 #[.slice A n cap] w fun e w' => e = .returned (.string (ba S)) ∧ Below w.heap.size w w' := by
  subst hn hS
  exact encodeR_c A cap xs hx hw w hc
theorem lst_end {xs : List Nat} {k z : Nat} (hl : xs.length = k + 1) (hz : xs[k]? = some z) : lst 0 (cbs xs) = cb z := by
  have h : xs.take (k + 1) = xs := by rw [← hl, List.take_length]
  have := lst_take (l := xs) hz
  rwa [h] at this

namespace realsJoins
theorem walk_out (A1 A2 : Option Addr) (c1 c2 n m : Nat) (hn : n ≤ maxLen) (hm : m ≤ maxLen) (h : 50 < n ∨ (n ≤ 50 ∧ 50 < m) ∨ (n ≤ 50 ∧ m ≤ 50 ∧ n = 0)) (w : World) :
    Calls Try.prog 7 #[.slice A1 n c1, .slice A2 m c2] w fun e w' => e = .returned (.bool true) ∧ Below w.heap.size w w' := by
  unfold maxLen at hn hm
  rcases h with h | ⟨h, h'⟩ | ⟨h, h', rfl⟩
  all_goals
    go_enter Try.func7, Try.ntmps7
    go_wp2_with fail
    refine (live9_c _).mono ?_
    rintro e w1 ⟨rfl, hb1⟩
    go_wp2
    go_ret
    exact ⟨rfl, hb1⟩

set_option maxHeartbeats 8000000 in
theorem walk_in (A1 A2 : Option Addr) (c1 c2 k m : Nat) (xs ys : List Nat) (z : Nat) (hxl : xs.length = k + 1) (hk : k + 1 ≤ 50) (hyl : m = ys.length) (hm : m ≤ 50) (hxz : xs[k]? = some z) (hxw : Words xs) (hyw : Words ys) (hn1 : A1 = none → c1 = 0) (hc1 : k + 1 ≤ c1) (hn2 : A2 = none → c2 = 0) (hc2 : m ≤ c2)
    (w : World) (ha1 : At w w.heap.size A1 (fvs xs)) (ha2 : At w w.heap.size A2 (fvs ys)) :
    Calls Try.prog 7 #[.slice A1 (k + 1) c1, .slice A2 m c2] w fun e w' => e = .returned (.bool true) ∧ Below w.heap.size w w' := by
  obtain ⟨b1, o1, rfl, hlt1, hcz⟩ := ha1 k _ (fvs_at hxz)
  have hz64 := words_at hxw hxz
  have HX := Lib.hid ha1
  have HY := Lib.hid ha2
  have HCZ := Lib.hid hcz
  have HXL := Lib.hid hxl
  have HYL := Lib.hid hyl
  have HXW := Lib.hid hxw
  have HYW := Lib.hid hyw
  have HN2 := Lib.hid hn2
  have HZW := Lib.hid (show Words [z] from fun u hu => by rw [List.mem_singleton.1 hu]; exact hz64)
  have hbA : decide (50 < (k : Int) + 1) = false := by simp; omega
  have hbB : decide (50 < (m : Int)) = false := by simp; omega
  have hbC : ((k : Int) + 1 == 0) = false := by simp; omega
  have hkw : IntKind.i64.wrap (k : Int) = (k : Int) := by rw [i64_left]; exact wrap64_in _ (by omega)
  have hk0 : (0 : Int) ≤ (k : Int) := by omega
  have hk1 : (k : Int) < (k : Int) + 1 := by omega
  have HOL := Lib.hid (World.ownsRow_made (base := w.heap.size) (e := 33) (size := 1) w #[] 0 (Nat.le_refl _) (by unfold maxLen; omega) rfl : (w.alloc (.cells #[] 33)).ownsRow w.heap.size 33 1 (.slice (some ⟨w.heap.size, 0, none⟩) 0 0) 0 (fvs []))
  obtain ⟨E, hE⟩ : ∃ E, E = encS (dx (cb z) (cbs ys)) := ⟨_, rfl⟩
  obtain ⟨H, hH⟩ : ∃ H, encR (cbs xs) = H := ⟨_, rfl⟩
  obtain ⟨O, hO⟩ : ∃ O, encR (cbs [z]) = O := ⟨_, rfl⟩
  obtain ⟨S, hS⟩ : ∃ S, S = H ++ E := ⟨_, rfl⟩
  obtain ⟨T, hT⟩ : ∃ T, T = O ++ E := ⟨_, rfl⟩
  have hse : encR (cbs (xs ++ ys)) = S := by rw [cbs_app, encR, dx_app, encS_app, lst_end hxl hxz, ← hE, hS, ← hH]; rfl
  have hte : encR (cbs ([z] ++ ys)) = T := by rw [cbs_app, encR, dx_app, encS_app, show lst 0 (cbs [z]) = cb z from rfl, ← hE, hT, ← hO]; rfl
  have HD := Lib.hid (show decR H ((k + 1 : Nat) : Int) = (cbs xs, 0) by have := decR_enc (cbs xs) (good_cbs hxw); rwa [cbs_len, hH, hxl] at this)
  have HSE := Lib.hid hse
  have HTE := Lib.hid hte
  have HH := Lib.hid hH
  have HO := Lib.hid hO
  have hsH := ba_size H
  have hsO := ba_size O
  have hsS := ba_size S
  have hsT := ba_size T
  have hlS : H.length ≤ S.length := by rw [hS]; simp
  have hlT : O.length ≤ T.length := by rw [hT]; simp
  have hHl : H.length ≤ 100000 := by rw [← hH]; have := (encR_len (cbs xs)).2; rw [cbs_len] at this; omega
  have hSl : S.length ≤ 2000 := by rw [← hse]; have := (encR_len (cbs (xs ++ ys))).2; rw [cbs_len, List.length_append] at this; omega
  have hTl : T.length ≤ 2000 := by rw [← hte]; have := (encR_len (cbs ([z] ++ ys))).2; rw [cbs_len, List.length_append, List.length_singleton] at this; omega
  have hext1 : (ba S).extract H.length S.length = ba E := by rw [extract_drop, hS, List.drop_left]
  have hext2 : (ba T).extract O.length T.length = ba E := by rw [extract_drop, hT, List.drop_left]
  have hext3 : (ba S).extract 0 H.length = ba H := by rw [extract_take, hS, List.take_left]
  have hdS : decide ((S.length : Int) < (H.length : Int)) = false := by simp; omega
  have hdT : decide ((T.length : Int) < (O.length : Int)) = false := by simp; omega
  have HHL := Lib.hid hHl
  clear hE hH hO hS hT hse hte ha1 ha2 hcz hxl hyl hxw hyw hn1 hn2 hxz hHl
  go_enter Try.func7, Try.ntmps7
  go_wp2_with (first
    | (at_builtin; refine append_optF _ rfl _ _ rfl w.heap.size _ 0 [] rfl HOL.out (some ⟨b1, o1, none⟩) c1 xs (k + 1) HXL.out.symm rfl (fun h => by cases h) hc1 (HX.out.below ((Below.refl _ _).alloc (Nat.le_refl _) _)) (by omega) (by simp) ?_; intro v1 w1 hown1 hgrow1; have hb1 := below_own2 ((Below.refl w.heap.size w).alloc (Nat.le_refl _) _) (by simp) HOL.out hgrow1; have hs1 := hb1.size; have HOWN := Lib.hid hown1; clear HOL hown1 hgrow1)
    | (at_builtin; refine append_optF _ rfl _ _ rfl w.heap.size _ _ _ rfl HOWN.out A2 c2 ys m HYL.out rfl HN2.out hc2 (HY.out.below hb1) (by omega) hs1 ?_; intro v2 w2 hown2 hgrow2; have hb2 := below_own2 hb1 hs1 HOWN.out hgrow2; obtain ⟨Aa, ca, rfl, hata, -, -⟩ := own_at hown2; have HATA := Lib.hid hata; have hcz := (hb2.cell (p := ⟨b1, o1 + k, none⟩) hlt1).trans HCZ.out; clear HOWN hown2 hgrow2 hb1 hs1 hata)
    | (at_builtin; refine append_optF _ rfl _ _ rfl w2.heap.size _ 1 [z] rfl (own_oneF w2 z) A2 c2 ys m HYL.out rfl HN2.out hc2 ((HY.out.below (hb2.alloc hb2.size (.cells #[.float .f64 z] 33))).mono hb2.size) (by omega) (by simp) ?_; intro v3 w3 hown3 hgrow3; have hm3 := below_own2 ((Below.refl w2.heap.size w2).alloc (Nat.le_refl _) _) (by simp) (own_oneF w2 z) hgrow3; have hown3' : w3.ownsRow w2.heap.size 33 1 v3 (m + 1) (fvs ([z] ++ ys)) := (by rw [Nat.add_comm]; exact hown3); obtain ⟨A3, ca3, rfl, hat3, -, hca3⟩ := own_at hown3'; clear hown3 hown3' hgrow3 hcz))
  have hb3 := hb2.trans (hm3.mono hb2.size)
  have HATA := Lib.hid (HATA.out.keep hm3)
  have HAT3 := Lib.hid hat3
  have hca1 : (1 : Int) ≤ (ca3 : Int) := by omega
  have hca0 : ¬ ca3 = 0 := by omega
  have HALW := Lib.hid (words_app HXW.out HYW.out)
  have HZYW := Lib.hid (words_app HZW.out HYW.out)
  have HALL := Lib.hid (show k + 1 + m = (xs ++ ys).length by rw [List.length_append, HXL.out, ← HYL.out])
  have HZYL := Lib.hid (show m + 1 = ([z] ++ ys).length by rw [List.length_append, List.length_singleton, ← HYL.out]; omega)
  clear hat3 hm3 hb2 hca3
  have hATA : At w3 w3.heap.size Aa (fvs (xs ++ ys)) := by have := HATA.out; simpa using this
  refine (encodeR_n (n := k + 1 + m) (xs ++ ys) S HALL.out HSE.out (by omega) HALW.out hATA).mono ?_
  rintro e w4 ⟨rfl, hm4⟩
  have HAT3 := Lib.hid (HAT3.out.keep hm4)
  have hb4 := hb3.trans (hm4.mono hb3.size)
  clear hm4 hb3 HATA hATA
  go_wp2_with fail
  refine (encodeR_n (n := k + 1) xs H HXL.out.symm HH.out (by omega) HXW.out (HX.out.keep hb4)).mono ?_
  rintro e w5 ⟨rfl, hm5⟩
  have HAT3 := Lib.hid (HAT3.out.keep hm5)
  have hb5 := hb4.trans (hm5.mono hb4.size)
  clear hm5 hb4
  go_wp2_with fail
  refine (encodeR_n (n := m + 1) ([z] ++ ys) T HZYL.out HTE.out (by omega) HZYW.out HAT3.out).mono ?_
  rintro e w6 ⟨rfl, hm6⟩
  have HAT3 := Lib.hid (HAT3.out.keep hm6)
  have hb6 := hb5.trans (hm6.mono hb5.size)
  clear hm6 hb5
  go_wp2_with fail
  have hone : At w6 w6.heap.size A3 (fvs [z]) := HAT3.out.take 1
  refine (encodeR_n (n := 1) [z] O rfl HO.out (by omega) HZW.out hone).mono ?_
  rintro e w7 ⟨rfl, hm7⟩
  have hb7 := hb6.trans (hm7.mono hb6.size)
  clear hm7 hb6 HAT3 hone
  go_wp2_with fail
  go_quiet (fail)
  have hb8 := below_drewN hb7 nq
  obtain ⟨w8, hw8⟩ : ∃ w8, w8 = w7.drewN nq := ⟨_, rfl⟩
  rw [← hw8] at hb8 ⊢
  clear hw8 hb7
  go_wp2_with fail
  refine (decodeR_c H ((k : Int) + 1) (by omega) (by omega) HHL.out _).mono ?_
  rintro e w9 ⟨A9, k9, zs, rfl, q9, g9, a9, hm9⟩
  have hdd : decR H ((k : Int) + 1) = (cbs xs, 0) := HD.out
  rw [hdd] at q9 ⊢
  have hzl : zs.length = k + 1 := by have := congrArg List.length q9; rw [cbs_len, cbs_len, HXL.out] at this; exact this
  have hb9 := hb8.trans (hm9.mono hb8.size)
  have HQ := Lib.hid (show cbs zs = cbs xs from q9)
  have HA9 := Lib.hid a9
  have HG9 := Lib.hid g9
  have HZL := Lib.hid hzl
  clear hdd q9 g9 a9 hm9 hb8
  rw [hzl]
  clear hzl
  go_wp2_with fail
  refine (same9_k (n1 := k + 1) (n2 := k + 1) zs xs _ _ true HZL.out.symm HXL.out.symm HQ.out rfl (by simp) (by rw [HZL.out]; omega) (by rw [HXL.out]; omega) HG9.out HXW.out HA9.out (HX.out.keep hb9)).mono ?_
  rintro e w10 ⟨rfl, hm10⟩
  have hb10 := hb9.trans (hm10.mono hb9.size)
  clear hm10 hb9
  go_wp2_with fail
  refine (live9_c _).mono ?_
  rintro e w11 ⟨rfl, hm11⟩
  go_wp2
  go_ret
  exact ⟨rfl, hb10.trans (hm11.mono hb10.size)⟩

theorem walk (A1 : Option Addr) (c1 : Nat) (xs : List Nat) (A2 : Option Addr) (c2 : Nat) (ys : List Nat) (hn1 : A1 = none → c1 = 0) (hc1 : xs.length ≤ c1) (hz1 : xs.length ≤ maxLen) (hw1 : Words xs) (hn2 : A2 = none → c2 = 0) (hc2 : ys.length ≤ c2) (hz2 : ys.length ≤ maxLen) (hw2 : Words ys)
    (w : World) (ha1 : At w w.heap.size A1 (fvs xs)) (ha2 : At w w.heap.size A2 (fvs ys)) :
    Calls Try.prog 7 #[.slice A1 xs.length c1, .slice A2 ys.length c2] w fun e w' => e = .returned (.bool true) ∧ Below w.heap.size w w' := by
  rcases Nat.lt_or_ge 50 xs.length with h | h
  · exact walk_out A1 A2 c1 c2 _ _ hz1 hz2 (.inl h) w
  rcases Nat.lt_or_ge 50 ys.length with h2 | h2
  · exact walk_out A1 A2 c1 c2 _ _ hz1 hz2 (.inr (.inl ⟨h, h2⟩)) w
  obtain ⟨n, hn⟩ : ∃ n, xs.length = n := ⟨_, rfl⟩
  rcases n with _ | k
  · exact walk_out A1 A2 c1 c2 _ _ hz1 hz2 (.inr (.inr ⟨h, h2, hn⟩)) w
  obtain ⟨z, hz⟩ := some_at (show k < xs.length by omega)
  rw [hn] at hc1 h ⊢
  exact walk_in A1 A2 c1 c2 k ys.length xs ys z hn h rfl h2 hz hw1 hw2 hn1 hc1 hn2 hc2 w ha1 ha2
end realsJoins
end Go.Proofs.Ytjjbiepmfngipaa
