/-
  The walk of RunsJoins.
-/
import Derived.Test.YtacnbgfddidfiaaSi
import Derived.Laws.AppendOwnNone
import Derived.Deep.RegionHeld3
namespace Go.Proofs.Ytacnbgfddidfiaa
open Go.RowKit Go.IntWalk
open Pk
set_option maxRecDepth 100000
attribute [local go_sem] Oper.semAt_some

theorem at_news {w : World} {B b o : Nat} {xs : List Value} (h : At w B (some ⟨b, o, none⟩) xs) : ∀ j u, xs[j]? = some u → w.cell? ((⟨b, o, none⟩ : Addr).add j) = some u := by
  intro j u hu
  obtain ⟨b', o', e, _, hc⟩ := h j u hu
  cases e
  rw [Go.WideShapes.add_plain]
  exact hc
theorem uvs_one (xs : List Nat) : ∀ u ∈ uvs xs, u.oneCell' = true := by
  intro u hu
  simp only [uvs, List.mem_map] at hu
  obtain ⟨x, _, rfl⟩ := hu
  rfl
theorem uvs_app (a b : List Nat) : uvs (a ++ b) = uvs a ++ uvs b := by simp [uvs]
theorem below_own2 {B : Nat} {w w1 w2 : World} {v : Value} {e : TypeId} {size n : Nat} {xs : List Value} (hb : Below B w w1) (hB : B ≤ w1.heap.size) (hown : w1.ownsRow B e size v n xs) (hg : w1.grownBy w2 v.ownBlock) : Below B w w2 :=
  hb.grown hg hB (fun k hk => (hown.lt k hk).1)

/-- append of numbers that came in, or of none -/
theorem append_opt (w : World) {ops : Array Oper} {rest : List Oper} {o : Oper} {a : Act} {Q : Exit → Act → World → Prop}
    (hg : o.guard = none) (s x : Operand) (hop : o.op = Op.call { callee := Callee.builtin Builtin.append, args := #[s, x], argTypes := #[37, 37] })
    (base : Nat) (v : Value) (k : Nat) (us : List Nat) (hs : a.eval s = v) (hown : w.ownsRow base 34 1 v k (uvs us)) (A : Option Addr) (c : Nat) (vs : List Nat) (hx : a.eval x = .slice A vs.length c) (hn : A = none → c = 0) (hvl : vs.length ≤ c)
    (hc : At w base A (uvs vs)) (hlen : k + vs.length ≤ 100000) (b3 : base ≤ w.heap.size)
    (hK : ∀ v' w', w'.ownsRow base 34 1 v' (k + vs.length) (uvs (us ++ vs)) → w.grownBy w' v.ownBlock → wpList Try.prog ops Q rest (a.put o.dst v') w') :
    wpList Try.prog ops Q (o :: rest) a w := by
  obtain ⟨i0, hi, hz0, hz1, hz2⟩ := info_parts Try.info34
  rcases A with _ | ⟨b, off, spot⟩
  · obtain rfl : c = 0 := hn rfl
    obtain rfl : vs = [] := List.eq_nil_of_length_eq_zero (by omega)
    exact wpList_append_own_none hg s x _ hop base _ i0 1 Try.underlying37 hi v k (uvs us) hs hown hx (hK v w (by simpa using hown) (World.grownBy.refl w _))
  · by_cases hv : vs = []
    · subst hv
      refine wpList_append_own w hg s x _ hop base _ i0 (.int .u64 0) 1 8 Try.underlying37 hi hz0 hz1 hz2 rfl (by decide) v k (uvs us) hs hown ⟨b, off, spot⟩ 0 c [] hx rfl (fun j u hu => by simp at hu) (fun u hu => by simp at hu) (by unfold maxLen; simp at hlen; omega) (by simp at hlen; omega) b3 ?_
      intro v' w' h1 h2 _
      exact hK v' w' (by simpa using h1) h2
    · obtain ⟨y, ys, rfl⟩ : ∃ y ys, vs = y :: ys := by cases vs with | nil => exact absurd rfl hv | cons y ys => exact ⟨y, ys, rfl⟩
      obtain ⟨b', off', e, _, _⟩ := hc 0 _ rfl
      cases e
      refine wpList_append_own w hg s x _ hop base _ i0 (.int .u64 0) 1 8 Try.underlying37 hi hz0 hz1 hz2 rfl (by decide) v k (uvs us) hs hown ⟨b, off, none⟩ (y :: ys).length c (uvs (y :: ys)) hx (by rw [uvs_len, Nat.mul_one]) (at_news hc) (uvs_one _) (by unfold maxLen; omega) (by omega) b3 ?_
      intro v' w' h1 h2 _
      exact hK v' w' (by rw [uvs_app]; exact h1) h2

theorem rvs_take (r : List Run) (k : Nat) : (rvs r).take (k * 2) = rvs (r.take k) := by
  induction r generalizing k with
  | nil => simp [rvs]
  | cons x r ih =>
    have hc : rvs (x :: r) = .int .u64 (x.1 : Int) :: .int .i64 x.2 :: rvs r := rfl
    match k with
    | 0 => rfl
    | k + 1 =>
      rw [hc, show (k + 1) * 2 = k * 2 + 1 + 1 by omega, List.take_succ_cons, List.take_succ_cons, ih, List.take_succ_cons]
      rfl
theorem rvs_drop (r : List Run) (k : Nat) : (rvs r).drop (k * 2) = rvs (r.drop k) := by
  induction r generalizing k with
  | nil => simp [rvs]
  | cons x r ih =>
    have hc : rvs (x :: r) = .int .u64 (x.1 : Int) :: .int .i64 x.2 :: rvs r := rfl
    match k with
    | 0 => rfl
    | k + 1 =>
      rw [hc, show (k + 1) * 2 = k * 2 + 1 + 1 by omega, List.drop_succ_cons, List.drop_succ_cons, ih, List.drop_succ_cons]

theorem encU_app {us vs : List Nat} (h : ∀ x y, us.getLast? = some x → vs.head? = some y → x ≠ y) : encU (us ++ vs) = encU us ++ encU vs := by
  unfold encU
  rw [runs_app h, encR_app]

theorem five_keep {W0 W' : World} {p1 p2 p3 p4 p5 : Addr} {v1 v2 v3 v4 v5 : Value} (h : W0.cell? p1 = some v1 ∧ W0.cell? p2 = some v2 ∧ W0.cell? p3 = some v3 ∧ W0.cell? p4 = some v4 ∧ W0.cell? p5 = some v5) (hb : Below W0.heap.size W0 W') :
    W'.cell? p1 = some v1 ∧ W'.cell? p2 = some v2 ∧ W'.cell? p3 = some v3 ∧ W'.cell? p4 = some v4 ∧ W'.cell? p5 = some v5 ∧ Below W0.heap.size W0 W' := by
  obtain ⟨h1, h2, h3, h4, h5⟩ := h
  exact ⟨(hb.cell (World.block_lt_of_cell? _ _ h1)).trans h1, (hb.cell (World.block_lt_of_cell? _ _ h2)).trans h2, (hb.cell (World.block_lt_of_cell? _ _ h3)).trans h3, (hb.cell (World.block_lt_of_cell? _ _ h4)).trans h4, (hb.cell (World.block_lt_of_cell? _ _ h5)).trans h5, hb⟩
theorem slice_low (b off n cap k : Nat) (hn : n ≤ cap) (h : k < n) (W : World) :
    (Instr.slice 38 (.slice (some ⟨b, off, none⟩) n cap) none (some (.int .i64 (k : Int))) none).run Try.prog W = .ok (.slice (some ⟨b, off, none⟩) k cap) W := by
  have h1 : (k : Int) ≤ (cap : Int) := by omega
  have hc : ¬ cap = 0 := by omega
  simp [go_sem, hc, h1]

theorem slice_high (b off n cap k m : Nat) (h : n = k + m) (hc : k < cap) (W : World) :
    (Instr.slice 38 (.slice (some ⟨b, off, none⟩) n cap) (some (.int .i64 (k : Int))) none none).run Try.prog W = .ok (.slice (some ⟨b, off + k * 2, none⟩) m (cap - k)) W := by
  have h1 : (k : Int) ≤ (n : Int) := by omega
  have h4 : ¬ cap = k := by omega
  obtain rfl : m = n - k := by omega
  simp [go_sem, h1, h4]
theorem slice_none (b off n k : Nat) (h : n = k) (W : World) :
    (Instr.slice 38 (.slice (some ⟨b, off, none⟩) n k) (some (.int .i64 (k : Int))) none none).run Try.prog W = .ok (.slice (some ⟨b, off, none⟩) 0 0) W := by
  subst h
  simp [go_sem]
theorem slice_rest (b off n cap k m : Nat) (r : List Run) (hn : n ≤ cap) (h : n = k + m) (hr : (r.drop k).length = m) {w : World} (hat : At w w.heap.size (some ⟨b, off, none⟩) (rvs r)) :
    ∃ A c, (∀ W, (Instr.slice 38 (.slice (some ⟨b, off, none⟩) n cap) (some (.int .i64 (k : Int))) none none).run Try.prog W = .ok (.slice A m c) W) ∧ At w w.heap.size A (rvs (r.drop k)) := by
  rcases Nat.lt_or_ge k cap with hc | hc
  · refine ⟨_, _, slice_high b off n cap k m h hc, ?_⟩
    rw [← rvs_drop]
    exact hat.drop (k * 2)
  · obtain rfl : cap = k := by omega
    obtain rfl : m = 0 := by omega
    refine ⟨_, _, slice_none b off n cap (by omega), ?_⟩
    rw [List.eq_nil_of_length_eq_zero hr]
    exact At.nil _ _ _

namespace runsJoins
set_option maxHeartbeats 2000000 in
theorem walk_apart (A1 : Option Addr) (c1 : Nat) (us : List Nat) (A2 : Option Addr) (c2 : Nat) (vs : List Nat) (hn1 : A1 = none → c1 = 0) (hk1 : us.length ≤ c1) (hu : us.length ≤ 100) (hU : Nums us) (hn2 : A2 = none → c2 = 0) (hk2 : vs.length ≤ c2) (hv : vs.length ≤ 100) (hV : Nums vs)
    (hne : ∀ x y, us.getLast? = some x → vs.head? = some y → x ≠ y) (w : World) (ha1 : At w w.heap.size A1 (uvs us)) (ha2 : At w w.heap.size A2 (uvs vs)) :
    Calls Try.prog 12 #[.slice A1 us.length c1, .slice A2 vs.length c2] w fun e w' => e = .returned (.bool true) ∧ Below w.heap.size w w' := by
  have hxx : us.length + vs.length ≤ 100000 := by omega
  have hux : us.length ≤ 100000 := by omega
  have hvx : vs.length ≤ 100000 := by omega
  have hol := World.ownsRow_made (base := w.heap.size) (e := 34) (size := 1) w #[] 0 (Nat.le_refl _) (by unfold maxLen; omega) rfl
  have HOL := Lib.hid hol
  have H1 := Lib.hid ha1
  have H2 := Lib.hid ha2
  have HN1 := Lib.hid hn1
  have HN2 := Lib.hid hn2
  have t1 : decide ((100 : Int) < (us.length : Int)) = false := by simp; omega
  have t2 : decide ((100 : Int) < (vs.length : Int)) = false := by simp; omega
  have HNE := Lib.hid hne
  have HU := Lib.hid hU
  have HV := Lib.hid hV
  have HALL := Lib.hid (show Nums (us ++ vs) from fun x hx => by rcases List.mem_append.1 hx with h | h; exact hU x h; exact hV x h)
  obtain ⟨a, haD⟩ : ∃ a, a = runsL us := ⟨_, rfl⟩
  obtain ⟨b, hbD⟩ : ∃ b, b = runsL vs := ⟨_, rfl⟩
  have hcD : runsL (us ++ vs) = a ++ b := by rw [haD, hbD]; exact runs_app hne
  have hal : a.length ≤ 100 := by rw [haD]; exact Nat.le_trans (runs_len us) hu
  have hbl : b.length ≤ 100 := by rw [hbD]; exact Nat.le_trans (runs_len vs) hv
  have hclen : (a ++ b).length = a.length + b.length := List.length_append
  have HAD := Lib.hid haD
  have HBD := Lib.hid hbD
  have HCD := Lib.hid hcD
  have HCL := Lib.hid hclen
  have HENC := Lib.hid (encU_app hne)
  have hadd := add_ba (encU us) (encU vs) (by have := encU_len hU (by omega); have := encU_len hV (by omega); omega)
  have HSP := Lib.hid hne
  have hall : (us ++ vs).length = us.length + vs.length := List.length_append
  have HALn := Lib.hid hall
  clear ha1 ha2 hn1 hn2 hol hne hU hV haD hbD hcD hclen hall
  go_enter Try.func12, Try.ntmps12
  go_wp2_with (first
    | (at_builtin; refine append_opt _ rfl _ _ rfl w.heap.size _ 0 [] rfl HOL.out A1 c1 us rfl HN1.out hk1 (H1.out.below ((Below.refl _ _).alloc (Nat.le_refl _) _)) (by omega) (by simp) ?_; intro v1 w1 hown1 hgrow1; have hb1 := below_own2 ((Below.refl w.heap.size w).alloc (Nat.le_refl _) _) (by simp) HOL.out hgrow1; have hs1 := hb1.size; have HOWN := Lib.hid hown1; clear HOL hown1 hgrow1)
    | (at_builtin; refine append_opt _ rfl _ _ rfl w.heap.size _ _ _ rfl HOWN.out A2 c2 vs rfl HN2.out hk2 (H2.out.below hb1) (by simp; omega) hs1 ?_; intro v2 w2 hown2 hgrow2; have hb2 := below_own2 hb1 hs1 HOWN.out hgrow2; have hown3 : w2.ownsRow w.heap.size 34 1 v2 (us.length + vs.length) (uvs (us ++ vs)) := (by simpa using hown2); obtain ⟨Aa, ca, rfl, hata, -, -⟩ := own_at hown3; have HATA := Lib.hid hata; clear HOWN hown2 hown3 hgrow2 hb1 hs1 hata))
  refine (runs_k us a HAD.out.symm rfl rfl hux (H1.out.keep hb2)).mono ?_
  rintro e w3 ⟨A3, k3, rfl, -, hm3⟩
  have HATA := Lib.hid (HATA.out.keep hm3)
  have hb3 := hb2.trans (hm3.mono hb2.size)
  clear hm3 hb2
  go_wp2_with fail
  refine (runs_k vs b HBD.out.symm rfl rfl hvx (H2.out.keep hb3)).mono ?_
  rintro e w4 ⟨A4, k4, rfl, -, hm4⟩
  have HATA := Lib.hid (HATA.out.keep hm4)
  have hb4 := hb3.trans (hm4.mono hb3.size)
  clear hm4 hb3
  go_wp2_with fail
  refine (runs_k (us ++ vs) (a ++ b) HCD.out HALn.out HCL.out hxx HATA.out).mono ?_
  rintro e w5 ⟨A5, k5, rfl, -, hm5⟩
  have HATA := Lib.hid (HATA.out.keep hm5)
  have hb5 := hb4.trans (hm5.mono hb4.size)
  clear hm5 hb4
  have e8 : ((a.length : Int) + (b.length : Int) == (a.length : Int) + (b.length : Int)) = true := by simp
  by_cases h0 : us.length = 0
  · have e1 : ((us.length : Int) == 0) = true := by rw [h0]; rfl
    clear h0
    go_wp2_with fail
    go_quiet (fail)
    have HATA := Lib.hid (at_drewN HATA.out nq)
    have hb5 := below_drewN hb5 nq
    generalize w5.drewN nq = w5 at HATA hb5 ⊢
    go_wp2_with fail
    with_reducible refine (uencode_k (us ++ vs) HALn.out hxx HALL.out HATA.out).mono ?_
    rintro e w6 ⟨rfl, hm6⟩
    rw [HENC.out]
    have hb6 := hb5.trans (hm6.mono hb5.size)
    clear hm6 hb5 HATA
    go_wp2_with fail
    with_reducible refine (uencode_k us rfl hux HU.out (H1.out.keep hb6)).mono ?_
    rintro e w7 ⟨rfl, hm7⟩
    have hb7 := hb6.trans (hm7.mono hb6.size)
    clear hm7 hb6
    go_wp2_with fail
    with_reducible refine (uencode_k vs rfl hvx HV.out (H2.out.keep hb7)).mono ?_
    rintro e w8 ⟨rfl, hm8⟩
    have hb8 := hb7.trans (hm8.mono hb7.size)
    clear hm8 hb7
    go_wp2_with fail
    refine (live6_c _).mono ?_
    rintro e w9 ⟨rfl, hm9⟩
    go_wp2
    go_ret
    exact ⟨rfl, hb8.trans (hm9.mono hb8.size)⟩
  · have e1 : ((us.length : Int) == 0) = false := by simp only [beq_eq_false_iff_ne, ne_eq]; omega
    by_cases h2 : vs.length = 0
    · have e2 : ((vs.length : Int) == 0) = true := by rw [h2]; rfl
      clear h2 h0
      go_wp2_with fail
      go_quiet (fail)
      have HATA := Lib.hid (at_drewN HATA.out nq)
      have hb5 := below_drewN hb5 nq
      generalize w5.drewN nq = w5 at HATA hb5 ⊢
      go_wp2_with fail
      with_reducible refine (uencode_k (us ++ vs) HALn.out hxx HALL.out HATA.out).mono ?_
      rintro e w6 ⟨rfl, hm6⟩
      rw [HENC.out]
      have hb6 := hb5.trans (hm6.mono hb5.size)
      clear hm6 hb5 HATA
      go_wp2_with fail
      with_reducible refine (uencode_k us rfl hux HU.out (H1.out.keep hb6)).mono ?_
      rintro e w7 ⟨rfl, hm7⟩
      have hb7 := hb6.trans (hm7.mono hb6.size)
      clear hm7 hb6
      go_wp2_with fail
      with_reducible refine (uencode_k vs rfl hvx HV.out (H2.out.keep hb7)).mono ?_
      rintro e w8 ⟨rfl, hm8⟩
      have hb8 := hb7.trans (hm8.mono hb7.size)
      clear hm8 hb7
      go_wp2_with fail
      refine (live6_c _).mono ?_
      rintro e w9 ⟨rfl, hm9⟩
      go_wp2
      go_ret
      exact ⟨rfl, hb8.trans (hm9.mono hb8.size)⟩
    · have e2 : ((vs.length : Int) == 0) = false := by simp only [beq_eq_false_iff_ne, ne_eq]; omega
      obtain ⟨j, hj⟩ : ∃ j, us.length = j + 1 := ⟨us.length - 1, by omega⟩
      obtain ⟨x, hxj, hla⟩ := last_at hj
      obtain ⟨y, hy0⟩ := some_at (show 0 < vs.length by omega)
      have hxy : x ≠ y := HNE.out x y hla (by rw [List.head?_eq_getElem?]; exact hy0)
      obtain ⟨b1, o1, rfl, _, hc1⟩ := (H1.out.keep hb5) j _ (uvs_at hxj)
      obtain ⟨b2, o2, rfl, _, hc2⟩ := (H2.out.keep hb5) 0 _ (uvs_at hy0)
      rw [Nat.add_zero] at hc2
      have e3 : ((x : Int) != (y : Int)) = true := by simp; omega
      have hidx : (us.length : Int) - 1 = (j : Int) := by omega
      have hji : (j : Int) < (us.length : Int) := by omega
      have hj0 : (0 : Int) ≤ (j : Int) := by omega
      have hv0 : (0 : Int) < (vs.length : Int) := by omega
      have hjw : IntKind.i64.wrap (j : Int) = (j : Int) := by rw [i64_left]; exact wrap64_in _ (by omega)
      clear hj hxj hla hy0 hxy h0 h2
      go_wp2_with fail
      go_quiet (fail)
      have HATA := Lib.hid (at_drewN HATA.out nq)
      have hb5 := below_drewN hb5 nq
      generalize w5.drewN nq = w5 at HATA hb5 ⊢
      go_wp2_with fail
      with_reducible refine (uencode_k (us ++ vs) HALn.out hxx HALL.out HATA.out).mono ?_
      rintro e w6 ⟨rfl, hm6⟩
      rw [HENC.out]
      have hb6 := hb5.trans (hm6.mono hb5.size)
      clear hm6 hb5 HATA
      go_wp2_with fail
      with_reducible refine (uencode_k us rfl hux HU.out (H1.out.keep hb6)).mono ?_
      rintro e w7 ⟨rfl, hm7⟩
      have hb7 := hb6.trans (hm7.mono hb6.size)
      clear hm7 hb6
      go_wp2_with fail
      with_reducible refine (uencode_k vs rfl hvx HV.out (H2.out.keep hb7)).mono ?_
      rintro e w8 ⟨rfl, hm8⟩
      have hb8 := hb7.trans (hm8.mono hb7.size)
      clear hm8 hb7
      go_wp2_with fail
      refine (live6_c _).mono ?_
      rintro e w9 ⟨rfl, hm9⟩
      go_wp2
      go_ret
      exact ⟨rfl, hb8.trans (hm9.mono hb8.size)⟩
theorem runs_kc {A : Option Addr} {cap n m : Nat} (xs : List Nat) (r : List Run) (hr : runsL xs = r) (hn : xs.length = n) (hm : r.length = m) (hx : n ≤ 100000) {w : World} (hc : At w w.heap.size A (uvs xs)) :
    Calls Try.prog 31 #[.slice A n cap] w fun e w' => ∃ A' cap', e = .returned (.slice A' m cap') ∧ m ≤ cap' ∧ At w' w'.heap.size A' (rvs r) ∧ Below w.heap.size w w' := by
  subst hr; subst hn; subst hm
  refine (runs_c A cap xs hx w hc).mono ?_
  rintro e w' ⟨A', cap', rfl, hcp, -, ha, hb⟩
  exact ⟨A', cap', rfl, hcp, ha, hb⟩

set_option maxHeartbeats 2000000 in
theorem walk_meet (A1 : Option Addr) (c1 : Nat) (us : List Nat) (A2 : Option Addr) (c2 : Nat) (vs : List Nat) (hn1 : A1 = none → c1 = 0) (hk1 : us.length ≤ c1) (hu : us.length ≤ 100) (hn2 : A2 = none → c2 = 0) (hk2 : vs.length ≤ c2) (hv : vs.length ≤ 100)
    (v : Nat) (hla : us.getLast? = some v) (hhe : vs.head? = some v) (w : World) (ha1 : At w w.heap.size A1 (uvs us)) (ha2 : At w w.heap.size A2 (uvs vs)) :
    Calls Try.prog 12 #[.slice A1 us.length c1, .slice A2 vs.length c2] w fun e w' => e = .returned (.bool true) ∧ Below w.heap.size w w' := by
  have hxx : us.length + vs.length ≤ 100000 := by omega
  have hux : us.length ≤ 100000 := by omega
  have hvx : vs.length ≤ 100000 := by omega
  have hol := World.ownsRow_made (base := w.heap.size) (e := 34) (size := 1) w #[] 0 (Nat.le_refl _) (by unfold maxLen; omega) rfl
  have HOL := Lib.hid hol
  have H1 := Lib.hid ha1
  have H2 := Lib.hid ha2
  have HN1 := Lib.hid hn1
  have HN2 := Lib.hid hn2
  have t1 : decide ((100 : Int) < (us.length : Int)) = false := by simp; omega
  have t2 : decide ((100 : Int) < (vs.length : Int)) = false := by simp; omega
  have hall : (us ++ vs).length = us.length + vs.length := List.length_append
  have HALn := Lib.hid hall
  obtain ⟨a, p, d, b, hA, hB, hC⟩ := runs_meet hla hhe
  have hp := runs_in (l := us) (x := (v, p)) (by rw [hA]; simp)
  have hd := runs_in (l := vs) (x := (v, d)) (by rw [hB]; simp)
  have hal := runs_len us
  have hbl := runs_len vs
  rw [hA, List.length_append, List.length_singleton] at hal
  rw [hB, List.length_cons] at hbl
  obtain ⟨_, hp1, hp2⟩ := hp
  obtain ⟨_, hd1, hd2⟩ := hd
  dsimp only at hp1 hp2 hd1 hd2
  obtain ⟨i, hi'⟩ : ∃ i, i = a.length := ⟨_, rfl⟩
  obtain ⟨m, hm'⟩ : ∃ m, m = b.length := ⟨_, rfl⟩
  have hlA : (a ++ [(v, p)]).length = i + 1 := by rw [hi']; simp
  have hlB : ((v, d) :: b).length = m + 1 := by rw [hm']; simp
  have hlC : (a ++ (v, p + d) :: b).length = i + (m + 1) := by rw [hi', hm']; simp
  rw [← hi'] at hal
  rw [← hm'] at hbl
  obtain ⟨j, hj⟩ : ∃ j, us.length = j + 1 := ⟨us.length - 1, by omega⟩
  obtain ⟨x, hxj, hlx⟩ := last_at hj
  have hxv : x = v := by have : some v = some x := hla.symm.trans hlx; injection this with this; exact this.symm
  subst hxv
  have hy0 : vs[0]? = some x := by rw [← List.head?_eq_getElem?]; exact hhe
  have HI := Lib.hid hi'
  have HM := Lib.hid hm'
  have HA := Lib.hid hA
  have HB := Lib.hid hB
  have HC := Lib.hid hC
  have HLA := Lib.hid hlA
  have HLB := Lib.hid hlB
  have HLC := Lib.hid hlC
  have HXJ := Lib.hid hxj
  have HY0 := Lib.hid hy0
  have HJ := Lib.hid hj
  clear ha1 ha2 hn1 hn2 hol hall hA hB hC hi' hm' hlA hlB hlC hxj hy0 hj hla hhe hlx
  go_enter Try.func12, Try.ntmps12
  go_wp2_with (first
    | (at_builtin; refine append_opt _ rfl _ _ rfl w.heap.size _ 0 [] rfl HOL.out A1 c1 us rfl HN1.out hk1 (H1.out.below ((Below.refl _ _).alloc (Nat.le_refl _) _)) (by omega) (by simp) ?_; intro v1 w1 hown1 hgrow1; have hb1 := below_own2 ((Below.refl w.heap.size w).alloc (Nat.le_refl _) _) (by simp) HOL.out hgrow1; have hs1 := hb1.size; have HOWN := Lib.hid hown1; clear HOL hown1 hgrow1)
    | (at_builtin; refine append_opt _ rfl _ _ rfl w.heap.size _ _ _ rfl HOWN.out A2 c2 vs rfl HN2.out hk2 (H2.out.below hb1) (by simp; omega) hs1 ?_; intro v2 w2 hown2 hgrow2; have hb2 := below_own2 hb1 hs1 HOWN.out hgrow2; have hown3 : w2.ownsRow w.heap.size 34 1 v2 (us.length + vs.length) (uvs (us ++ vs)) := (by simpa using hown2); obtain ⟨Aa, ca, rfl, hata, -, -⟩ := own_at hown3; have HATA := Lib.hid hata; clear HOWN hown2 hown3 hgrow2 hb1 hs1 hata))
  refine (runs_kc us _ HA.out rfl HLA.out hux (H1.out.keep hb2)).mono ?_
  rintro e w3 ⟨A3, k3, rfl, hk3, hat3, hm3⟩
  have HAT3 := Lib.hid hat3
  have HATA := Lib.hid (HATA.out.keep hm3)
  have hb3 := hb2.trans (hm3.mono hb2.size)
  clear hm3 hb2 hat3
  go_wp2_with fail
  refine (runs_kc vs _ HB.out rfl HLB.out hvx (H2.out.keep hb3)).mono ?_
  rintro e w4 ⟨A4, k4, rfl, hk4, hat4, hm4⟩
  have HAT4 := Lib.hid hat4
  have HAT3 := Lib.hid (HAT3.out.keep hm4)
  have HATA := Lib.hid (HATA.out.keep hm4)
  have hb4 := hb3.trans (hm4.mono hb3.size)
  clear hm4 hb3 hat4
  go_wp2_with fail
  refine (runs_kc (us ++ vs) _ HC.out HALn.out HLC.out hxx HATA.out).mono ?_
  rintro e w5 ⟨A5, k5, rfl, hk5, hat5, hm5⟩
  have HAT5 := Lib.hid hat5
  have HAT4 := Lib.hid (HAT4.out.keep hm5)
  have HAT3 := Lib.hid (HAT3.out.keep hm5)
  have hb5 := hb4.trans (hm5.mono hb4.size)
  clear hm5 hb4 hat5 HATA
  obtain ⟨b1, o1, rfl, _, hc1⟩ := (H1.out.keep hb5) j _ (uvs_at HXJ.out)
  obtain ⟨b2, o2, rfl, _, hc2⟩ := (H2.out.keep hb5) 0 _ (uvs_at HY0.out)
  rw [Nat.add_zero] at hc2
  have e1 : ((us.length : Int) == 0) = false := by have := HJ.out; simp only [beq_eq_false_iff_ne, ne_eq]; omega
  have e2 : ((vs.length : Int) == 0) = false := by simp only [beq_eq_false_iff_ne, ne_eq]; omega
  have e3 : ((x : Int) != (x : Int)) = false := by simp
  have hidx : (us.length : Int) - 1 = (j : Int) := by have := HJ.out; omega
  have hji : (j : Int) < (us.length : Int) := by omega
  have hj0 : (0 : Int) ≤ (j : Int) := by omega
  have hv0 : (0 : Int) < (vs.length : Int) := by omega
  have hjw : IntKind.i64.wrap (j : Int) = (j : Int) := by rw [i64_left]; exact wrap64_in _ (by omega)
  go_wp2_with fail
  go_quiet (fail)
  have HAT3 := Lib.hid (at_drewN HAT3.out nq)
  have HAT4 := Lib.hid (at_drewN HAT4.out nq)
  have HAT5 := Lib.hid (at_drewN HAT5.out nq)
  have hb6 := below_drewN hb5 nq
  have hc2' : (w5.drewN nq).cell? _ = _ := hc2
  clear hc1 hc2 hb5
  generalize w5.drewN nq = w6 at HAT3 HAT4 HAT5 hb6 hc2' ⊢
  obtain ⟨b3, o3, rfl, hb3l, ha3v, ha3c⟩ := run_cells (k := i) (x := (x, p)) HAT3.out (by rw [HI.out]; simp)
  obtain ⟨b4, o4, rfl, hb4l, ha4v, ha4c⟩ := run_cells (k := 0) (x := (x, d)) HAT4.out rfl
  obtain ⟨b5, o5, rfl, hb5l, ha5v, ha5c⟩ := run_cells (k := i) (x := (x, p + d)) HAT5.out (by rw [HI.out]; simp)
  simp only [Nat.zero_mul, Nat.add_zero] at ha4v ha4c
  dsimp only at ha3v ha3c ha4v ha4c ha5v ha5c
  have e9 : ((i : Int) + 1 == 0) = false := by simp only [beq_eq_false_iff_ne, ne_eq]; omega
  have e10 : ((m : Int) + 1 == 0) = false := by simp only [beq_eq_false_iff_ne, ne_eq]; omega
  have hiw : IntKind.i64.wrap (i : Int) = (i : Int) := by rw [i64_left]; exact wrap64_in _ (by omega)
  have e11 : ((i : Int) + ((m : Int) + 1) != (i : Int) + 1 + ((m : Int) + 1) - 1) = false := by simp only [bne_eq_false_iff_eq]; omega
  clear hidx hji hj0 hjw
  go_wp2_with fail
  have hbW := (Below.refl w6.heap.size w6).alloc (Nat.le_refl _) (.cells #[.int .u64 (x : Int), .int .i64 (p + d)] 51)
  have HT3 := Lib.hid (HAT3.out.keep hbW)
  have HT4 := Lib.hid (HAT4.out.keep hbW)
  have HT5 := Lib.hid (HAT5.out.keep hbW)
  have hb7 := hb6.alloc hb6.size (.cells #[.int .u64 (x : Int), .int .i64 (p + d)] 51)
  have hfive : _ = some (Value.int .u64 (x : Int)) ∧ _ = some (Value.int .i64 (p + d)) ∧ _ = some (Value.int .u64 (x : Int)) ∧ _ = some (Value.int .i64 p) ∧ _ = some (Value.int .i64 d) := ⟨Lib.cell_of_heap (heap_alloc_new w6 (.cells #[.int .u64 (x : Int), .int .i64 (p + d)] 51)) 0, Lib.cell_of_heap (heap_alloc_new w6 (.cells #[.int .u64 (x : Int), .int .i64 (p + d)] 51)) 1, (hbW.cell (World.block_lt_of_cell? _ _ hc2')).trans hc2', (hbW.cell (World.block_lt_of_cell? _ _ ha3c)).trans ha3c, (hbW.cell (World.block_lt_of_cell? _ _ ha4c)).trans ha4c⟩
  have hdr : ((a ++ (x, p + d) :: b).drop (i + 1)) = b := by rw [HI.out, ← List.drop_drop, List.drop_left]; rfl
  obtain ⟨A6, k6, hs6, hat6⟩ := slice_rest b5 o5 (i + (m + 1)) k5 (i + 1) m (a ++ (x, p + d) :: b) hk5 (by omega) (by rw [hdr]; exact HM.out.symm) HT5.out
  obtain ⟨A7, k7, hs7, hat7⟩ := slice_rest b4 o4 (m + 1) k4 1 m ((x, d) :: b) hk4 (by omega) HM.out.symm HT4.out
  rw [hdr] at hat6
  have hat7 : At (w6.alloc (.cells #[.int .u64 (x : Int), .int .i64 (p + d)] 51)) (w6.alloc (.cells #[.int .u64 (x : Int), .int .i64 (p + d)] 51)).heap.size A7 (rvs b) := hat7
  have hat8 := HT5.out.take (i * 2)
  have hat9 := HT3.out.take (i * 2)
  rw [rvs_take] at hat8 hat9
  have htk8 : (a ++ (x, p + d) :: b).take i = a := by rw [HI.out, List.take_left]
  have htk9 : (a ++ [(x, p)]).take i = a := by rw [HI.out, List.take_left]
  rw [htk8] at hat8
  rw [htk9] at hat9
  have hs8 := slice_low b5 o5 (i + (m + 1)) k5 i hk5 (by omega)
  have hs9 := slice_low b3 o3 (i + 1) k3 i hk3 (by omega)
  have hs6' : ∀ W, (Instr.slice 38 (.slice (some ⟨b5, o5, none⟩) (i + (m + 1)) k5) (some (.int .i64 ((i : Int) + 1))) none none).run Try.prog W = .ok (.slice A6 m k6) W := hs6
  have hs7' : ∀ W, (Instr.slice 38 (.slice (some ⟨b4, o4, none⟩) (m + 1) k4) (some (.int .i64 1)) none none).run Try.prog W = .ok (.slice A7 m k7) W := hs7
  have H6 := Lib.hid hat6
  have H7 := Lib.hid hat7
  have H8 := Lib.hid hat8
  have H9 := Lib.hid hat9
  have HF := Lib.hid hfive
  have exx : ((x : Int) == (x : Int)) = true := by simp
  have epd : (p + d == p + d) = true := by simp
  have hpd : p + d ≤ 200 := by omega
  have hpdw : IntKind.i64.wrap (p + d) = p + d := IntWalk.i64_in _ (by omega)
  have hpd1 : 1 ≤ p + d := by omega
  have hix : i ≤ 100000 := by omega
  have hmx : m ≤ 100000 := by omega
  generalize hW0 : w6.alloc (.cells #[.int .u64 (x : Int), .int .i64 (p + d)] 51) = W0 at H6 H7 H8 H9 HF hb7 ⊢
  clear hat6 hat7 hat8 hat9 hfive hs6 hs7 HT3 HT4 HT5 HAT3 HAT4 HAT5 hbW hb6 hc2' ha3v ha3c ha4v ha4c ha5v ha5c hdr htk8 htk9 hW0
  have hj1 : (i : Int) < (i : Int) + 1 := by omega
  have hj2 : (0 : Int) ≤ (i : Int) := by omega
  have hj3 : 0 < vs.length := by omega
  go_region_held3 (fun w' => w'.cell? ⟨w6.heap.size, 0, none⟩ = some (.int .u64 (x : Int)) ∧ w'.cell? ⟨w6.heap.size, 1, none⟩ = some (.int .i64 (p + d)) ∧ w'.cell? ⟨b2, o2, none⟩ = some (.int .u64 (x : Int)) ∧ w'.cell? ⟨b3, o3 + i * 2 + 1, none⟩ = some (.int .i64 p) ∧ w'.cell? ⟨b4, o4 + 1, none⟩ = some (.int .i64 d) ∧ Below W0.heap.size W0 w')
    (first
      | (exact five_keep HF.out (Below.refl _ _).drew)
      | (exact five_keep HF.out hbA)
      | (exact five_keep HF.out hbA.drew)
      | (exact five_keep HF.out hbB)
      | (exact five_keep HF.out hbB.drew)
      | (exact five_keep HF.out hbC)
      | (exact five_keep HF.out hbC.drew)
      | go_keep)
    (first
      | (go_at_call 30; with_reducible refine (sameR_k a a HI.out.symm HI.out.symm hix hix (H8.out.keep (Below.refl _ _).drew) (H9.out.keep (Below.refl _ _).drew)).mono ?_; rintro e wA ⟨rfl, hmA⟩; rw [show decide (a = a) = true by simp]; have hbA := (Below.refl W0.heap.size W0).drew.trans (hmA.mono (Below.refl W0.heap.size W0).drew.size))
      | (go_at_call 30; with_reducible refine (sameR_k b b HM.out.symm HM.out.symm hmx hmx (H6.out.keep hbA) (H7.out.keep hbA)).mono ?_; rintro e wB ⟨rfl, hmB⟩; rw [show decide (b = b) = true by simp]; have hbB := hbA.trans (hmB.mono hbA.size))
      | (go_at_call 27; refine (live6_c _).mono ?_; rintro e wC ⟨rfl, hmC⟩; have hbC := hbB.trans (hmC.mono hbB.size)))
  go_wp2
  go_ret
  exact ⟨rfl, hb7.trans (hbC.mono hb7.size)⟩

set_option maxHeartbeats 1000000 in
theorem walk (A1 : Option Addr) (c1 : Nat) (xs : List Int) (A2 : Option Addr) (c2 : Nat) (ys : List Int) (hn1 : A1 = none → c1 = 0) (hk1 : xs.length ≤ c1) (hz1 : xs.length ≤ maxLen) (hw1 : ∀ x ∈ xs, (Lit.int .u64 x).wf = true) (hn2 : A2 = none → c2 = 0) (hk2 : ys.length ≤ c2) (hz2 : ys.length ≤ maxLen) (hw2 : ∀ x ∈ ys, (Lit.int .u64 x).wf = true) (w : World) (ha1 : At w w.heap.size A1 (xs.map (Value.int .u64))) (ha2 : At w w.heap.size A2 (ys.map (Value.int .u64))) :
    Calls Try.prog 12 #[.slice A1 xs.length c1, .slice A2 ys.length c2] w fun e w' => e = .returned (.bool true) ∧ Below w.heap.size w w' := by
  obtain ⟨us, rfl, hus⟩ := nats_of hw1
  obtain ⟨vs, rfl, hvs⟩ := nats_of hw2
  rw [uvs_map] at ha1 ha2
  rw [List.length_map] at hz1 hz2 hk1 hk2 ⊢
  rw [List.length_map]
  by_cases h : 100 < us.length ∨ 100 < vs.length
  · have H1 := Lib.hid hn1
    have H2 := Lib.hid hn2
    have HU := Lib.hid hus
    have HV := Lib.hid hvs
    have HA1 := Lib.hid ha1
    have HA2 := Lib.hid ha2
    unfold maxLen at hz1 hz2
    clear hn1 hn2 hus hvs ha1 ha2 hw1 hw2
    by_cases h1 : 100 < us.length
    · go_enter Try.func12, Try.ntmps12
      go_wp2_with fail
      refine (live6_c _).mono ?_
      rintro e w1 ⟨rfl, hb1⟩
      go_wp2
      go_ret
      exact ⟨rfl, hb1⟩
    · have h2 : 100 < vs.length := by omega
      go_enter Try.func12, Try.ntmps12
      go_wp2_with fail
      refine (live6_c _).mono ?_
      rintro e w1 ⟨rfl, hb1⟩
      go_wp2
      go_ret
      exact ⟨rfl, hb1⟩
  · have hu : us.length ≤ 100 := by omega
    have hv : vs.length ≤ 100 := by omega
    by_cases hne : ∀ x y, us.getLast? = some x → vs.head? = some y → x ≠ y
    · exact walk_apart A1 c1 us A2 c2 vs hn1 hk1 hu hus hn2 hk2 hv hvs hne w ha1 ha2
    · obtain ⟨v, hl, hh⟩ : ∃ v, us.getLast? = some v ∧ vs.head? = some v := by
        rcases hl : us.getLast? with _ | x
        · exact absurd (fun x y hx => by rw [hl] at hx; cases hx) hne
        · rcases hh : vs.head? with _ | y
          · exact absurd (fun x y _ hy => by rw [hh] at hy; cases hy) hne
          · by_cases hxy : x = y
            · exact ⟨x, rfl, by rw [hxy]⟩
            · exact absurd (fun x' y' hx' hy' => by rw [hl] at hx'; rw [hh] at hy'; cases hx'; cases hy'; exact hxy) hne
      exact walk_meet A1 c1 us A2 c2 vs hn1 hk1 hu hn2 hk2 hv v hl hh w ha1 ha2
end runsJoins
end Go.Proofs.Ytacnbgfddidfiaa
