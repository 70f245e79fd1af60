/-
  Join, Of, Below: the document's; whether marks may be, and whether they are the same.
-/
import Derived.Test.YtbhejaokkkggjaaAh
import Derived.Test.YtbhejaokkkggjaaAp
namespace Go.Proofs.Ytbhejaokkkggjaa
open Go.RowKit Go.IntWalk
set_option maxRecDepth 100000
attribute [local go_sem] Oper.semAt_some

theorem rkraise_k {A : Option Addr} {cap : Nat} {l N : List Mk} {c r : Int} (h : raiseK l c r = N) (hl : l.length ≤ 50000) (hA : A = none → cap = 0) (hcap : l.length ≤ cap) {w : World} (hc : At w w.heap.size A (kvs l)) :
    Calls Try.prog 46 #[.slice A l.length cap, .agg #[.int .i64 c, .int .i64 r]] w (ToldK N w) := by
  subst h; exact (rkraise_c A cap l c r hl hA hcap w hc).mono fun e w' h => h.told
set_option maxHeartbeats 4000000 in
theorem rkjoin_c (A1 A2 : Option Addr) (c1 c2 : Nat) (a b : List Mk) (hl : a.length + b.length ≤ 40000) (hA : A1 = none → c1 = 0) (hcap : a.length ≤ c1) (w : World) (h1 : At w w.heap.size A1 (kvs a)) (h2 : At w w.heap.size A2 (kvs b)) :
    Calls Try.prog 48 #[.slice A1 a.length c1, .slice A2 b.length c2] w (ToldK (joinK a b) w) := by
  have H1 := Lib.hid h1
  have H2 := Lib.hid h2
  have HA := Lib.hid hA
  clear h1 h2 hA
  go_enter Try.func48, Try.ntmps48
  go_wp2_with fail
  go_loopw [0, 5] (fun v i wr => ∃ (k : Nat) (A : Option Addr) (cp : Nat), i = .int .i64 (k : Int) ∧ k ≤ b.length ∧ v = .slice A (joinK a (b.take k)).length cp ∧ At wr wr.heap.size A (kvs (joinK a (b.take k))) ∧ (A = none → cp = 0) ∧ (joinK a (b.take k)).length ≤ cp ∧ Below w.heap.size w wr) (fun _ i _ => b.length - (intOf i).toNat)
  case atStart => exact ⟨0, A1, c1, rfl, Nat.zero_le _, rfl, H1.out, HA.out, hcap, Below.refl _ _⟩
  case round =>
    obtain ⟨k, A, cp, rfl, hk, rfl, hat, hn, hcp, hbw⟩ := hrel
    have HAT := Lib.hid hat
    have HN := Lib.hid hn
    have HBW := Lib.hid hbw
    clear hat hn hbw
    by_cases hlt : k < b.length
    · obtain ⟨m, hm⟩ := some_at hlt
      obtain ⟨b0, o0, rfl, -, x0, x1⟩ := mark_cells (H2.out.keep HBW.out) hm
      have hk0 : (0 : Int) ≤ (k : Int) := by omega
      have hkl : (k : Int) < (b.length : Int) := by omega
      have HST := Lib.hid (joinK_take (a := a) hm)
      have hjl := joinK_len a (b.take k)
      rw [List.length_take] at hjl
      have HJL := Lib.hid (show (joinK a (b.take k)).length ≤ 50000 by omega)
      clear hm hjl
      go_wp2_with fail
      go_region_held3 (fun w' => w'.cell? ⟨b0, o0 + k * 2, none⟩ = some (.int .i64 (kr m)) ∧ w'.cell? ⟨b0, o0 + k * 2 + 1, none⟩ = some (.int .i64 (kc m)) ∧ Below wr.heap.size wr w')
        (first
          | (exact hold2K (by assumption) hbn)
          | (exact hold2dK (by assumption))
          | (exact hold2sK x0 x1)
          | go_keep)
        (first
          | (go_at_call 46; refine (rkraise_k HST.out.symm HJL.out HN.out hcp (HAT.out.keep (hold2bK (by assumption)))).mono ?_; rintro e wa ⟨E1, f1, rfl, t1, n1, l1, hbn⟩))
      have HBZ := Lib.hid (HBW.out.trans ((hold2bK (by assumption) : Below wr.heap.size wr wa).mono HBW.out.size))
      have HT1 := Lib.hid t1
      have HN1 := Lib.hid n1
      have HL1 := Lib.hid l1
      clear t1 n1 l1 hbn x0 x1
      go_wp2_with fail
      go_roundw
      case rel => exact ⟨k + 1, E1, f1, by go_num, by omega, rfl, HT1.out, HN1.out, HL1.out, HBZ.out⟩
      case measure => simp only [intOf]; omega
    · obtain rfl : k = b.length := by omega
      have ha := HAT.out
      rw [List.take_length] at ha hcp ⊢
      have HAZ := Lib.hid ha
      clear ha HAT
      go_wp2_with fail
      go_ret
      exact ⟨A, cp, rfl, HAZ.out, HN.out, hcp, HBW.out⟩
set_option maxHeartbeats 4000000 in
theorem rkof_c (A2 : Option Addr) (c2 : Nat) (b : List Mv) (hl : b.length ≤ 40000) (w : World) (h2 : At w w.heap.size A2 (mvs b)) :
    Calls Try.prog 52 #[.slice A2 b.length c2] w (ToldK (ofK b) w) := by
  have H2 := Lib.hid h2
  clear h2
  go_enter Try.func52, Try.ntmps52
  go_wp2_with fail
  go_loopw [3, 4] (fun v i wr => ∃ (k : Nat) (A : Option Addr) (cp : Nat), i = .int .i64 (k : Int) ∧ k ≤ b.length ∧ v = .slice A (ofK (b.take k)).length cp ∧ At wr wr.heap.size A (kvs (ofK (b.take k))) ∧ (A = none → cp = 0) ∧ (ofK (b.take k)).length ≤ cp ∧ Below w.heap.size w wr) (fun _ i _ => b.length - (intOf i).toNat)
  case atStart => exact ⟨0, none, 0, rfl, Nat.zero_le _, rfl, At.nil _ _ _, fun _ => rfl, Nat.le_refl _, Below.refl _ _⟩
  case round =>
    obtain ⟨k, A, cp, rfl, hk, rfl, hat, hn, hcp, hbw⟩ := hrel
    have HAT := Lib.hid hat
    have HN := Lib.hid hn
    have HBW := Lib.hid hbw
    clear hat hn hbw
    by_cases hlt : k < b.length
    · obtain ⟨m, hm⟩ := some_at hlt
      obtain ⟨b0, o0, rfl, -, x0, x1, -⟩ := move_cells (H2.out.keep HBW.out) hm
      have hk0 : (0 : Int) ≤ (k : Int) := by omega
      have hkl : (k : Int) < (b.length : Int) := by omega
      have HST := Lib.hid (ofK_take hm)
      have hjl := ofK_len (b.take k)
      rw [List.length_take] at hjl
      have HJL := Lib.hid (show (ofK (b.take k)).length ≤ 50000 by omega)
      have HR := Lib.hid (rkraise_k HST.out.symm HJL.out HN.out hcp HAT.out)
      clear hm hjl
      go_wp2_with fail
      refine HR.out.mono ?_
      rintro e wa ⟨E1, f1, rfl, t1, n1, l1, hbn⟩
      have HBZ := Lib.hid (HBW.out.trans (hbn.mono HBW.out.size))
      have HT1 := Lib.hid t1
      have HN1 := Lib.hid n1
      have HL1 := Lib.hid l1
      clear t1 n1 l1 hbn x0 x1
      go_wp2_with fail
      go_roundw
      case rel => exact ⟨k + 1, E1, f1, by go_num, by omega, rfl, HT1.out, HN1.out, HL1.out, HBZ.out⟩
      case measure => simp only [intOf]; omega
    · obtain rfl : k = b.length := by omega
      have ha := HAT.out
      rw [List.take_length] at ha hcp ⊢
      have HAZ := Lib.hid ha
      clear ha HAT
      go_wp2_with fail
      go_ret
      exact ⟨A, cp, rfl, HAZ.out, HN.out, hcp, HBW.out⟩

theorem below_step {a b : List Mk} {k : Nat} {m : Mk} (hm : a[k]? = some m) : ((a.drop k).all fun m => decide (getK a (kr m) ≤ getK b (kr m))) = (decide (getK a (kr m) ≤ getK b (kr m)) && (a.drop (k + 1)).all fun m => decide (getK a (kr m) ≤ getK b (kr m))) := by
  obtain ⟨h1, h2⟩ := List.getElem?_eq_some_iff.1 hm
  rw [List.drop_eq_getElem_cons h1, h2, List.all_cons]
set_option maxHeartbeats 4000000 in
theorem rkbelow_c (A1 A2 : Option Addr) (c1 c2 : Nat) (a b : List Mk) (ha : a.length ≤ 100000) (hb : b.length ≤ 100000) (w : World) (k1 : At w w.heap.size A1 (kvs a)) (k2 : At w w.heap.size A2 (kvs b)) :
    Calls Try.prog 50 #[.slice A1 a.length c1, .slice A2 b.length c2] w fun e w' => e = .returned (.bool (belowK a b)) ∧ Below w.heap.size w w' := by
  have ham : a.length ≤ maxLen := by unfold maxLen; omega
  have hbm : b.length ≤ maxLen := by unfold maxLen; omega
  have H1 := Lib.hid k1
  have H2 := Lib.hid k2
  obtain ⟨R, hR⟩ : ∃ R, belowK a b = R := ⟨_, rfl⟩
  rw [hR]
  have HR := Lib.hid hR
  clear k1 k2 hR
  go_enter Try.func50, Try.ntmps50
  go_wp2_with fail
  go_loopw [5] (fun i wr => ∃ k : Nat, i = .int .i64 (k : Int) ∧ k ≤ a.length ∧ ((a.drop k).all fun m => decide (getK a (kr m) ≤ getK b (kr m))) = R ∧ Below w.heap.size w wr) (fun i _ => a.length - (intOf i).toNat)
  case atStart => exact ⟨0, rfl, Nat.zero_le _, HR.out, Below.refl _ _⟩
  case round =>
    obtain ⟨k, rfl, hk, hal, hbw⟩ := hrel
    have HAL := Lib.hid hal
    have HBW := Lib.hid hbw
    clear hal hbw
    by_cases hlt : k < a.length
    · obtain ⟨m, hm⟩ := some_at hlt
      obtain ⟨b0, o0, rfl, -, x0, -⟩ := mark_cells (H1.out.keep HBW.out) hm
      have hk0 : (0 : Int) ≤ (k : Int) := by omega
      have hkl : (k : Int) < (a.length : Int) := by omega
      have hst := below_step (b := b) hm
      rw [HAL.out] at hst
      obtain ⟨u, hu⟩ : ∃ u, getK a (kr m) = u := ⟨_, rfl⟩
      obtain ⟨v, hv⟩ : ∃ v, getK b (kr m) = v := ⟨_, rfl⟩
      rw [hu, hv] at hst
      have HU := Lib.hid hu
      have HV := Lib.hid hv
      have HST := Lib.hid hst
      have HC1 := Lib.hid (H1.out.keep HBW.out)
      have HC2 := Lib.hid (H2.out.keep HBW.out)
      clear hu hv hst hm
      go_wp2_with fail
      refine quiet_held (fun w' => Below wr.heap.size wr w') (by kernel_rfl) (by kernel_rfl) (Below.refl _ _).drew ?_
      repeat (first
        | go_big_quiet_skip
        | (go_big_quiet_want; go_big_quiet_op; go_big_quiet_on)
        | (go_big_quiet_want; apply Exists.intro; refine ⟨fun wq hq => ?_, ?_⟩; (focus (have z0 := keep_cell hq x0; unfold Oper.quietAt; go_simp; all_goals (first | rfl | exact ⟨rfl, rfl⟩ | (with_reducible refine (rkget_k HU.out ham wq (HC1.out.keep hq)).mono ?_; rintro e w5 ⟨rfl, rfl⟩; exact ⟨rfl, hq⟩) | (with_reducible refine (rkget_k HV.out hbm wq (HC2.out.keep hq)).mono ?_; rintro e w5 ⟨rfl, rfl⟩; exact ⟨rfl, hq⟩)))); simp only [Act.put, List.setIfInBounds_toArray, List.set_cons_zero, List.set_cons_succ]; go_big_quiet_on))
      refine wpQuiet_nil ?_
      intro wx hbx
      have HBX := Lib.hid (HBW.out.trans (hbx.mono HBW.out.size))
      by_cases hgt : u ≤ v
      · have hn : ¬ u > v := by omega
        rw [decide_eq_true hgt, Bool.true_and] at HST
        clear x0 hbx
        go_wp2_with fail
        go_roundw
        case rel => exact ⟨k + 1, by go_num, by omega, HST.out.symm, HBX.out⟩
        case measure => simp only [intOf]; omega
      · have hn : u > v := by omega
        rw [decide_eq_false hgt, Bool.false_and] at HST
        clear x0 hbx
        go_wp2_with fail
        go_ret
        exact ⟨by rw [HST.out]; rfl, HBX.out⟩
    · obtain rfl : k = a.length := by omega
      have hal := HAL.out
      rw [List.drop_length] at hal
      have HZ := Lib.hid hal
      clear hal
      go_wp2_with fail
      go_ret
      exact ⟨by rw [← HZ.out]; rfl, HBW.out⟩
end Go.Proofs.Ytbhejaokkkggjaa
