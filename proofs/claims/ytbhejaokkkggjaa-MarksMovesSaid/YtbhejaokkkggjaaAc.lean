/-
  What marks have of a replica, and whether they are below others: the program's, and the document's.
-/
import Derived.Test.YtbhejaokkkggjaaAb
import Derived.Test.YtbhejaokkkggjaaTk
namespace Go.Proofs.Ytbhejaokkkggjaa
open Go.RowKit Go.IntWalk
set_option maxRecDepth 100000
attribute [local go_sem] Oper.semAt_some

theorem kfirstF_c (m : Mk) (r : Int) (B : Nat) (W : World) (h : W.cell? ⟨B, 0, none⟩ = some (.int .i64 r)) :
    Calls Try.prog 97 #[kv m, .pointer (some ⟨B, 0, none⟩)] W fun e W' => e = .returned (.bool (isK r m)) ∧ Below W.heap.size W W' := by
  obtain ⟨a, b⟩ := m
  show Calls Try.prog 97 #[.agg #[.int .i64 a, .int .i64 b], .pointer (some ⟨B, 0, none⟩)] W _
  have hb := (Below.refl W.heap.size W).alloc (Nat.le_refl _) (.cells #[.int .i64 a, .int .i64 b] 70)
  have h2 : (W.alloc (.cells #[.int .i64 a, .int .i64 b] 70)).cell? ⟨B, 0, none⟩ = some (.int .i64 r) := keep_cell hb h
  go_enter Try.func97, Try.ntmps97
  go_wp2
  go_ret
  exact ⟨rfl, hb⟩
theorem isK_pred (r : Int) (B : Nat) (w : World) (l : List Mk) (h : w.cell? ⟨B, 0, none⟩ = some (.int .i64 r)) : PredK 97 #[.pointer (some ⟨B, 0, none⟩)] (isK r) w l := fun W m hb _ =>
  kfirstF_c m r B W (keep_cell hb h)
theorem kgtF_c (m : Mk) (r : Int) (B : Nat) (W : World) (h : W.cell? ⟨B, 1, none⟩ = some (.int .i64 r)) :
    Calls Try.prog 98 #[kv m, .pointer (some ⟨B, 0, none⟩)] W fun e W' => e = .returned (.bool (gtK r m)) ∧ Below W.heap.size W W' := by
  obtain ⟨a, b⟩ := m
  show Calls Try.prog 98 #[.agg #[.int .i64 a, .int .i64 b], .pointer (some ⟨B, 0, none⟩)] W _
  have hb := (Below.refl W.heap.size W).alloc (Nat.le_refl _) (.cells #[.int .i64 a, .int .i64 b] 70)
  have h2 : (W.alloc (.cells #[.int .i64 a, .int .i64 b] 70)).cell? ⟨B, 1, none⟩ = some (.int .i64 r) := keep_cell hb h
  go_enter Try.func98, Try.ntmps98
  go_wp2
  go_ret
  exact ⟨rfl, hb⟩
theorem gtK_pred (r : Int) (B : Nat) (w : World) (l : List Mk) (h : w.cell? ⟨B, 1, none⟩ = some (.int .i64 r)) : PredK 98 #[.pointer (some ⟨B, 0, none⟩)] (gtK r) w l := fun W m hb _ =>
  kgtF_c m r B W (keep_cell hb h)
theorem kfirst_c (A : Option Addr) (cap : Nat) (l : List Mk) (c : Int) (hl : l.length ≤ maxLen) (w : World) (hc : At w w.heap.size A (kvs l)) :
    Calls Try.prog 74 #[.slice A l.length cap, .int .i64 c] w fun e w' => e = .returned (.int .i64 (idxK (isK c) l)) ∧ Below w.heap.size w w' := by
  have hmf : ∀ (fn : Fn) (first cap : Array Value) (w : World), (Instr.makeFunc fn first cap).run Try.prog w = .ok (.func fn first cap) w := fun _ _ _ _ => rfl
  have hb := (Below.refl w.heap.size w).alloc (Nat.le_refl _) (.cells #[.int .i64 c] 3)
  have hc2 := hc.keep hb
  have hcell : (w.alloc (.cells #[.int .i64 c] 3)).cell? ⟨w.heap.size, 0, none⟩ = some (.int .i64 c) := by rw [World.cell?_alloc_at _ _ _ _ rfl]; rfl
  have hcall := kindexFunc_c A cap l 97 _ _ hl (enters_of Try.func97 (by kernel_rfl) rfl) _ hc2 (isK_pred c w.heap.size _ l hcell)
  have HCALL := Lib.hid hcall
  clear hcall hc2 hcell hc
  go_enter Try.func74, Try.ntmps74
  go_wp2_with fail
  refine HCALL.out.mono ?_
  rintro e w1 ⟨rfl, hb1⟩
  go_wp2_with fail
  go_ret
  exact ⟨rfl, hb.trans (hb1.mono hb.size)⟩
theorem kget_c (A : Option Addr) (cap : Nat) (l : List Mk) (c : Int) (hl : l.length ≤ maxLen) (w : World) (hc : At w w.heap.size A (kvs l)) :
    Calls Try.prog 42 #[.slice A l.length cap, .int .i64 c] w fun e w' => e = .returned (.int .i64 (getK l c)) ∧ Below w.heap.size w w' := by
  have HF := Lib.hid (kfirst_c A cap l c hl w hc)
  have HC := Lib.hid hc
  clear hc
  rcases getK_cases l c with ⟨h1, h2⟩ | ⟨k, x, h1, h2, h3, h4, -⟩
  · rw [h2]
    rw [h1] at HF
    clear h1 h2
    go_enter Try.func42, Try.ntmps42
    go_wp2_with fail
    refine HF.out.mono ?_
    rintro e w1 ⟨rfl, hb1⟩
    go_wp2_with fail
    go_ret
    exact ⟨rfl, hb1⟩
  · rw [h3]
    rw [h1] at HF
    have HX := Lib.hid h2
    have hk0 : (0 : Int) ≤ (k : Int) := by omega
    have hkl : (k : Int) < (l.length : Int) := by omega
    have hkn : ¬ (k : Int) < 0 := by omega
    clear h1 h2 h3
    go_enter Try.func42, Try.ntmps42
    go_wp2_with fail
    refine HF.out.mono ?_
    rintro e w1 ⟨rfl, hb1⟩
    obtain ⟨b0, o0, rfl, -, c0, c1⟩ := mark_cells (HC.out.keep hb1) HX.out
    go_wp2_with fail
    go_ret
    exact ⟨rfl, hb1⟩
theorem kget_k {A : Option Addr} {cap : Nat} {l : List Mk} {c v : Int} (h : getK l c = v) (hl : l.length ≤ maxLen) (w : World) (hc : At w w.heap.size A (kvs l)) :
    Calls Try.prog 42 #[.slice A l.length cap, .int .i64 c] w fun e w' => e = .returned (.int .i64 v) ∧ Below w.heap.size w w' := by
  subst h
  exact kget_c A cap l c hl w hc
set_option maxHeartbeats 1000000 in
theorem rkget_c (A : Option Addr) (cap : Nat) (l : List Mk) (c : Int) (hl : l.length ≤ maxLen) (w : World) (hc : At w w.heap.size A (kvs l)) :
    Calls Try.prog 43 #[.slice A l.length cap, .int .i64 c] w fun e w' => e = .returned (.int .i64 (getK l c)) ∧ w = w' := by
  unfold maxLen at hl
  obtain ⟨R, hR⟩ : ∃ R, getK l c = R := ⟨_, rfl⟩
  rw [hR]
  have HR := Lib.hid hR
  have HC := Lib.hid hc
  clear hR hc
  go_enter Try.func43, Try.ntmps43
  go_wp2_with fail
  go_loopw [5] (fun i wr => ∃ k : Nat, i = .int .i64 (k : Int) ∧ k ≤ l.length ∧ (∀ x ∈ l.take k, isK c x = false) ∧ wr = w) (fun i _ => l.length - (intOf i).toNat)
  case atStart => exact ⟨0, rfl, Nat.zero_le _, fun x hx => by simp at hx, rfl⟩
  case round =>
    obtain ⟨k, rfl, hk, hno, rfl⟩ := hrel
    have HN := Lib.hid hno
    clear hno
    by_cases hlt : k < l.length
    · obtain ⟨m, hr⟩ := some_at hlt
      obtain ⟨b0, o0, rfl, hb0, c0, c1⟩ := mark_cells HC.out hr
      have HRR := Lib.hid hr
      have hk0 : (0 : Int) ≤ (k : Int) := by omega
      have hkl : (k : Int) < (l.length : Int) := by omega
      clear hr
      by_cases hq : kr m = c
      · have hp := getK_some HRR.out hq HN.out
        rw [hq] at c0
        rw [HR.out] at hp
        have HP := Lib.hid hp
        clear hp hq
        go_wp2_with fail
        go_ret
        exact ⟨by rw [← HP.out]; rfl, rfl⟩
      · have hqb : (kr m == c) = false := by simpa using hq
        have HQ := Lib.hid hq
        clear hq
        go_wp2_with fail
        go_roundw
        case rel => exact ⟨k + 1, by go_num, by omega, isK_take HRR.out HQ.out HN.out, by first | rfl | trivial⟩
        case measure => simp only [intOf]; omega
    · obtain rfl : k = l.length := by omega
      have h := HN.out
      rw [List.take_length] at h
      have HNN := Lib.hid h
      clear h
      go_wp2_with fail
      go_ret
      exact ⟨by rw [← HR.out, getK_none HNN.out]; rfl, rfl⟩
theorem rkget_k {A : Option Addr} {cap : Nat} {l : List Mk} {c v : Int} (h : getK l c = v) (hl : l.length ≤ maxLen) (w : World) (hc : At w w.heap.size A (kvs l)) :
    Calls Try.prog 43 #[.slice A l.length cap, .int .i64 c] w fun e w' => e = .returned (.int .i64 v) ∧ w = w' := by
  subst h
  exact rkget_c A cap l c hl w hc

/-- whether of that mark's replica the first ones know more -/
def overK (a b : List Mk) (m : Mk) : Bool := decide (getK b (kr m) < getK a (kr m))
theorem below_over (a b : List Mk) : belowK a b = !(a.any (overK a b)) := by
  unfold belowK overK
  rw [List.not_any_eq_all_not]
  congr 1
  funext m
  rw [← decide_not]
  exact decide_eq_decide.2 ⟨fun h => by omega, fun h => by omega⟩
set_option maxHeartbeats 2000000 in
theorem kbelowF_c (A1 A2 : Option Addr) (c1 c2 : Nat) (a b : List Mk) (ha : a.length ≤ maxLen) (hb : b.length ≤ maxLen) (m : Mk) (B1 B2 : Nat) (W : World) (h1 : W.cell? ⟨B1, 0, none⟩ = some (.slice A1 a.length c1)) (h2 : W.cell? ⟨B2, 0, none⟩ = some (.slice A2 b.length c2)) (k1 : At W W.heap.size A1 (kvs a)) (k2 : At W W.heap.size A2 (kvs b)) :
    Calls Try.prog 78 #[kv m, .pointer (some ⟨B1, 0, none⟩), .pointer (some ⟨B2, 0, none⟩)] W fun e W' => e = .returned (.bool (overK a b m)) ∧ Below W.heap.size W W' := by
  obtain ⟨x, y⟩ := m
  show Calls Try.prog 78 #[.agg #[.int .i64 x, .int .i64 y], .pointer (some ⟨B1, 0, none⟩), .pointer (some ⟨B2, 0, none⟩)] W _
  have hb0 := (Below.refl W.heap.size W).alloc (Nat.le_refl _) (.cells #[.int .i64 x, .int .i64 y] 70)
  obtain ⟨w0, hw0⟩ : ∃ w0, w0 = W.alloc (.cells #[.int .i64 x, .int .i64 y] 70) := ⟨_, rfl⟩
  have hI : Is w0 W.heap.size 70 [.int .i64 x, .int .i64 y] := by rw [hw0]; exact is_new W 70 _
  rw [← hw0] at hb0
  have q0 : w0.cell? ⟨W.heap.size, 0, none⟩ = some (.int .i64 x) := is_cell hI 0
  have q1 : w0.cell? ⟨B1, 0, none⟩ = some (.slice A1 a.length c1) := keep_cell hb0 h1
  have q2 : w0.cell? ⟨B2, 0, none⟩ = some (.slice A2 b.length c2) := keep_cell hb0 h2
  have K1 := Lib.hid (k1.keep hb0)
  have K2 := Lib.hid (k2.keep hb0)
  have HB0 := Lib.hid hb0
  have HW := Lib.hid hw0
  have ho : overK a b (x, y) = decide (getK b x < getK a x) := rfl
  rw [ho]
  obtain ⟨u, hu⟩ : ∃ u, getK a x = u := ⟨_, rfl⟩
  obtain ⟨v, hv⟩ : ∃ v, getK b x = v := ⟨_, rfl⟩
  rw [hu, hv]
  have HU := Lib.hid hu
  have HV := Lib.hid hv
  obtain ⟨G, hG⟩ : ∃ G, G = W.heap.size := ⟨_, rfl⟩
  rw [← hG] at q0
  have HG := Lib.hid hG
  clear hu hv ho k1 k2 h1 h2 hb0 hI hw0 hG
  go_enter Try.func78, Try.ntmps78
  go_wp2_with fail
  rw [← HW.out, ← HG.out]
  refine quiet_held (fun w' => Below w0.heap.size w0 w') (by kernel_rfl) (by kernel_rfl) (Below.refl _ _).drew ?_
  repeat (first
    | go_big_quiet_skip
    | (go_big_quiet_want; go_big_quiet_op; go_big_quiet_on)
    | (go_big_quiet_want; apply Exists.intro; refine ⟨fun wq hq => ?_, ?_⟩; (focus (have z0 := keep_cell hq q0; have z1 := keep_cell hq q1; have z2 := keep_cell hq q2; unfold Oper.quietAt; go_simp; all_goals (first | rfl | exact ⟨rfl, rfl⟩ | (with_reducible refine (kget_k HU.out ha wq (K1.out.keep hq)).mono ?_; rintro e w5 ⟨rfl, hbn⟩; exact ⟨rfl, hq.trans (hbn.mono hq.size)⟩) | (with_reducible refine (kget_k HV.out hb wq (K2.out.keep hq)).mono ?_; rintro e w5 ⟨rfl, hbn⟩; exact ⟨rfl, hq.trans (hbn.mono hq.size)⟩)))); simp only [Act.put, List.setIfInBounds_toArray, List.set_cons_zero, List.set_cons_succ]; go_big_quiet_on))
  refine wpQuiet_nil ?_
  intro wx hbx
  have hbw := HB0.out.trans (hbx.mono HB0.out.size)
  go_wp2_with fail
  go_ret
  exact ⟨ret_bool (by simp), hbw⟩
theorem over_pred (A1 A2 : Option Addr) (c1 c2 : Nat) (a b l : List Mk) (ha : a.length ≤ maxLen) (hb : b.length ≤ maxLen) (B1 B2 : Nat) (w : World) (h1 : w.cell? ⟨B1, 0, none⟩ = some (.slice A1 a.length c1)) (h2 : w.cell? ⟨B2, 0, none⟩ = some (.slice A2 b.length c2)) (k1 : At w w.heap.size A1 (kvs a)) (k2 : At w w.heap.size A2 (kvs b)) :
    PredK 78 #[.pointer (some ⟨B1, 0, none⟩), .pointer (some ⟨B2, 0, none⟩)] (overK a b) w l := fun W m hbw _ =>
  kbelowF_c A1 A2 c1 c2 a b ha hb m B1 B2 W (keep_cell hbw h1) (keep_cell hbw h2) (k1.keep hbw) (k2.keep hbw)
set_option maxHeartbeats 2000000 in
theorem kbelow_c (A1 A2 : Option Addr) (c1 c2 : Nat) (a b : List Mk) (ha : a.length ≤ maxLen) (hb : b.length ≤ maxLen) (w : World) (k1 : At w w.heap.size A1 (kvs a)) (k2 : At w w.heap.size A2 (kvs b)) :
    Calls Try.prog 49 #[.slice A1 a.length c1, .slice A2 b.length c2] w fun e w' => e = .returned (.bool (belowK a b)) ∧ Below w.heap.size w w' := by
  have hmf : ∀ (fn : Fn) (first cap : Array Value) (w : World), (Instr.makeFunc fn first cap).run Try.prog w = .ok (.func fn first cap) w := fun _ _ _ _ => rfl
  obtain ⟨w0, hw0⟩ : ∃ w0, w0 = (w.alloc (.cells #[.slice A1 a.length c1] 58)).alloc (.cells #[.slice A2 b.length c2] 58) := ⟨_, rfl⟩
  have hb0 : Below w.heap.size w w0 := by rw [hw0]; exact ((Below.refl w.heap.size w).alloc (Nat.le_refl _) _).alloc (by simp) _
  have hI1 : Is (w.alloc (.cells #[.slice A1 a.length c1] 58)) w.heap.size 58 [.slice A1 a.length c1] := is_new w 58 _
  have q1 : w0.cell? ⟨w.heap.size, 0, none⟩ = some (.slice A1 a.length c1) := by rw [hw0]; exact keep_cell ((Below.refl _ _).alloc (Nat.le_refl _) _) (is_cell hI1 0)
  have q2 : w0.cell? ⟨w.heap.size + 1, 0, none⟩ = some (.slice A2 b.length c2) := by
    rw [hw0]
    have := is_cell (is_new (w.alloc (.cells #[.slice A1 a.length c1] 58)) 58 [.slice A2 b.length c2]) 0
    rw [World.size_alloc] at this
    exact this
  have hcall := kcontainsFunc_c A1 c1 a 78 _ _ ha (enters_of Try.func78 (by kernel_rfl) rfl) w0 (k1.keep hb0) (over_pred A1 A2 c1 c2 a b a ha hb _ _ w0 q1 q2 (k1.keep hb0) (k2.keep hb0))
  have HCALL := Lib.hid hcall
  have HB0 := Lib.hid hb0
  have HW := Lib.hid hw0
  rw [below_over]
  obtain ⟨z, hz⟩ : ∃ z, a.any (overK a b) = z := ⟨_, rfl⟩
  rw [hz] at HCALL ⊢
  rw [hw0] at q1
  clear hcall hb0 hI1 q2 hz k1 k2 hw0
  go_enter Try.func49, Try.ntmps49
  go_wp2_with fail
  rw [← HW.out]
  refine HCALL.out.mono ?_
  rintro e w1 ⟨rfl, hb1⟩
  go_wp2_with fail
  go_ret
  exact ⟨rfl, HB0.out.trans (hb1.mono HB0.out.size)⟩
end Go.Proofs.Ytbhejaokkkggjaa
