/-
 What marks have of a replica, and whether they are below others: the program's, and the document's.
 copy, at elements of two cells; a mark that is laid into marks of the call's own (slices.Insert).
-/
import Derived.Test.YthhckdjagnlgpaaGreatAb
import Derived.Test.YthhckdjagnlgpaaGreatTk
import Derived.Laws.CopyOwn
import Derived.Lib.Overlaps
import Derived.Lib.AppendZerosOnto
section
namespace Go.Proofs.YthhckdjagnlgpaaGreat
open Go.RowKit Go.IntWalk
set_option maxRecDepth 100000
attribute [local go_sem] Oper.semAt_some
theorem kfirstF_c (m : Mk) (r : Int) (B : Nat) (W : World) (h : W.cell? ⟨B, 0, none⟩ = some (.int .i64 r)) :
  Calls Tryz.prog 160 #[kv m, .pointer (some ⟨B, 0, none⟩)] W fun e W' => e = .returned (.bool (isK r m)) ∧ Below W.heap.size W W' := by
 obtain ⟨a, b⟩ := m
 show Calls Tryz.prog 160 #[.agg #[.int .i64 a, .int .i64 b], .pointer (some ⟨B, 0, none⟩)] W _
 have hb := (Below.refl W.heap.size W).alloc (Nat.le_refl _) (.cells #[.int .i64 a, .int .i64 b] 105)
 have h2 : (W.alloc (.cells #[.int .i64 a, .int .i64 b] 105)).cell? ⟨B, 0, none⟩ = some (.int .i64 r) := keep_cell hb h
 go_enter Tryz.func160, Tryz.ntmps160
 go_wp2
 go_ret
 exact ⟨rfl, hb⟩
theorem isK_pred (r : Int) (B : Nat) (w : World) (l : List Mk) (h : w.cell? ⟨B, 0, none⟩ = some (.int .i64 r)) : PredK 160 #[.pointer (some ⟨B, 0, none⟩)] (isK r) w l := fun W m hb _ =>
 kfirstF_c m r B W (keep_cell hb h)
theorem kgtF_c (m : Mk) (r : Int) (B : Nat) (W : World) (h : W.cell? ⟨B, 1, none⟩ = some (.int .i64 r)) :
  Calls Tryz.prog 161 #[kv m, .pointer (some ⟨B, 0, none⟩)] W fun e W' => e = .returned (.bool (gtK r m)) ∧ Below W.heap.size W W' := by
 obtain ⟨a, b⟩ := m
 show Calls Tryz.prog 161 #[.agg #[.int .i64 a, .int .i64 b], .pointer (some ⟨B, 0, none⟩)] W _
 have hb := (Below.refl W.heap.size W).alloc (Nat.le_refl _) (.cells #[.int .i64 a, .int .i64 b] 105)
 have h2 : (W.alloc (.cells #[.int .i64 a, .int .i64 b] 105)).cell? ⟨B, 1, none⟩ = some (.int .i64 r) := keep_cell hb h
 go_enter Tryz.func161, Tryz.ntmps161
 go_wp2
 go_ret
 exact ⟨rfl, hb⟩
theorem gtK_pred (r : Int) (B : Nat) (w : World) (l : List Mk) (h : w.cell? ⟨B, 1, none⟩ = some (.int .i64 r)) : PredK 161 #[.pointer (some ⟨B, 0, none⟩)] (gtK r) w l := fun W m hb _ =>
 kgtF_c m r B W (keep_cell hb h)
theorem kfirst_c (A : Option Addr) (cap : Nat) (l : List Mk) (c : Int) (hl : l.length ≤ maxLen) (w : World) (hc : At w w.heap.size A (kvs l)) :
  Calls Tryz.prog 120 #[.slice A l.length cap, .int .i64 c] w fun e w' => e = .returned (.int .i64 (idxK (isK c) l)) ∧ Below w.heap.size w w' := by
 have hmf : ∀ (fn : Fn) (first cap : Array Value) (w : World), (Instr.makeFunc fn first cap).run Tryz.prog w = .ok (.func fn first cap) w := fun _ _ _ _ => rfl
 have hb := (Below.refl w.heap.size w).alloc (Nat.le_refl _) (.cells #[.int .i64 c] 3)
 have hc2 := hc.keep hb
 have hcell : (w.alloc (.cells #[.int .i64 c] 3)).cell? ⟨w.heap.size, 0, none⟩ = some (.int .i64 c) := by rw [World.cell?_alloc_at _ _ _ _ rfl]; rfl
 have hcall := kindexFunc_c A cap l 160 _ _ hl (enters_of Tryz.func160 (by kernel_rfl) rfl) _ hc2 (isK_pred c w.heap.size _ l hcell)
 have HCALL := Lib.hid hcall
 clear hcall hc2 hcell hc
 go_enter Tryz.func120, Tryz.ntmps120
 go_wp2_with fail
 refine HCALL.out.mono ?_
 rintro e w1 ⟨rfl, hb1⟩
 go_wp2_with fail
 go_ret
 exact ⟨rfl, hb.trans (hb1.mono hb.size)⟩
theorem kget_c (A : Option Addr) (cap : Nat) (l : List Mk) (c : Int) (hl : l.length ≤ maxLen) (w : World) (hc : At w w.heap.size A (kvs l)) :
  Calls Tryz.prog 59 #[.slice A l.length cap, .int .i64 c] w fun e w' => e = .returned (.int .i64 (getK l c)) ∧ Below w.heap.size w w' := by
 have HF := Lib.hid (kfirst_c A cap l c hl w hc)
 have HC := Lib.hid hc
 clear hc
 rcases getK_cases l c with ⟨h1, h2⟩ | ⟨k, x, h1, h2, h3, h4, -⟩
 ·rw [h2]
  rw [h1] at HF
  clear h1 h2
  go_enter Tryz.func59, Tryz.ntmps59
  go_wp2_with fail
  refine HF.out.mono ?_
  rintro e w1 ⟨rfl, hb1⟩
  go_wp2_with fail
  go_ret
  exact ⟨rfl, hb1⟩
 ·rw [h3]
  rw [h1] at HF
  have HX := Lib.hid h2
  have hk0 : (0 : Int) ≤ (k : Int) := by omega
  have hkl : (k : Int) < (l.length : Int) := by omega
  have hkn : ¬ (k : Int) < 0 := by omega
  clear h1 h2 h3
  go_enter Tryz.func59, Tryz.ntmps59
  go_wp2_with fail
  refine HF.out.mono ?_
  rintro e w1 ⟨rfl, hb1⟩
  obtain ⟨b0, o0, rfl, -, c0, c1⟩ := mark_cells (HC.out.keep hb1) HX.out
  go_wp2_with fail
  go_ret
  exact ⟨rfl, hb1⟩
theorem kget_k {A : Option Addr} {cap : Nat} {l : List Mk} {c v : Int} (h : getK l c = v) (hl : l.length ≤ maxLen) (w : World) (hc : At w w.heap.size A (kvs l)) :
  Calls Tryz.prog 59 #[.slice A l.length cap, .int .i64 c] w fun e w' => e = .returned (.int .i64 v) ∧ Below w.heap.size w w' := by
 subst h
 exact kget_c A cap l c hl w hc
set_option maxHeartbeats 1000000 in
theorem rkget_c (A : Option Addr) (cap : Nat) (l : List Mk) (c : Int) (hl : l.length ≤ maxLen) (w : World) (hc : At w w.heap.size A (kvs l)) :
  Calls Tryz.prog 98 #[.slice A l.length cap, .int .i64 c] w fun e w' => e = .returned (.int .i64 (getK l c)) ∧ w = w' := by
 unfold maxLen at hl
 obtain ⟨R, hR⟩ : ∃ R, getK l c = R := ⟨_, rfl⟩
 rw [hR]
 have HR := Lib.hid hR
 have HC := Lib.hid hc
 clear hR hc
 go_enter Tryz.func98, Tryz.ntmps98
 go_wp2_with fail
 go_loopw [5] (fun i wr => ∃ k : Nat, i = .int .i64 (k : Int) ∧ k ≤ l.length ∧ (∀ x ∈ l.take k, isK c x = false) ∧ wr = w) (fun i _ => l.length - (intOf i).toNat)
 case atStart => exact ⟨0, rfl, Nat.zero_le _, fun x hx => by simp at hx, rfl⟩
 case round =>
  obtain ⟨k, rfl, hk, hno, rfl⟩ := hrel
  have HN := Lib.hid hno
  clear hno
  by_cases hlt : k < l.length
  ·obtain ⟨m, hr⟩ := some_at hlt
   obtain ⟨b0, o0, rfl, hb0, c0, c1⟩ := mark_cells HC.out hr
   have HRR := Lib.hid hr
   have hk0 : (0 : Int) ≤ (k : Int) := by omega
   have hkl : (k : Int) < (l.length : Int) := by omega
   clear hr
   by_cases hq : kr m = c
   ·have hp := getK_some HRR.out hq HN.out
    rw [hq] at c0
    rw [HR.out] at hp
    have HP := Lib.hid hp
    clear hp hq
    go_wp2_with fail
    go_ret
    exact ⟨by rw [← HP.out]; rfl, rfl⟩
   ·have hqb : (kr m == c) = false := by simpa using hq
    have HQ := Lib.hid hq
    clear hq
    go_wp2_with fail
    go_roundw
    case rel => exact ⟨k + 1, by go_num, by omega, isK_take HRR.out HQ.out HN.out, by first | rfl | trivial⟩
    case measure => simp only [intOf]; omega
  ·obtain rfl : k = l.length := by omega
   have h := HN.out
   rw [List.take_length] at h
   have HNN := Lib.hid h
   clear h
   go_wp2_with fail
   go_ret
   exact ⟨by rw [← HR.out, getK_none HNN.out]; rfl, rfl⟩
theorem rkget_k {A : Option Addr} {cap : Nat} {l : List Mk} {c v : Int} (h : getK l c = v) (hl : l.length ≤ maxLen) (w : World) (hc : At w w.heap.size A (kvs l)) :
  Calls Tryz.prog 98 #[.slice A l.length cap, .int .i64 c] w fun e w' => e = .returned (.int .i64 v) ∧ w = w' := by
 subst h
 exact rkget_c A cap l c hl w hc
/-- whether of that mark's replica the first ones know more -/
def overK (a b : List Mk) (m : Mk) : Bool := decide (getK b (kr m) < getK a (kr m))
theorem below_over (a b : List Mk) : belowK a b = !(a.any (overK a b)) := by
 unfold belowK overK
 rw [List.not_any_eq_all_not]
 congr 1
 funext m
 rw [← decide_not]
 exact decide_eq_decide.2 ⟨fun h => by omega, fun h => by omega⟩
set_option maxHeartbeats 2000000 in
theorem kbelowF_c (A1 A2 : Option Addr) (c1 c2 : Nat) (a b : List Mk) (ha : a.length ≤ maxLen) (hb : b.length ≤ maxLen) (m : Mk) (B1 B2 : Nat) (W : World) (h1 : W.cell? ⟨B1, 0, none⟩ = some (.slice A1 a.length c1)) (h2 : W.cell? ⟨B2, 0, none⟩ = some (.slice A2 b.length c2)) (k1 : At W W.heap.size A1 (kvs a)) (k2 : At W W.heap.size A2 (kvs b)) :
  Calls Tryz.prog 122 #[kv m, .pointer (some ⟨B1, 0, none⟩), .pointer (some ⟨B2, 0, none⟩)] W fun e W' => e = .returned (.bool (overK a b m)) ∧ Below W.heap.size W W' := by
 obtain ⟨x, y⟩ := m
 show Calls Tryz.prog 122 #[.agg #[.int .i64 x, .int .i64 y], .pointer (some ⟨B1, 0, none⟩), .pointer (some ⟨B2, 0, none⟩)] W _
 have hb0 := (Below.refl W.heap.size W).alloc (Nat.le_refl _) (.cells #[.int .i64 x, .int .i64 y] 105)
 obtain ⟨w0, hw0⟩ : ∃ w0, w0 = W.alloc (.cells #[.int .i64 x, .int .i64 y] 105) := ⟨_, rfl⟩
 have hI : Is w0 W.heap.size 105 [.int .i64 x, .int .i64 y] := by rw [hw0]; exact is_new W 105 _
 rw [← hw0] at hb0
 have q0 : w0.cell? ⟨W.heap.size, 0, none⟩ = some (.int .i64 x) := is_cell hI 0
 have q1 : w0.cell? ⟨B1, 0, none⟩ = some (.slice A1 a.length c1) := keep_cell hb0 h1
 have q2 : w0.cell? ⟨B2, 0, none⟩ = some (.slice A2 b.length c2) := keep_cell hb0 h2
 have K1 := Lib.hid (k1.keep hb0)
 have K2 := Lib.hid (k2.keep hb0)
 have HB0 := Lib.hid hb0
 have HW := Lib.hid hw0
 have ho : overK a b (x, y) = decide (getK b x < getK a x) := rfl
 rw [ho]
 obtain ⟨u, hu⟩ : ∃ u, getK a x = u := ⟨_, rfl⟩
 obtain ⟨v, hv⟩ : ∃ v, getK b x = v := ⟨_, rfl⟩
 rw [hu, hv]
 have HU := Lib.hid hu
 have HV := Lib.hid hv
 obtain ⟨G, hG⟩ : ∃ G, G = W.heap.size := ⟨_, rfl⟩
 rw [← hG] at q0
 have HG := Lib.hid hG
 clear hu hv ho k1 k2 h1 h2 hb0 hI hw0 hG
 go_enter Tryz.func122, Tryz.ntmps122
 go_wp2_with fail
 rw [← HW.out, ← HG.out]
 refine quiet_held (fun w' => Below w0.heap.size w0 w') (by kernel_rfl) (by kernel_rfl) (Below.refl _ _).drew ?_
 repeat (first
  | go_big_quiet_skip
  | (go_big_quiet_want; go_big_quiet_op; go_big_quiet_on)
  | (go_big_quiet_want; apply Exists.intro; refine ⟨fun wq hq => ?_, ?_⟩; (focus (have z0 := keep_cell hq q0; have z1 := keep_cell hq q1; have z2 := keep_cell hq q2; unfold Oper.quietAt; go_simp; all_goals (first | rfl | exact ⟨rfl, rfl⟩ | (with_reducible refine (kget_k HU.out ha wq (K1.out.keep hq)).mono ?_; rintro e w5 ⟨rfl, hbn⟩; exact ⟨rfl, hq.trans (hbn.mono hq.size)⟩) | (with_reducible refine (kget_k HV.out hb wq (K2.out.keep hq)).mono ?_; rintro e w5 ⟨rfl, hbn⟩; exact ⟨rfl, hq.trans (hbn.mono hq.size)⟩)))); simp only [Act.put, List.setIfInBounds_toArray, List.set_cons_zero, List.set_cons_succ]; go_big_quiet_on))
 refine wpQuiet_nil ?_
 intro wx hbx
 have hbw := HB0.out.trans (hbx.mono HB0.out.size)
 go_wp2_with fail
 go_ret
 exact ⟨ret_bool (by simp), hbw⟩
theorem over_pred (A1 A2 : Option Addr) (c1 c2 : Nat) (a b l : List Mk) (ha : a.length ≤ maxLen) (hb : b.length ≤ maxLen) (B1 B2 : Nat) (w : World) (h1 : w.cell? ⟨B1, 0, none⟩ = some (.slice A1 a.length c1)) (h2 : w.cell? ⟨B2, 0, none⟩ = some (.slice A2 b.length c2)) (k1 : At w w.heap.size A1 (kvs a)) (k2 : At w w.heap.size A2 (kvs b)) :
  PredK 122 #[.pointer (some ⟨B1, 0, none⟩), .pointer (some ⟨B2, 0, none⟩)] (overK a b) w l := fun W m hbw _ =>
 kbelowF_c A1 A2 c1 c2 a b ha hb m B1 B2 W (keep_cell hbw h1) (keep_cell hbw h2) (k1.keep hbw) (k2.keep hbw)
set_option maxHeartbeats 2000000 in
theorem kbelow_c (A1 A2 : Option Addr) (c1 c2 : Nat) (a b : List Mk) (ha : a.length ≤ maxLen) (hb : b.length ≤ maxLen) (w : World) (k1 : At w w.heap.size A1 (kvs a)) (k2 : At w w.heap.size A2 (kvs b)) :
  Calls Tryz.prog 60 #[.slice A1 a.length c1, .slice A2 b.length c2] w fun e w' => e = .returned (.bool (belowK a b)) ∧ Below w.heap.size w w' := by
 have hmf : ∀ (fn : Fn) (first cap : Array Value) (w : World), (Instr.makeFunc fn first cap).run Tryz.prog w = .ok (.func fn first cap) w := fun _ _ _ _ => rfl
 obtain ⟨w0, hw0⟩ : ∃ w0, w0 = (w.alloc (.cells #[.slice A1 a.length c1] 53)).alloc (.cells #[.slice A2 b.length c2] 53) := ⟨_, rfl⟩
 have hb0 : Below w.heap.size w w0 := by rw [hw0]; exact ((Below.refl w.heap.size w).alloc (Nat.le_refl _) _).alloc (by simp) _
 have hI1 : Is (w.alloc (.cells #[.slice A1 a.length c1] 53)) w.heap.size 53 [.slice A1 a.length c1] := is_new w 53 _
 have q1 : w0.cell? ⟨w.heap.size, 0, none⟩ = some (.slice A1 a.length c1) := by rw [hw0]; exact keep_cell ((Below.refl _ _).alloc (Nat.le_refl _) _) (is_cell hI1 0)
 have q2 : w0.cell? ⟨w.heap.size + 1, 0, none⟩ = some (.slice A2 b.length c2) := by
  rw [hw0]
  have := is_cell (is_new (w.alloc (.cells #[.slice A1 a.length c1] 53)) 53 [.slice A2 b.length c2]) 0
  rw [World.size_alloc] at this
  exact this
 have hcall := kcontainsFunc_c A1 c1 a 122 _ _ ha (enters_of Tryz.func122 (by kernel_rfl) rfl) w0 (k1.keep hb0) (over_pred A1 A2 c1 c2 a b a ha hb _ _ w0 q1 q2 (k1.keep hb0) (k2.keep hb0))
 have HCALL := Lib.hid hcall
 have HB0 := Lib.hid hb0
 have HW := Lib.hid hw0
 rw [below_over]
 obtain ⟨z, hz⟩ : ∃ z, a.any (overK a b) = z := ⟨_, rfl⟩
 rw [hz] at HCALL ⊢
 rw [hw0] at q1
 clear hcall hb0 hI1 q2 hz k1 k2 hw0
 go_enter Tryz.func60, Tryz.ntmps60
 go_wp2_with fail
 rw [← HW.out]
 refine HCALL.out.mono ?_
 rintro e w1 ⟨rfl, hb1⟩
 go_wp2_with fail
 go_ret
 exact ⟨rfl, HB0.out.trans (hb1.mono HB0.out.size)⟩
end Go.Proofs.YthhckdjagnlgpaaGreat
end
section
namespace Go.Proofs.YthhckdjagnlgpaaGreat
open Go.RowKit Go.IntWalk
set_option maxRecDepth 100000
attribute [local go_sem] Oper.semAt_some
theorem run_copy_some2 {P : Program} (w : World) (dT sT ty elem : TypeId) (g o dLen dCap : Nat) (a : Addr) (sLen sCap m : Nat) (cur : Array Value) (t : TypeId) (cs : List Value)
  (hu : P.underlying dT = some (.slice elem)) (hs : (P.info? elem).map (·.size) = some 2) (hm : m = Nat.min sLen dLen)
  (hg : w.heap[g]? = some (.cells cur t (0, 0))) (hn : cs.length = m * 2)
  (hsrc : ∀ j v, cs[j]? = some v → w.cell? (a.add j) = some v) (hfit : o + cs.length ≤ cur.size) (h1 : ∀ v ∈ cs, v.oneCell' = true) :
  (Builtin.copy_ #[dT, sT] ty #[.slice (some ⟨g, o, none⟩) dLen dCap, .slice (some a) sLen sCap]).run P w =
   .ok (goInt m) (w.setRow g (cur.toList.take o ++ cs ++ cur.toList.drop (o + cs.length)).toArray) := by
 have hl := run_loadCells_list (P := P) w a cs hsrc
 have hst := run_storeCells_at P g o t cs 0 cur w hg (by simpa using hfit) h1
 cases hq : P.info? elem with
 | none => simp [hq] at hs
 | some i =>
  have hi : i.size = 2 := by simpa [hq] using hs
  simp [Builtin.copy_, run_underlying hu, Builtin.lenOf, Builtin.firstCells, sizeOf, typeInfo, hq, hi, ← hm, ← hn, hl, hst]
theorem run_copy_none2 {P : Program} (w : World) (dT sT ty elem : TypeId) (d a : Option Addr) (dLen dCap sLen sCap : Nat) (hu : P.underlying dT = some (.slice elem)) (hs : (P.info? elem).map (·.size) = some 2) (hn : Nat.min sLen dLen = 0) :
  (Builtin.copy_ #[dT, sT] ty #[.slice d dLen dCap, .slice a sLen sCap]).run P w = .ok (goInt 0) w := by
 cases hq : P.info? elem with
 | none => simp [hq] at hs
 | some i =>
  have hl : ∀ (x : Addr), (loadCells x 0).run P w = .ok #[] w := fun x => by simpa using run_loadCells_list (P := P) w x [] (by simp)
  cases d <;> cases a <;> simp [Builtin.copy_, run_underlying hu, Builtin.lenOf, Builtin.firstCells, sizeOf, typeInfo, hq, hn, storeCells, hl]
theorem run_copy2 {P : Program} {w : World} (dT sT ty elem : TypeId) (hu : P.underlying dT = some (.slice elem)) (hsz : (P.info? elem).map (·.size) = some 2)
  (dp sp : Option Addr) (dLen dCap sLen sCap : Nat) (g off m : Nat) (hm : m = Nat.min sLen dLen) (cur : List Value) (t : TypeId) (hg : w.heap[g]? = some (.cells cur.toArray t (0, 0))) (cs : List Value) (hn : cs.length = m * 2)
  (hpos : 0 < m → dp = some ⟨g, off, none⟩ ∧ ∃ ad, sp = some ad ∧ ∀ j v, cs[j]? = some v → w.cell? (ad.add j) = some v)
  (hfit : off + cs.length ≤ cur.length) (h1 : ∀ v ∈ cs, v.oneCell' = true) (B : Nat) (w0 : World) (hb : Below B w0 w) (hBg : B ≤ g) :
  ∃ w', (Builtin.copy_ #[dT, sT] ty #[.slice dp dLen dCap, .slice sp sLen sCap]).run P w = .ok (goInt m) w' ∧ w'.heap[g]? = some (.cells (splice cur off cs).toArray t (0, 0)) ∧ Below B w0 w' ∧ (∀ k, k ≠ g → w'.heap[k]? = w.heap[k]?) := by
 by_cases h0 : m = 0
 ·subst h0
  obtain rfl : cs = [] := List.eq_nil_of_length_eq_zero (by omega)
  exact ⟨w, run_copy_none2 w dT sT ty elem dp sp dLen dCap sLen sCap hu hsz hm.symm, by simpa [splice] using hg, hb, fun _ _ => rfl⟩
 ·obtain ⟨rfl, ad, rfl, hsrc⟩ := hpos (by omega)
  exact ⟨_, run_copy_some2 w dT sT ty elem g off dLen dCap ad sLen sCap m cur.toArray t cs hu hsz hm hg hn hsrc (by simpa using hfit) h1, by simpa [splice] using setRow_heap w g _ _ t _ hg, below_setRow hb hBg _, fun k hk => setRow_other w g k _ hk⟩
theorem wpList_copy2 {P : Program} {w : World} {ops : Array Oper} {rest : List Oper} {o : Oper} {a : Act} {Q : Exit → Act → World → Prop} (hgd : o.guard = none) (d s : Operand) (dT sT : TypeId)
  (ho : o.op = .call { callee := .builtin .copy, args := #[d, s], argTypes := #[dT, sT] }) (elem : TypeId) (hu : P.underlying dT = some (.slice elem)) (hsz : (P.info? elem).map (·.size) = some 2)
  (dp sp : Option Addr) (dLen dCap sLen sCap : Nat) (hd : a.eval d = .slice dp dLen dCap) (hs : a.eval s = .slice sp sLen sCap)
  (g off m : Nat) (hm : m = Nat.min sLen dLen) (cur : List Value) (t : TypeId) (hg : w.heap[g]? = some (.cells cur.toArray t (0, 0))) (cs : List Value) (hn : cs.length = m * 2)
  (hpos : 0 < m → dp = some ⟨g, off, none⟩ ∧ ∃ ad, sp = some ad ∧ ∀ j v, cs[j]? = some v → w.cell? (ad.add j) = some v)
  (hfit : off + cs.length ≤ cur.length) (h1 : ∀ v ∈ cs, v.oneCell' = true) (B : Nat) (w0 : World) (hb : Below B w0 w) (hBg : B ≤ g)
  (h : ∀ w', Hid (w'.heap[g]? = some (.cells (splice cur off cs).toArray t (0, 0))) → Hid (Below B w0 w' ∧ ∀ k, k ≠ g → w'.heap[k]? = w.heap[k]?) → wpList P ops Q rest (a.put o.dst (goInt m)) w') :
  wpList P ops Q (o :: rest) a w := by
 obtain ⟨w', hrun, h2, h3, h4⟩ := run_copy2 dT sT o.type elem hu hsz dp sp dLen dCap sLen sCap g off m hm cur t hg cs hn hpos hfit h1 B w0 hb hBg
 refine wpList_plain hgd fun K hK => ?_
 unfold Oper.wp
 simp [execOp, ho, resolve, invoke, builtin, hd, hs, hrun, Result.andThen]
 exact hK _ _ (h w' h2 ⟨h3, h4⟩)
theorem step_copy2 {P : Program} {ops : Array Oper} {o : Oper} {a : Act} {w : World} {K : Act → World → Prop} {Q : Exit → Act → World → Prop} {E : Prop} (hgd : o.guard = none) (d s : Operand) (dT sT : TypeId)
  (ho : o.op = .call { callee := .builtin .copy, args := #[d, s], argTypes := #[dT, sT] }) (elem : TypeId) (hu : P.underlying dT = some (.slice elem)) (hsz : (P.info? elem).map (·.size) = some 2)
  (dp sp : Option Addr) (dLen dCap sLen sCap : Nat) (hd : a.eval d = .slice dp dLen dCap) (hs : a.eval s = .slice sp sLen sCap)
  (g off m : Nat) (hm : m = Nat.min sLen dLen) (cur : List Value) (t : TypeId) (hg : w.heap[g]? = some (.cells cur.toArray t (0, 0))) (cs : List Value) (hn : cs.length = m * 2)
  (hpos : 0 < m → dp = some ⟨g, off, none⟩ ∧ ∃ ad, sp = some ad ∧ ∀ j v, cs[j]? = some v → w.cell? (ad.add j) = some v)
  (hfit : off + cs.length ≤ cur.length) (h1 : ∀ v ∈ cs, v.oneCell' = true) (B : Nat) (w0 : World) (hb : Below B w0 w) (hBg : B ≤ g)
  (h : ∀ w', Hid (w'.heap[g]? = some (.cells (splice cur off cs).toArray t (0, 0))) → Hid (Below B w0 w' ∧ ∀ k, k ≠ g → w'.heap[k]? = w.heap[k]?) → K (a.put o.dst (goInt m)) w') :
  if Region.wanted o (yielded ops a.tmps) = true then Oper.wp P o a w K Q else E := by
 have hw : Region.wanted o (yielded ops a.tmps) = true := by simp [Region.wanted, hgd]
 rw [if_pos hw]
 obtain ⟨w', hrun, h2, h3, h4⟩ := run_copy2 dT sT o.type elem hu hsz dp sp dLen dCap sLen sCap g off m hm cur t hg cs hn hpos hfit h1 B w0 hb hBg
 unfold Oper.wp
 simp [execOp, ho, resolve, invoke, builtin, hd, hs, hrun, Result.andThen]
 exact h w' h2 ⟨h3, h4⟩
/-- what stood from a place on goes over two places further on, and two go in -/
theorem shift2 {a b X v : List Value} (hv : v.length = 2) (hX : 2 ≤ X.length) : (splice (splice (a ++ b ++ X) (a.length + 2) b) a.length v).take (a.length + 2 + b.length) = a ++ v ++ b := by
 obtain ⟨y, z, hyz, hy⟩ : ∃ y z, b ++ X = y ++ z ∧ y.length = 2 := ⟨(b ++ X).take 2, (b ++ X).drop 2, (List.take_append_drop _ _).symm, by rw [List.length_take, List.length_append]; omega⟩
 have h1 : splice (a ++ b ++ X) (a.length + 2) b = a ++ (y ++ (b ++ (a ++ (b ++ X)).drop (a.length + 2 + b.length))) := by
  unfold splice
  rw [List.append_assoc, hyz, List.take_append, List.take_of_length_le (by omega), show a.length + 2 - a.length = y.length by omega, List.take_left, List.append_assoc]
 rw [h1]
 unfold splice
 rw [List.take_left, hv, show a.length + 2 = a.length + y.length by omega, ← List.drop_drop, List.drop_left, List.drop_left]
 rw [← List.append_assoc a v, ← List.append_assoc (a ++ v), List.take_append_of_le_length (by simp; omega), List.take_of_length_le (by simp; omega)]
/-- a new row: what stood ahead, two, and what stood from there on -/
theorem grow2 {a b Z v : List Value} (hv : v.length = 2) (_hZ : 2 + b.length ≤ Z.length) : (splice (splice (a ++ Z) a.length v) (a.length + 2) b).take (a.length + 2 + b.length) = a ++ v ++ b := by
 have h1 : splice (a ++ Z) a.length v = (a ++ v) ++ Z.drop 2 := by
  unfold splice
  rw [List.take_left, hv, ← List.drop_drop, List.drop_left, List.append_assoc]
 rw [h1]
 unfold splice
 rw [show a.length + 2 = (a ++ v).length by simp [hv], List.take_left, ← List.append_assoc, List.take_left' (by simp; omega)]
theorem own_of_row {w : World} {B g cap n : Nat} {l : List Mk} {cur : List Value} (hB : B ≤ g) (hg : w.heap[g]? = some (.cells cur.toArray 105 (0, 0))) (hn : n = l.length) (hc : n ≤ cap) (hm : cap ≤ maxLen) (hs : cur.length = cap * 2) (ht : cur.take (n * 2) = kvs l) :
  w.ownsRow B 105 2 (.slice (some ⟨g, 0, none⟩) n cap) n (kvs l) :=
 ⟨by rw [kvs_len, hn], .inr ⟨g, cap, cur.toArray, rfl, hB, hg, hc, hm, by simpa using hs, by simpa using ht⟩⟩
end Go.Proofs.YthhckdjagnlgpaaGreat
end
