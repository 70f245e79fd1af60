/-
 A move that is inserted: the program's.
-/
import Derived.Test.YthhckdjagnlgpaaGreatAl
namespace Go.Proofs.YthhckdjagnlgpaaGreat
open Go.RowKit Go.IntWalk
open Wd Fl
set_option maxRecDepth 100000
attribute [local go_sem] Oper.semAt_some
theorem insM_is (l : List Mv) (m : Mv) :
  (∃ (k : Nat) (x : Mv), idxM (isT (mc m) (mr m)) l = (k : Int) ∧ l[k]? = some x ∧ insM l m = (l, k, false) ∧ k < l.length) ∨
  (idxM (isT (mc m) (mr m)) l = -1 ∧ ((∃ (k : Nat) (x : Mv), idxM (befM (mc m) (mr m)) l = (k : Int) ∧ l[k]? = some x ∧ insM l m = (l.take k ++ m :: l.drop k, k, true) ∧ k < l.length) ∨
   (idxM (befM (mc m) (mr m)) l = -1 ∧ insM l m = (l ++ [m], l.length, true)))) := by
 have e1 : (fun x => timeEq x m) = isT (mc m) (mr m) := rfl
 have e2 : (fun x => bm m x) = befM (mc m) (mr m) := rfl
 unfold insM
 rw [e1, e2]
 unfold idxM
 cases h : l.findIdx? (isT (mc m) (mr m)) with
 | some k =>
  obtain ⟨h1, _, _⟩ := List.findIdx?_eq_some_iff_getElem.1 h
  exact .inl ⟨k, l[k], rfl, List.getElem?_eq_getElem h1, rfl, h1⟩
 | none =>
  refine .inr ⟨rfl, ?_⟩
  cases h2 : l.findIdx? (befM (mc m) (mr m)) with
  | some k =>
   obtain ⟨h1, _, _⟩ := List.findIdx?_eq_some_iff_getElem.1 h2
   exact .inl ⟨k, l[k], rfl, List.getElem?_eq_getElem h1, rfl, h1⟩
  | none => exact .inr ⟨rfl, rfl⟩
/-- moves that are told, with a place, and whether the one is new there -/
def InsEnd (o : List Mv × Nat × Bool) (w : World) (e : Ending) (w' : World) : Prop :=
 ∃ A cap, e = .returned (.tuple #[.slice A o.1.length cap, .int .i64 (o.2.1 : Int), .bool o.2.2]) ∧ At w' w'.heap.size A (mvs o.1) ∧ ((A = none → cap = 0) ∧ (o.2.2 = true → Fresh w.heap.size A)) ∧ o.1.length ≤ cap ∧ Below w.heap.size w w'
theorem own_insM {w w' : World} {B n k : Nat} {b : Bool} {l : List Mv} {v : Value} (h : w'.ownsRow B 57 6 v n (mvs l)) (hn : n = l.length) (hb : Below w.heap.size w w') (hs : w.heap.size ≤ B) : InsEnd (l, k, b) w (.returned (.tuple #[v, .int .i64 (k : Int), .bool b])) w' := by
 subst hn
 obtain ⟨A, cap, rfl, ha, hf, hc⟩ := own_at h
 refine ⟨A, cap, rfl, ha, ⟨fun hA => ?_, fun _ a hA => Nat.le_trans hs (hf a hA)⟩, hc, hb⟩
 subst hA
 rcases h.2 with ⟨hz, _⟩ | ⟨g, c2, cur, hv, _⟩
 ·exact (Value.slice.inj hz).2.2
 ·cases hv
theorem at_newS6 (w : World) (o : Obj) (t : TypeId) (xs : List Value) (n : Nat) (hn : n = w.heap.size + 1) : At ((w.alloc o).alloc (.cells xs.toArray t)).drew ((w.alloc o).alloc (.cells xs.toArray t)).drew.heap.size (some ⟨n, 0, none⟩) xs := by
 have := at_newR (w.alloc o) t xs
 rw [World.size_alloc] at this
 rw [hn]
 exact this
theorem at_oneM (w : World) (m : Mv) (o : Obj) : At ((w.alloc (.cells #[.int .i64 (mc m), .int .i64 (mr m), .int .i64 (pa (mw m)), .int .i64 (ch (mw m)), .string (ba (nm (mw m))), .float .f64 (rk (mw m))] 57)).alloc o).drew ((w.alloc (.cells #[.int .i64 (mc m), .int .i64 (mr m), .int .i64 (pa (mw m)), .int .i64 (ch (mw m)), .string (ba (nm (mw m))), .float .f64 (rk (mw m))] 57)).alloc o).drew.heap.size (some ⟨w.heap.size, 0, none⟩) (mvs [m]) := by
 have h : At (w.alloc (.cells (mvs [m]).toArray 57)) (w.alloc (.cells (mvs [m]).toArray 57)).heap.size (some ⟨w.heap.size, 0, none⟩) (mvs [m]) := fun i v hv =>
  ⟨w.heap.size, 0, rfl, by simp, by rw [Nat.zero_add]; exact (is_cell (is_new w 57 (mvs [m])) i).trans hv⟩
 exact h.keep ((Below.refl _ _).alloc (Nat.le_refl _) _).drew
set_option maxHeartbeats 8000000 in
theorem mins_old (l : List Mv) (m : Mv) (A : Option Addr) (cap k : Nat) (hl : l.length ≤ 100000) (hA : A = none → cap = 0) (hcap : l.length ≤ cap) (h1 : idxM (isT (mc m) (mr m)) l = (k : Int)) (w : World) (hc : At w w.heap.size A (mvs l)) :
  Calls Tryz.prog 149 #[.slice A l.length cap, .agg #[.int .i64 (mc m), .int .i64 (mr m), .int .i64 (pa (mw m)), .int .i64 (ch (mw m)), .string (ba (nm (mw m))), .float .f64 (rk (mw m))]] w (InsEnd (l, k, false) w) := by
 have hlm : l.length ≤ maxLen := by unfold maxLen; omega
 have hbx := (Below.refl w.heap.size w).alloc (Nat.le_refl _) (.cells #[.int .i64 (mc m), .int .i64 (mr m), .int .i64 (pa (mw m)), .int .i64 (ch (mw m)), .string (ba (nm (mw m))), .float .f64 (rk (mw m))] 57)
 have hI0 : Is (w.alloc (.cells #[.int .i64 (mc m), .int .i64 (mr m), .int .i64 (pa (mw m)), .int .i64 (ch (mw m)), .string (ba (nm (mw m))), .float .f64 (rk (mw m))] 57)) w.heap.size 57 [.int .i64 (mc m), .int .i64 (mr m), .int .i64 (pa (mw m)), .int .i64 (ch (mw m)), .string (ba (nm (mw m))), .float .f64 (rk (mw m))] := is_new w 57 [.int .i64 (mc m), .int .i64 (mr m), .int .i64 (pa (mw m)), .int .i64 (ch (mw m)), .string (ba (nm (mw m))), .float .f64 (rk (mw m))]
 have hcx := hc.keep hbx
 have HI0 := Lib.hid hI0
 have HCX := Lib.hid hcx
 have HBX := Lib.hid hbx
 clear hI0 hcx hbx
 have H1 := Lib.hid h1
 have HA := Lib.hid hA
 have HCAP := Lib.hid hcap
 have hki : (0 : Int) ≤ (k : Int) := by omega
 clear h1 hA hcap hc
 go_enter Tryz.func149, Tryz.ntmps149
 go_wp2_with fail
 refine (mfirst_is (mc m) (mr m) (k : Int) _ _ l H1.out hlm _ HCX.out).mono ?_
 rintro e w1 ⟨rfl, hb1⟩
 have hc1 := HCX.out.keep hb1
 have hbw := HBX.out.trans (hb1.mono HBX.out.size)
 have HC1 := Lib.hid hc1
 clear hc1
 go_wp2_with fail
 refine bodyPost_ret (v := .tuple #[.slice A l.length cap, .int .i64 (k : Int), .bool false]) (by simp [results, Tryz.f149, go_sem]) rfl ?_
 exact ⟨A, cap, rfl, HC1.out, ⟨HA.out, fun h => absurd h (show ¬ (false = true) by decide)⟩, HCAP.out, hbw⟩
set_option maxHeartbeats 8000000 in
theorem mins_mid (l : List Mv) (m : Mv) (b0 o0 cap k : Nat) (N : List Mv) (hl : l.length ≤ 100000) (hcap : l.length ≤ cap) (hkl : k < l.length) (h1 : idxM (isT (mc m) (mr m)) l = -1) (h1b : idxM (befM (mc m) (mr m)) l = (k : Int)) (hN : l.take k ++ m :: l.drop k = N) (hF : N.length ≤ 200000) (w : World) (hc : At w w.heap.size (some ⟨b0, o0, none⟩) (mvs l)) :
  Calls Tryz.prog 149 #[.slice (some ⟨b0, o0, none⟩) l.length cap, .agg #[.int .i64 (mc m), .int .i64 (mr m), .int .i64 (pa (mw m)), .int .i64 (ch (mw m)), .string (ba (nm (mw m))), .float .f64 (rk (mw m))]] w (InsEnd (N, k, true) w) := by
 have hlm : l.length ≤ maxLen := by unfold maxLen; omega
 have hbx := (Below.refl w.heap.size w).alloc (Nat.le_refl _) (.cells #[.int .i64 (mc m), .int .i64 (mr m), .int .i64 (pa (mw m)), .int .i64 (ch (mw m)), .string (ba (nm (mw m))), .float .f64 (rk (mw m))] 57)
 have hI0 : Is (w.alloc (.cells #[.int .i64 (mc m), .int .i64 (mr m), .int .i64 (pa (mw m)), .int .i64 (ch (mw m)), .string (ba (nm (mw m))), .float .f64 (rk (mw m))] 57)) w.heap.size 57 [.int .i64 (mc m), .int .i64 (mr m), .int .i64 (pa (mw m)), .int .i64 (ch (mw m)), .string (ba (nm (mw m))), .float .f64 (rk (mw m))] := is_new w 57 [.int .i64 (mc m), .int .i64 (mr m), .int .i64 (pa (mw m)), .int .i64 (ch (mw m)), .string (ba (nm (mw m))), .float .f64 (rk (mw m))]
 have hcx := hc.keep hbx
 have HI0 := Lib.hid hI0
 have HCX := Lib.hid hcx
 have HBX := Lib.hid hbx
 clear hI0 hcx hbx
 have HNN := Lib.hid hN
 have HF := Lib.hid hF
 have H1 := Lib.hid h1
 have H1B := Lib.hid h1b
 have hki : (0 : Int) ≤ (k : Int) := by omega
 have hkl2 : (k : Int) < (l.length : Int) := by omega
 have hkl3 : (k : Int) ≤ (l.length : Int) := by omega
 have hk3 : (k : Int) ≤ (cap : Int) := by omega
 have htk : (l.take k).length = k := by rw [List.length_take]; omega
 have hdk : (l.drop k).length = l.length - k := List.length_drop ..
 have hc0 : ¬ cap = k := by omega
 clear h1 h1b hN hF hc
 go_enter Tryz.func149, Tryz.ntmps149
 go_wp2_with fail
 refine (mfirst_is (mc m) (mr m) (-1) _ _ l H1.out hlm _ HCX.out).mono ?_
 rintro e w1 ⟨rfl, hb1⟩
 have hI := is_below HI0.out hb1 (is_lt HI0.out)
 have hc1 := HCX.out.keep hb1
 have hbw := HBX.out.trans (hb1.mono HBX.out.size)
 obtain ⟨k0, k1, k2, k3, k4, k5⟩ := box6 (m := m) hI
 go_wp2_with fail
 refine (mfirst_bef (mc m) (mr m) (k : Int) _ _ l H1B.out hlm _ hc1).mono ?_
 rintro e w2 ⟨rfl, hb2⟩
 have hI := is_below hI hb2 (is_lt hI)
 have hc1 := hc1.keep hb2
 have hbw := hbw.trans (hb2.mono hbw.size)
 clear k0 k1 k2 k3 k4 k5
 obtain ⟨k0, k1, k2, k3, k4, k5⟩ := box6 (m := m) hI
 have HC1 := Lib.hid hc1
 go_wp2_with fail
 have hX : Below w2.heap.size w2 ((w2.alloc (.cells #[.int .i64 (mc m), .int .i64 (mr m), .int .i64 (pa (mw m)), .int .i64 (ch (mw m)), .string (ba (nm (mw m))), .float .f64 (rk (mw m))] 57)).alloc (.cells [.slice (some ⟨b0, o0, none⟩) k cap, .slice (some ⟨w2.heap.size, 0, none⟩) 1 1, .slice (some ⟨b0, o0 + k * 6, none⟩) (l.length - k) (cap - k)].toArray 52)).drew := (((Below.refl _ _).alloc (Nat.le_refl _) _).alloc (by simp) _).drew
 have hcX := HC1.out.keep hX
 have hcs : ∀ x ∈ ([((some ⟨b0, o0, none⟩), cap, l.take k), (some ⟨w2.heap.size, 0, none⟩, 1, [m]), ((some ⟨b0, o0 + k * 6, none⟩), (cap - k), l.drop k)] : List (Option Addr × Nat × List Mv)), At ((w2.alloc (.cells #[.int .i64 (mc m), .int .i64 (mr m), .int .i64 (pa (mw m)), .int .i64 (ch (mw m)), .string (ba (nm (mw m))), .float .f64 (rk (mw m))] 57)).alloc (.cells [.slice (some ⟨b0, o0, none⟩) k cap, .slice (some ⟨w2.heap.size, 0, none⟩) 1 1, .slice (some ⟨b0, o0 + k * 6, none⟩) (l.length - k) (cap - k)].toArray 52)).drew ((w2.alloc (.cells #[.int .i64 (mc m), .int .i64 (mr m), .int .i64 (pa (mw m)), .int .i64 (ch (mw m)), .string (ba (nm (mw m))), .float .f64 (rk (mw m))] 57)).alloc (.cells [.slice (some ⟨b0, o0, none⟩) k cap, .slice (some ⟨w2.heap.size, 0, none⟩) 1 1, .slice (some ⟨b0, o0 + k * 6, none⟩) (l.length - k) (cap - k)].toArray 52)).drew.heap.size x.1 (mvs x.2.2) ∧ (x.1 = none → x.2.1 = 0) ∧ x.2.2.length ≤ x.2.1 := by
  intro x hx
  simp only [List.mem_cons, List.not_mem_nil, or_false] at hx
  rcases hx with rfl | rfl | rfl
  ·exact ⟨at_takeM hcX k, (fun h => by cases h), by simp only [htk]; omega⟩
  ·exact ⟨at_oneM w2 m _, (fun h => by cases h), Nat.le_refl _⟩
  ·exact ⟨at_dropM hcX k, (fun h => by cases h), by simp only [hdk]; omega⟩
 have hv : ([.slice (some ⟨b0, o0, none⟩) k cap, .slice (some ⟨w2.heap.size, 0, none⟩) 1 1, .slice (some ⟨b0, o0 + k * 6, none⟩) (l.length - k) (cap - k)] : List Value) = lvm [((some ⟨b0, o0, none⟩), cap, l.take k), (some ⟨w2.heap.size, 0, none⟩, 1, [m]), ((some ⟨b0, o0 + k * 6, none⟩), (cap - k), l.drop k)] := by simp only [lvm, List.map_cons, List.map_nil, htk, hdk, List.length_singleton]
 have hxb := hbw.trans (hX.mono hbw.size)
 have HV := Lib.hid hv
 have HCS := Lib.hid hcs
 have HXB := Lib.hid hxb
 clear hX hcX hcs hv hxb
 go_region_with (go_at_call 204; refine (mconcat_k (vals := [.slice (some ⟨b0, o0, none⟩) k cap, .slice (some ⟨w2.heap.size, 0, none⟩) 1 1, .slice (some ⟨b0, o0 + k * 6, none⟩) (l.length - k) (cap - k)]) [((some ⟨b0, o0, none⟩), cap, l.take k), (some ⟨w2.heap.size, 0, none⟩, 1, [m]), ((some ⟨b0, o0 + k * 6, none⟩), (cap - k), l.drop k)] rfl HV.out (by rw [← HNN.out]; simp [flatM]) (by simp) HF.out (at_newS6 w2 _ 52 [.slice (some ⟨b0, o0, none⟩) k cap, .slice (some ⟨w2.heap.size, 0, none⟩) 1 1, .slice (some ⟨b0, o0 + k * 6, none⟩) (l.length - k) (cap - k)] _ rfl) HCS.out).mono ?_; rintro e w9 ⟨A9, c9, rfl, hown, hb9⟩)
 all_goals
  have HO := Lib.hid (own_insM (k := k) (b := true) (ownsRow_low hown HXB.out.size) (rfl : N.length = N.length) (HXB.out.trans (hb9.mono HXB.out.size)) (Nat.le_refl _))
  clear hown
  go_wp2_with fail
  refine bodyPost_ret (v := .tuple #[.slice A9 N.length c9, .int .i64 (k : Nat), .bool true]) (by simp [results, Tryz.f149, go_sem]) rfl ?_
  exact HO.out
set_option maxHeartbeats 8000000 in
theorem mins_nil  (m : Mv) (N : List Mv) (h1 : idxM (isT (mc m) (mr m)) [] = -1) (h1b : idxM (befM (mc m) (mr m)) [] = -1) (hN : [] ++ [m] = N) (hF : N.length ≤ 200000) (w : World) (hc : At w w.heap.size none (mvs [])) :
  Calls Tryz.prog 149 #[.slice none 0 0, .agg #[.int .i64 (mc m), .int .i64 (mr m), .int .i64 (pa (mw m)), .int .i64 (ch (mw m)), .string (ba (nm (mw m))), .float .f64 (rk (mw m))]] w (InsEnd (N, 0, true) w) := by
 have hlm : ([] : List Mv).length ≤ maxLen := by unfold maxLen; simp
 have hbx := (Below.refl w.heap.size w).alloc (Nat.le_refl _) (.cells #[.int .i64 (mc m), .int .i64 (mr m), .int .i64 (pa (mw m)), .int .i64 (ch (mw m)), .string (ba (nm (mw m))), .float .f64 (rk (mw m))] 57)
 have hI0 : Is (w.alloc (.cells #[.int .i64 (mc m), .int .i64 (mr m), .int .i64 (pa (mw m)), .int .i64 (ch (mw m)), .string (ba (nm (mw m))), .float .f64 (rk (mw m))] 57)) w.heap.size 57 [.int .i64 (mc m), .int .i64 (mr m), .int .i64 (pa (mw m)), .int .i64 (ch (mw m)), .string (ba (nm (mw m))), .float .f64 (rk (mw m))] := is_new w 57 [.int .i64 (mc m), .int .i64 (mr m), .int .i64 (pa (mw m)), .int .i64 (ch (mw m)), .string (ba (nm (mw m))), .float .f64 (rk (mw m))]
 have hcx := hc.keep hbx
 have HI0 := Lib.hid hI0
 have HCX := Lib.hid hcx
 have HBX := Lib.hid hbx
 clear hI0 hcx hbx
 have HNN := Lib.hid hN
 have HF := Lib.hid hF
 have H1 := Lib.hid h1
 have H1B := Lib.hid h1b
 clear h1 h1b hN hF hc
 go_enter Tryz.func149, Tryz.ntmps149
 go_wp2_with fail
 refine (mfirst_is (mc m) (mr m) (-1) _ _ [] H1.out hlm _ HCX.out).mono ?_
 rintro e w1 ⟨rfl, hb1⟩
 have hI := is_below HI0.out hb1 (is_lt HI0.out)
 have hc1 := HCX.out.keep hb1
 have hbw := HBX.out.trans (hb1.mono HBX.out.size)
 obtain ⟨k0, k1, k2, k3, k4, k5⟩ := box6 (m := m) hI
 go_wp2_with fail
 refine (mfirst_bef (mc m) (mr m) (-1) _ _ [] H1B.out hlm _ hc1).mono ?_
 rintro e w2 ⟨rfl, hb2⟩
 have hI := is_below hI hb2 (is_lt hI)
 have hc1 := hc1.keep hb2
 have hbw := hbw.trans (hb2.mono hbw.size)
 clear k0 k1 k2 k3 k4 k5
 obtain ⟨k0, k1, k2, k3, k4, k5⟩ := box6 (m := m) hI
 have HC1 := Lib.hid hc1
 go_wp2_with fail
 have hX : Below w2.heap.size w2 ((w2.alloc (.cells #[.int .i64 (mc m), .int .i64 (mr m), .int .i64 (pa (mw m)), .int .i64 (ch (mw m)), .string (ba (nm (mw m))), .float .f64 (rk (mw m))] 57)).alloc (.cells [.slice none 0 0, .slice (some ⟨w2.heap.size, 0, none⟩) 1 1, .slice none 0 0].toArray 52)).drew := (((Below.refl _ _).alloc (Nat.le_refl _) _).alloc (by simp) _).drew
 have hcX := HC1.out.keep hX
 have hcs : ∀ x ∈ ([(none, 0, []), (some ⟨w2.heap.size, 0, none⟩, 1, [m]), (none, 0, [])] : List (Option Addr × Nat × List Mv)), At ((w2.alloc (.cells #[.int .i64 (mc m), .int .i64 (mr m), .int .i64 (pa (mw m)), .int .i64 (ch (mw m)), .string (ba (nm (mw m))), .float .f64 (rk (mw m))] 57)).alloc (.cells [.slice none 0 0, .slice (some ⟨w2.heap.size, 0, none⟩) 1 1, .slice none 0 0].toArray 52)).drew ((w2.alloc (.cells #[.int .i64 (mc m), .int .i64 (mr m), .int .i64 (pa (mw m)), .int .i64 (ch (mw m)), .string (ba (nm (mw m))), .float .f64 (rk (mw m))] 57)).alloc (.cells [.slice none 0 0, .slice (some ⟨w2.heap.size, 0, none⟩) 1 1, .slice none 0 0].toArray 52)).drew.heap.size x.1 (mvs x.2.2) ∧ (x.1 = none → x.2.1 = 0) ∧ x.2.2.length ≤ x.2.1 := by
  intro x hx
  simp only [List.mem_cons, List.not_mem_nil, or_false] at hx
  rcases hx with rfl | rfl | rfl
  ·exact ⟨At.nil _ _ _, fun _ => rfl, Nat.le_refl _⟩
  ·exact ⟨at_oneM w2 m _, (fun h => by cases h), Nat.le_refl _⟩
  ·exact ⟨At.nil _ _ _, fun _ => rfl, Nat.le_refl _⟩
 have hv : ([.slice none 0 0, .slice (some ⟨w2.heap.size, 0, none⟩) 1 1, .slice none 0 0] : List Value) = lvm [(none, 0, []), (some ⟨w2.heap.size, 0, none⟩, 1, [m]), (none, 0, [])] := by simp only [lvm, List.map_cons, List.map_nil, List.length_nil, List.length_singleton]
 have hxb := hbw.trans (hX.mono hbw.size)
 have HV := Lib.hid hv
 have HCS := Lib.hid hcs
 have HXB := Lib.hid hxb
 clear hX hcX hcs hv hxb
 go_region_with (go_at_call 204; refine (mconcat_k (vals := [.slice none 0 0, .slice (some ⟨w2.heap.size, 0, none⟩) 1 1, .slice none 0 0]) [(none, 0, []), (some ⟨w2.heap.size, 0, none⟩, 1, [m]), (none, 0, [])] rfl HV.out (by rw [← HNN.out]; simp [flatM]) (by simp) HF.out (at_newS6 w2 _ 52 [.slice none 0 0, .slice (some ⟨w2.heap.size, 0, none⟩) 1 1, .slice none 0 0] _ rfl) HCS.out).mono ?_; rintro e w9 ⟨A9, c9, rfl, hown, hb9⟩)
 all_goals
  have HO := Lib.hid (own_insM (k := (0 : Nat)) (b := true) (ownsRow_low hown HXB.out.size) (rfl : N.length = N.length) (HXB.out.trans (hb9.mono HXB.out.size)) (Nat.le_refl _))
  clear hown
  go_wp2_with fail
  refine bodyPost_ret (v := .tuple #[.slice A9 N.length c9, .int .i64 ((0 : Nat) : Nat), .bool true]) (by simp [results, Tryz.f149, go_sem]) rfl ?_
  exact HO.out
set_option maxHeartbeats 8000000 in
theorem mins_none  (m : Mv) (b0 o0 : Nat) (sp : Option Nat) (N : List Mv) (h1 : idxM (isT (mc m) (mr m)) [] = -1) (h1b : idxM (befM (mc m) (mr m)) [] = -1) (hN : [] ++ [m] = N) (hF : N.length ≤ 200000) (w : World) (hc : At w w.heap.size (some ⟨b0, o0, sp⟩) (mvs [])) :
  Calls Tryz.prog 149 #[.slice (some ⟨b0, o0, sp⟩) 0 0, .agg #[.int .i64 (mc m), .int .i64 (mr m), .int .i64 (pa (mw m)), .int .i64 (ch (mw m)), .string (ba (nm (mw m))), .float .f64 (rk (mw m))]] w (InsEnd (N, 0, true) w) := by
 have hlm : ([] : List Mv).length ≤ maxLen := by unfold maxLen; simp
 have hbx := (Below.refl w.heap.size w).alloc (Nat.le_refl _) (.cells #[.int .i64 (mc m), .int .i64 (mr m), .int .i64 (pa (mw m)), .int .i64 (ch (mw m)), .string (ba (nm (mw m))), .float .f64 (rk (mw m))] 57)
 have hI0 : Is (w.alloc (.cells #[.int .i64 (mc m), .int .i64 (mr m), .int .i64 (pa (mw m)), .int .i64 (ch (mw m)), .string (ba (nm (mw m))), .float .f64 (rk (mw m))] 57)) w.heap.size 57 [.int .i64 (mc m), .int .i64 (mr m), .int .i64 (pa (mw m)), .int .i64 (ch (mw m)), .string (ba (nm (mw m))), .float .f64 (rk (mw m))] := is_new w 57 [.int .i64 (mc m), .int .i64 (mr m), .int .i64 (pa (mw m)), .int .i64 (ch (mw m)), .string (ba (nm (mw m))), .float .f64 (rk (mw m))]
 have hcx := hc.keep hbx
 have HI0 := Lib.hid hI0
 have HCX := Lib.hid hcx
 have HBX := Lib.hid hbx
 clear hI0 hcx hbx
 have HNN := Lib.hid hN
 have HF := Lib.hid hF
 have H1 := Lib.hid h1
 have H1B := Lib.hid h1b
 clear h1 h1b hN hF hc
 go_enter Tryz.func149, Tryz.ntmps149
 go_wp2_with fail
 refine (mfirst_is (mc m) (mr m) (-1) _ _ [] H1.out hlm _ HCX.out).mono ?_
 rintro e w1 ⟨rfl, hb1⟩
 have hI := is_below HI0.out hb1 (is_lt HI0.out)
 have hc1 := HCX.out.keep hb1
 have hbw := HBX.out.trans (hb1.mono HBX.out.size)
 obtain ⟨k0, k1, k2, k3, k4, k5⟩ := box6 (m := m) hI
 go_wp2_with fail
 refine (mfirst_bef (mc m) (mr m) (-1) _ _ [] H1B.out hlm _ hc1).mono ?_
 rintro e w2 ⟨rfl, hb2⟩
 have hI := is_below hI hb2 (is_lt hI)
 have hc1 := hc1.keep hb2
 have hbw := hbw.trans (hb2.mono hbw.size)
 clear k0 k1 k2 k3 k4 k5
 obtain ⟨k0, k1, k2, k3, k4, k5⟩ := box6 (m := m) hI
 have HC1 := Lib.hid hc1
 go_wp2_with fail
 have hX : Below w2.heap.size w2 ((w2.alloc (.cells #[.int .i64 (mc m), .int .i64 (mr m), .int .i64 (pa (mw m)), .int .i64 (ch (mw m)), .string (ba (nm (mw m))), .float .f64 (rk (mw m))] 57)).alloc (.cells [.slice (some ⟨b0, o0, sp⟩) 0 0, .slice (some ⟨w2.heap.size, 0, none⟩) 1 1, .slice (some ⟨b0, o0, sp⟩) 0 0].toArray 52)).drew := (((Below.refl _ _).alloc (Nat.le_refl _) _).alloc (by simp) _).drew
 have hcX := HC1.out.keep hX
 have hcs : ∀ x ∈ ([((some ⟨b0, o0, sp⟩), 0, []), (some ⟨w2.heap.size, 0, none⟩, 1, [m]), ((some ⟨b0, o0, sp⟩), 0, [])] : List (Option Addr × Nat × List Mv)), At ((w2.alloc (.cells #[.int .i64 (mc m), .int .i64 (mr m), .int .i64 (pa (mw m)), .int .i64 (ch (mw m)), .string (ba (nm (mw m))), .float .f64 (rk (mw m))] 57)).alloc (.cells [.slice (some ⟨b0, o0, sp⟩) 0 0, .slice (some ⟨w2.heap.size, 0, none⟩) 1 1, .slice (some ⟨b0, o0, sp⟩) 0 0].toArray 52)).drew ((w2.alloc (.cells #[.int .i64 (mc m), .int .i64 (mr m), .int .i64 (pa (mw m)), .int .i64 (ch (mw m)), .string (ba (nm (mw m))), .float .f64 (rk (mw m))] 57)).alloc (.cells [.slice (some ⟨b0, o0, sp⟩) 0 0, .slice (some ⟨w2.heap.size, 0, none⟩) 1 1, .slice (some ⟨b0, o0, sp⟩) 0 0].toArray 52)).drew.heap.size x.1 (mvs x.2.2) ∧ (x.1 = none → x.2.1 = 0) ∧ x.2.2.length ≤ x.2.1 := by
  intro x hx
  simp only [List.mem_cons, List.not_mem_nil, or_false] at hx
  rcases hx with rfl | rfl | rfl
  ·exact ⟨At.nil _ _ _, fun _ => rfl, Nat.le_refl _⟩
  ·exact ⟨at_oneM w2 m _, (fun h => by cases h), Nat.le_refl _⟩
  ·exact ⟨At.nil _ _ _, fun _ => rfl, Nat.le_refl _⟩
 have hv : ([.slice (some ⟨b0, o0, sp⟩) 0 0, .slice (some ⟨w2.heap.size, 0, none⟩) 1 1, .slice (some ⟨b0, o0, sp⟩) 0 0] : List Value) = lvm [((some ⟨b0, o0, sp⟩), 0, []), (some ⟨w2.heap.size, 0, none⟩, 1, [m]), ((some ⟨b0, o0, sp⟩), 0, [])] := by simp only [lvm, List.map_cons, List.map_nil, List.length_nil, List.length_singleton]
 have hxb := hbw.trans (hX.mono hbw.size)
 have HV := Lib.hid hv
 have HCS := Lib.hid hcs
 have HXB := Lib.hid hxb
 clear hX hcX hcs hv hxb
 go_region_with (go_at_call 204; refine (mconcat_k (vals := [.slice (some ⟨b0, o0, sp⟩) 0 0, .slice (some ⟨w2.heap.size, 0, none⟩) 1 1, .slice (some ⟨b0, o0, sp⟩) 0 0]) [((some ⟨b0, o0, sp⟩), 0, []), (some ⟨w2.heap.size, 0, none⟩, 1, [m]), ((some ⟨b0, o0, sp⟩), 0, [])] rfl HV.out (by rw [← HNN.out]; simp [flatM]) (by simp) HF.out (at_newS6 w2 _ 52 [.slice (some ⟨b0, o0, sp⟩) 0 0, .slice (some ⟨w2.heap.size, 0, none⟩) 1 1, .slice (some ⟨b0, o0, sp⟩) 0 0] _ rfl) HCS.out).mono ?_; rintro e w9 ⟨A9, c9, rfl, hown, hb9⟩)
 all_goals
  have HO := Lib.hid (own_insM (k := (0 : Nat)) (b := true) (ownsRow_low hown HXB.out.size) (rfl : N.length = N.length) (HXB.out.trans (hb9.mono HXB.out.size)) (Nat.le_refl _))
  clear hown
  go_wp2_with fail
  refine bodyPost_ret (v := .tuple #[.slice A9 N.length c9, .int .i64 ((0 : Nat) : Nat), .bool true]) (by simp [results, Tryz.f149, go_sem]) rfl ?_
  exact HO.out
set_option maxHeartbeats 8000000 in
theorem mins_room  (m : Mv) (b0 o0 cap : Nat) (sp : Option Nat) (hc0 : ¬ cap = 0) (N : List Mv) (h1 : idxM (isT (mc m) (mr m)) [] = -1) (h1b : idxM (befM (mc m) (mr m)) [] = -1) (hN : [] ++ [m] = N) (hF : N.length ≤ 200000) (w : World) (hc : At w w.heap.size (some ⟨b0, o0, sp⟩) (mvs [])) :
  Calls Tryz.prog 149 #[.slice (some ⟨b0, o0, sp⟩) 0 cap, .agg #[.int .i64 (mc m), .int .i64 (mr m), .int .i64 (pa (mw m)), .int .i64 (ch (mw m)), .string (ba (nm (mw m))), .float .f64 (rk (mw m))]] w (InsEnd (N, 0, true) w) := by
 have hlm : ([] : List Mv).length ≤ maxLen := by unfold maxLen; simp
 have hbx := (Below.refl w.heap.size w).alloc (Nat.le_refl _) (.cells #[.int .i64 (mc m), .int .i64 (mr m), .int .i64 (pa (mw m)), .int .i64 (ch (mw m)), .string (ba (nm (mw m))), .float .f64 (rk (mw m))] 57)
 have hI0 : Is (w.alloc (.cells #[.int .i64 (mc m), .int .i64 (mr m), .int .i64 (pa (mw m)), .int .i64 (ch (mw m)), .string (ba (nm (mw m))), .float .f64 (rk (mw m))] 57)) w.heap.size 57 [.int .i64 (mc m), .int .i64 (mr m), .int .i64 (pa (mw m)), .int .i64 (ch (mw m)), .string (ba (nm (mw m))), .float .f64 (rk (mw m))] := is_new w 57 [.int .i64 (mc m), .int .i64 (mr m), .int .i64 (pa (mw m)), .int .i64 (ch (mw m)), .string (ba (nm (mw m))), .float .f64 (rk (mw m))]
 have hcx := hc.keep hbx
 have HI0 := Lib.hid hI0
 have HCX := Lib.hid hcx
 have HBX := Lib.hid hbx
 clear hI0 hcx hbx
 have HNN := Lib.hid hN
 have HF := Lib.hid hF
 have H1 := Lib.hid h1
 have H1B := Lib.hid h1b
 clear h1 h1b hN hF hc
 go_enter Tryz.func149, Tryz.ntmps149
 go_wp2_with fail
 refine (mfirst_is (mc m) (mr m) (-1) _ _ [] H1.out hlm _ HCX.out).mono ?_
 rintro e w1 ⟨rfl, hb1⟩
 have hI := is_below HI0.out hb1 (is_lt HI0.out)
 have hc1 := HCX.out.keep hb1
 have hbw := HBX.out.trans (hb1.mono HBX.out.size)
 obtain ⟨k0, k1, k2, k3, k4, k5⟩ := box6 (m := m) hI
 go_wp2_with fail
 refine (mfirst_bef (mc m) (mr m) (-1) _ _ [] H1B.out hlm _ hc1).mono ?_
 rintro e w2 ⟨rfl, hb2⟩
 have hI := is_below hI hb2 (is_lt hI)
 have hc1 := hc1.keep hb2
 have hbw := hbw.trans (hb2.mono hbw.size)
 clear k0 k1 k2 k3 k4 k5
 obtain ⟨k0, k1, k2, k3, k4, k5⟩ := box6 (m := m) hI
 have HC1 := Lib.hid hc1
 go_wp2_with fail
 have hX : Below w2.heap.size w2 ((w2.alloc (.cells #[.int .i64 (mc m), .int .i64 (mr m), .int .i64 (pa (mw m)), .int .i64 (ch (mw m)), .string (ba (nm (mw m))), .float .f64 (rk (mw m))] 57)).alloc (.cells [.slice (some ⟨b0, o0, sp⟩) 0 cap, .slice (some ⟨w2.heap.size, 0, none⟩) 1 1, .slice (some ⟨b0, o0, sp⟩) 0 cap].toArray 52)).drew := (((Below.refl _ _).alloc (Nat.le_refl _) _).alloc (by simp) _).drew
 have hcX := HC1.out.keep hX
 have hcs : ∀ x ∈ ([((some ⟨b0, o0, sp⟩), cap, []), (some ⟨w2.heap.size, 0, none⟩, 1, [m]), ((some ⟨b0, o0, sp⟩), cap, [])] : List (Option Addr × Nat × List Mv)), At ((w2.alloc (.cells #[.int .i64 (mc m), .int .i64 (mr m), .int .i64 (pa (mw m)), .int .i64 (ch (mw m)), .string (ba (nm (mw m))), .float .f64 (rk (mw m))] 57)).alloc (.cells [.slice (some ⟨b0, o0, sp⟩) 0 cap, .slice (some ⟨w2.heap.size, 0, none⟩) 1 1, .slice (some ⟨b0, o0, sp⟩) 0 cap].toArray 52)).drew ((w2.alloc (.cells #[.int .i64 (mc m), .int .i64 (mr m), .int .i64 (pa (mw m)), .int .i64 (ch (mw m)), .string (ba (nm (mw m))), .float .f64 (rk (mw m))] 57)).alloc (.cells [.slice (some ⟨b0, o0, sp⟩) 0 cap, .slice (some ⟨w2.heap.size, 0, none⟩) 1 1, .slice (some ⟨b0, o0, sp⟩) 0 cap].toArray 52)).drew.heap.size x.1 (mvs x.2.2) ∧ (x.1 = none → x.2.1 = 0) ∧ x.2.2.length ≤ x.2.1 := by
  intro x hx
  simp only [List.mem_cons, List.not_mem_nil, or_false] at hx
  rcases hx with rfl | rfl | rfl
  ·exact ⟨At.nil _ _ _, (fun h => by cases h), Nat.zero_le _⟩
  ·exact ⟨at_oneM w2 m _, (fun h => by cases h), Nat.le_refl _⟩
  ·exact ⟨At.nil _ _ _, (fun h => by cases h), Nat.zero_le _⟩
 have hv : ([.slice (some ⟨b0, o0, sp⟩) 0 cap, .slice (some ⟨w2.heap.size, 0, none⟩) 1 1, .slice (some ⟨b0, o0, sp⟩) 0 cap] : List Value) = lvm [((some ⟨b0, o0, sp⟩), cap, []), (some ⟨w2.heap.size, 0, none⟩, 1, [m]), ((some ⟨b0, o0, sp⟩), cap, [])] := by simp only [lvm, List.map_cons, List.map_nil, List.length_nil, List.length_singleton]
 have hxb := hbw.trans (hX.mono hbw.size)
 have HV := Lib.hid hv
 have HCS := Lib.hid hcs
 have HXB := Lib.hid hxb
 clear hX hcX hcs hv hxb
 go_region_with (go_at_call 204; refine (mconcat_k (vals := [.slice (some ⟨b0, o0, sp⟩) 0 cap, .slice (some ⟨w2.heap.size, 0, none⟩) 1 1, .slice (some ⟨b0, o0, sp⟩) 0 cap]) [((some ⟨b0, o0, sp⟩), cap, []), (some ⟨w2.heap.size, 0, none⟩, 1, [m]), ((some ⟨b0, o0, sp⟩), cap, [])] rfl HV.out (by rw [← HNN.out]; simp [flatM]) (by simp) HF.out (at_newS6 w2 _ 52 [.slice (some ⟨b0, o0, sp⟩) 0 cap, .slice (some ⟨w2.heap.size, 0, none⟩) 1 1, .slice (some ⟨b0, o0, sp⟩) 0 cap] _ rfl) HCS.out).mono ?_; rintro e w9 ⟨A9, c9, rfl, hown, hb9⟩)
 all_goals
  have HO := Lib.hid (own_insM (k := (0 : Nat)) (b := true) (ownsRow_low hown HXB.out.size) (rfl : N.length = N.length) (HXB.out.trans (hb9.mono HXB.out.size)) (Nat.le_refl _))
  clear hown
  go_wp2_with fail
  refine bodyPost_ret (v := .tuple #[.slice A9 N.length c9, .int .i64 ((0 : Nat) : Nat), .bool true]) (by simp [results, Tryz.f149, go_sem]) rfl ?_
  exact HO.out
set_option maxHeartbeats 8000000 in
theorem mins_full (l : List Mv) (m : Mv) (b0 o0 : Nat) (N : List Mv) (hl : l.length ≤ 100000) (hlp : 0 < l.length) (h1 : idxM (isT (mc m) (mr m)) l = -1) (h1b : idxM (befM (mc m) (mr m)) l = -1) (hN : l ++ [m] = N) (hF : N.length ≤ 200000) (w : World) (hc : At w w.heap.size (some ⟨b0, o0, none⟩) (mvs l)) :
  Calls Tryz.prog 149 #[.slice (some ⟨b0, o0, none⟩) l.length l.length, .agg #[.int .i64 (mc m), .int .i64 (mr m), .int .i64 (pa (mw m)), .int .i64 (ch (mw m)), .string (ba (nm (mw m))), .float .f64 (rk (mw m))]] w (InsEnd (N, l.length, true) w) := by
 have hlm : l.length ≤ maxLen := by unfold maxLen; omega
 have hbx := (Below.refl w.heap.size w).alloc (Nat.le_refl _) (.cells #[.int .i64 (mc m), .int .i64 (mr m), .int .i64 (pa (mw m)), .int .i64 (ch (mw m)), .string (ba (nm (mw m))), .float .f64 (rk (mw m))] 57)
 have hI0 : Is (w.alloc (.cells #[.int .i64 (mc m), .int .i64 (mr m), .int .i64 (pa (mw m)), .int .i64 (ch (mw m)), .string (ba (nm (mw m))), .float .f64 (rk (mw m))] 57)) w.heap.size 57 [.int .i64 (mc m), .int .i64 (mr m), .int .i64 (pa (mw m)), .int .i64 (ch (mw m)), .string (ba (nm (mw m))), .float .f64 (rk (mw m))] := is_new w 57 [.int .i64 (mc m), .int .i64 (mr m), .int .i64 (pa (mw m)), .int .i64 (ch (mw m)), .string (ba (nm (mw m))), .float .f64 (rk (mw m))]
 have hcx := hc.keep hbx
 have HI0 := Lib.hid hI0
 have HCX := Lib.hid hcx
 have HBX := Lib.hid hbx
 clear hI0 hcx hbx
 have HNN := Lib.hid hN
 have HF := Lib.hid hF
 have H1 := Lib.hid h1
 have H1B := Lib.hid h1b
 have hn0 : (0 : Int) ≤ (l.length : Int) := by omega
 clear h1 h1b hN hF hc
 go_enter Tryz.func149, Tryz.ntmps149
 go_wp2_with fail
 refine (mfirst_is (mc m) (mr m) (-1) _ _ l H1.out hlm _ HCX.out).mono ?_
 rintro e w1 ⟨rfl, hb1⟩
 have hI := is_below HI0.out hb1 (is_lt HI0.out)
 have hc1 := HCX.out.keep hb1
 have hbw := HBX.out.trans (hb1.mono HBX.out.size)
 obtain ⟨k0, k1, k2, k3, k4, k5⟩ := box6 (m := m) hI
 go_wp2_with fail
 refine (mfirst_bef (mc m) (mr m) (-1) _ _ l H1B.out hlm _ hc1).mono ?_
 rintro e w2 ⟨rfl, hb2⟩
 have hI := is_below hI hb2 (is_lt hI)
 have hc1 := hc1.keep hb2
 have hbw := hbw.trans (hb2.mono hbw.size)
 clear k0 k1 k2 k3 k4 k5
 obtain ⟨k0, k1, k2, k3, k4, k5⟩ := box6 (m := m) hI
 have HC1 := Lib.hid hc1
 go_wp2_with fail
 have hX : Below w2.heap.size w2 ((w2.alloc (.cells #[.int .i64 (mc m), .int .i64 (mr m), .int .i64 (pa (mw m)), .int .i64 (ch (mw m)), .string (ba (nm (mw m))), .float .f64 (rk (mw m))] 57)).alloc (.cells [.slice (some ⟨b0, o0, none⟩) l.length l.length, .slice (some ⟨w2.heap.size, 0, none⟩) 1 1, .slice (some ⟨b0, o0, none⟩) 0 0].toArray 52)).drew := (((Below.refl _ _).alloc (Nat.le_refl _) _).alloc (by simp) _).drew
 have hcX := HC1.out.keep hX
 have hcs : ∀ x ∈ ([((some ⟨b0, o0, none⟩), l.length, l), (some ⟨w2.heap.size, 0, none⟩, 1, [m]), ((some ⟨b0, o0, none⟩), 0, [])] : List (Option Addr × Nat × List Mv)), At ((w2.alloc (.cells #[.int .i64 (mc m), .int .i64 (mr m), .int .i64 (pa (mw m)), .int .i64 (ch (mw m)), .string (ba (nm (mw m))), .float .f64 (rk (mw m))] 57)).alloc (.cells [.slice (some ⟨b0, o0, none⟩) l.length l.length, .slice (some ⟨w2.heap.size, 0, none⟩) 1 1, .slice (some ⟨b0, o0, none⟩) 0 0].toArray 52)).drew ((w2.alloc (.cells #[.int .i64 (mc m), .int .i64 (mr m), .int .i64 (pa (mw m)), .int .i64 (ch (mw m)), .string (ba (nm (mw m))), .float .f64 (rk (mw m))] 57)).alloc (.cells [.slice (some ⟨b0, o0, none⟩) l.length l.length, .slice (some ⟨w2.heap.size, 0, none⟩) 1 1, .slice (some ⟨b0, o0, none⟩) 0 0].toArray 52)).drew.heap.size x.1 (mvs x.2.2) ∧ (x.1 = none → x.2.1 = 0) ∧ x.2.2.length ≤ x.2.1 := by
  intro x hx
  simp only [List.mem_cons, List.not_mem_nil, or_false] at hx
  rcases hx with rfl | rfl | rfl
  ·exact ⟨hcX, (fun h => by cases h), Nat.le_refl _⟩
  ·exact ⟨at_oneM w2 m _, (fun h => by cases h), Nat.le_refl _⟩
  ·exact ⟨At.nil _ _ _, fun _ => rfl, Nat.le_refl _⟩
 have hv : ([.slice (some ⟨b0, o0, none⟩) l.length l.length, .slice (some ⟨w2.heap.size, 0, none⟩) 1 1, .slice (some ⟨b0, o0, none⟩) 0 0] : List Value) = lvm [((some ⟨b0, o0, none⟩), l.length, l), (some ⟨w2.heap.size, 0, none⟩, 1, [m]), ((some ⟨b0, o0, none⟩), 0, [])] := by simp only [lvm, List.map_cons, List.map_nil, List.length_nil, List.length_singleton]
 have hxb := hbw.trans (hX.mono hbw.size)
 have HV := Lib.hid hv
 have HCS := Lib.hid hcs
 have HXB := Lib.hid hxb
 clear hX hcX hcs hv hxb
 go_region_with (go_at_call 204; refine (mconcat_k (vals := [.slice (some ⟨b0, o0, none⟩) l.length l.length, .slice (some ⟨w2.heap.size, 0, none⟩) 1 1, .slice (some ⟨b0, o0, none⟩) 0 0]) [((some ⟨b0, o0, none⟩), l.length, l), (some ⟨w2.heap.size, 0, none⟩, 1, [m]), ((some ⟨b0, o0, none⟩), 0, [])] rfl HV.out (by rw [← HNN.out]; simp [flatM]) (by simp) HF.out (at_newS6 w2 _ 52 [.slice (some ⟨b0, o0, none⟩) l.length l.length, .slice (some ⟨w2.heap.size, 0, none⟩) 1 1, .slice (some ⟨b0, o0, none⟩) 0 0] _ rfl) HCS.out).mono ?_; rintro e w9 ⟨A9, c9, rfl, hown, hb9⟩)
 all_goals
  have HO := Lib.hid (own_insM (k := l.length) (b := true) (ownsRow_low hown HXB.out.size) (rfl : N.length = N.length) (HXB.out.trans (hb9.mono HXB.out.size)) (Nat.le_refl _))
  clear hown
  go_wp2_with fail
  refine bodyPost_ret (v := .tuple #[.slice A9 N.length c9, .int .i64 (l.length : Nat), .bool true]) (by simp [results, Tryz.f149, go_sem]) rfl ?_
  exact HO.out
set_option maxHeartbeats 8000000 in
theorem mins_last (l : List Mv) (m : Mv) (b0 o0 cap : Nat) (hlc : l.length ≤ cap) (hc0 : ¬ cap = l.length) (N : List Mv) (hl : l.length ≤ 100000) (hlp : 0 < l.length) (h1 : idxM (isT (mc m) (mr m)) l = -1) (h1b : idxM (befM (mc m) (mr m)) l = -1) (hN : l ++ [m] = N) (hF : N.length ≤ 200000) (w : World) (hc : At w w.heap.size (some ⟨b0, o0, none⟩) (mvs l)) :
  Calls Tryz.prog 149 #[.slice (some ⟨b0, o0, none⟩) l.length cap, .agg #[.int .i64 (mc m), .int .i64 (mr m), .int .i64 (pa (mw m)), .int .i64 (ch (mw m)), .string (ba (nm (mw m))), .float .f64 (rk (mw m))]] w (InsEnd (N, l.length, true) w) := by
 have hlm : l.length ≤ maxLen := by unfold maxLen; omega
 have hbx := (Below.refl w.heap.size w).alloc (Nat.le_refl _) (.cells #[.int .i64 (mc m), .int .i64 (mr m), .int .i64 (pa (mw m)), .int .i64 (ch (mw m)), .string (ba (nm (mw m))), .float .f64 (rk (mw m))] 57)
 have hI0 : Is (w.alloc (.cells #[.int .i64 (mc m), .int .i64 (mr m), .int .i64 (pa (mw m)), .int .i64 (ch (mw m)), .string (ba (nm (mw m))), .float .f64 (rk (mw m))] 57)) w.heap.size 57 [.int .i64 (mc m), .int .i64 (mr m), .int .i64 (pa (mw m)), .int .i64 (ch (mw m)), .string (ba (nm (mw m))), .float .f64 (rk (mw m))] := is_new w 57 [.int .i64 (mc m), .int .i64 (mr m), .int .i64 (pa (mw m)), .int .i64 (ch (mw m)), .string (ba (nm (mw m))), .float .f64 (rk (mw m))]
 have hcx := hc.keep hbx
 have HI0 := Lib.hid hI0
 have HCX := Lib.hid hcx
 have HBX := Lib.hid hbx
 clear hI0 hcx hbx
 have HNN := Lib.hid hN
 have HF := Lib.hid hF
 have H1 := Lib.hid h1
 have H1B := Lib.hid h1b
 have hn0 : (0 : Int) ≤ (l.length : Int) := by omega
 have hn1 : (l.length : Int) ≤ (cap : Int) := by omega
 clear h1 h1b hN hF hc
 go_enter Tryz.func149, Tryz.ntmps149
 go_wp2_with fail
 refine (mfirst_is (mc m) (mr m) (-1) _ _ l H1.out hlm _ HCX.out).mono ?_
 rintro e w1 ⟨rfl, hb1⟩
 have hI := is_below HI0.out hb1 (is_lt HI0.out)
 have hc1 := HCX.out.keep hb1
 have hbw := HBX.out.trans (hb1.mono HBX.out.size)
 obtain ⟨k0, k1, k2, k3, k4, k5⟩ := box6 (m := m) hI
 go_wp2_with fail
 refine (mfirst_bef (mc m) (mr m) (-1) _ _ l H1B.out hlm _ hc1).mono ?_
 rintro e w2 ⟨rfl, hb2⟩
 have hI := is_below hI hb2 (is_lt hI)
 have hc1 := hc1.keep hb2
 have hbw := hbw.trans (hb2.mono hbw.size)
 clear k0 k1 k2 k3 k4 k5
 obtain ⟨k0, k1, k2, k3, k4, k5⟩ := box6 (m := m) hI
 have HC1 := Lib.hid hc1
 go_wp2_with fail
 have hX : Below w2.heap.size w2 ((w2.alloc (.cells #[.int .i64 (mc m), .int .i64 (mr m), .int .i64 (pa (mw m)), .int .i64 (ch (mw m)), .string (ba (nm (mw m))), .float .f64 (rk (mw m))] 57)).alloc (.cells [.slice (some ⟨b0, o0, none⟩) l.length cap, .slice (some ⟨w2.heap.size, 0, none⟩) 1 1, .slice (some ⟨b0, o0 + l.length * 6, none⟩) 0 (cap - l.length)].toArray 52)).drew := (((Below.refl _ _).alloc (Nat.le_refl _) _).alloc (by simp) _).drew
 have hcX := HC1.out.keep hX
 have hcs : ∀ x ∈ ([((some ⟨b0, o0, none⟩), cap, l), (some ⟨w2.heap.size, 0, none⟩, 1, [m]), ((some ⟨b0, o0 + l.length * 6, none⟩), (cap - l.length), [])] : List (Option Addr × Nat × List Mv)), At ((w2.alloc (.cells #[.int .i64 (mc m), .int .i64 (mr m), .int .i64 (pa (mw m)), .int .i64 (ch (mw m)), .string (ba (nm (mw m))), .float .f64 (rk (mw m))] 57)).alloc (.cells [.slice (some ⟨b0, o0, none⟩) l.length cap, .slice (some ⟨w2.heap.size, 0, none⟩) 1 1, .slice (some ⟨b0, o0 + l.length * 6, none⟩) 0 (cap - l.length)].toArray 52)).drew ((w2.alloc (.cells #[.int .i64 (mc m), .int .i64 (mr m), .int .i64 (pa (mw m)), .int .i64 (ch (mw m)), .string (ba (nm (mw m))), .float .f64 (rk (mw m))] 57)).alloc (.cells [.slice (some ⟨b0, o0, none⟩) l.length cap, .slice (some ⟨w2.heap.size, 0, none⟩) 1 1, .slice (some ⟨b0, o0 + l.length * 6, none⟩) 0 (cap - l.length)].toArray 52)).drew.heap.size x.1 (mvs x.2.2) ∧ (x.1 = none → x.2.1 = 0) ∧ x.2.2.length ≤ x.2.1 := by
  intro x hx
  simp only [List.mem_cons, List.not_mem_nil, or_false] at hx
  rcases hx with rfl | rfl | rfl
  ·exact ⟨hcX, (fun h => by cases h), hlc⟩
  ·exact ⟨at_oneM w2 m _, (fun h => by cases h), Nat.le_refl _⟩
  ·exact ⟨At.nil _ _ _, (fun h => by cases h), Nat.zero_le _⟩
 have hv : ([.slice (some ⟨b0, o0, none⟩) l.length cap, .slice (some ⟨w2.heap.size, 0, none⟩) 1 1, .slice (some ⟨b0, o0 + l.length * 6, none⟩) 0 (cap - l.length)] : List Value) = lvm [((some ⟨b0, o0, none⟩), cap, l), (some ⟨w2.heap.size, 0, none⟩, 1, [m]), ((some ⟨b0, o0 + l.length * 6, none⟩), (cap - l.length), [])] := by simp only [lvm, List.map_cons, List.map_nil, List.length_nil, List.length_singleton]
 have hxb := hbw.trans (hX.mono hbw.size)
 have HV := Lib.hid hv
 have HCS := Lib.hid hcs
 have HXB := Lib.hid hxb
 clear hX hcX hcs hv hxb
 go_region_with (go_at_call 204; refine (mconcat_k (vals := [.slice (some ⟨b0, o0, none⟩) l.length cap, .slice (some ⟨w2.heap.size, 0, none⟩) 1 1, .slice (some ⟨b0, o0 + l.length * 6, none⟩) 0 (cap - l.length)]) [((some ⟨b0, o0, none⟩), cap, l), (some ⟨w2.heap.size, 0, none⟩, 1, [m]), ((some ⟨b0, o0 + l.length * 6, none⟩), (cap - l.length), [])] rfl HV.out (by rw [← HNN.out]; simp [flatM]) (by simp) HF.out (at_newS6 w2 _ 52 [.slice (some ⟨b0, o0, none⟩) l.length cap, .slice (some ⟨w2.heap.size, 0, none⟩) 1 1, .slice (some ⟨b0, o0 + l.length * 6, none⟩) 0 (cap - l.length)] _ rfl) HCS.out).mono ?_; rintro e w9 ⟨A9, c9, rfl, hown, hb9⟩)
 all_goals
  have HO := Lib.hid (own_insM (k := l.length) (b := true) (ownsRow_low hown HXB.out.size) (rfl : N.length = N.length) (HXB.out.trans (hb9.mono HXB.out.size)) (Nat.le_refl _))
  clear hown
  go_wp2_with fail
  refine bodyPost_ret (v := .tuple #[.slice A9 N.length c9, .int .i64 (l.length : Nat), .bool true]) (by simp [results, Tryz.f149, go_sem]) rfl ?_
  exact HO.out
theorem minsert_c (A : Option Addr) (cap : Nat) (l : List Mv) (m : Mv) (hl : l.length ≤ 100000) (hA : A = none → cap = 0) (hcap : l.length ≤ cap) (w : World) (hc : At w w.heap.size A (mvs l)) :
  Calls Tryz.prog 149 #[.slice A l.length cap, .agg #[.int .i64 (mc m), .int .i64 (mr m), .int .i64 (pa (mw m)), .int .i64 (ch (mw m)), .string (ba (nm (mw m))), .float .f64 (rk (mw m))]] w (InsEnd (insM l m) w) := by
 rcases insM_is l m with ⟨k, x, h1, hk, h2, hkl⟩ | ⟨h1, ⟨k, x, h1b, hk, h2, hkl⟩ | ⟨h1b, h2⟩⟩
 ·rw [h2]
  exact mins_old l m A cap k hl hA hcap h1 w hc
 ·rw [h2]
  obtain ⟨b0, o0, rfl, -⟩ := move_cells hc hk
  exact mins_mid l m b0 o0 cap k _ hl hcap hkl h1 h1b rfl (by simp; omega) w hc
 ·rw [h2]
  cases A with
  | none =>
   obtain rfl := hA rfl
   obtain rfl : l = [] := List.eq_nil_of_length_eq_zero (by omega)
   exact mins_nil m _ h1 h1b rfl (by simp) w hc
  | some a =>
   obtain ⟨b0, o0, sp⟩ := a
   by_cases hle : l = []
   ·subst hle
    by_cases hcj : cap = 0
    ·subst hcj
     exact mins_none m b0 o0 sp _ h1 h1b rfl (by simp) w hc
    ·exact mins_room m b0 o0 cap sp hcj _ h1 h1b rfl (by simp) w hc
   ·obtain ⟨x0, hx0⟩ : ∃ x0, l[0]? = some x0 := some_at (List.length_pos_iff.2 hle)
    obtain ⟨b1, o1, e1, -⟩ := move_cells hc hx0
    cases e1
    have hlp := List.length_pos_iff.2 hle
    by_cases hcj : cap = l.length
    ·subst hcj
     exact mins_full l m b0 o0 _ hl hlp h1 h1b rfl (by simp; omega) w hc
    ·exact mins_last l m b0 o0 cap hcap hcj _ hl hlp h1 h1b rfl (by simp; omega) w hc
end Go.Proofs.YthhckdjagnlgpaaGreat
