/-
 A row that is set: the program's.
-/
import Derived.Test.YtkobmnbjeppnaaaGreatTf
namespace Go.Proofs.YtkobmnbjeppnaaaGreat
open Go.RowKit Go.IntWalk
set_option maxRecDepth 100000
attribute [local go_sem] Oper.semAt_some
theorem setF_c (x r : Rw) (B : Nat) (W : World) (h : W.cell? ⟨B, 0, none⟩ = some (.int .i64 (ch r))) :
  Calls Tryz.prog 51 #[rv x, .pointer (some ⟨B, 0, none⟩)] W fun e W' => e = .returned (.bool (decide (ch r < ch x))) ∧ Below W.heap.size W W' := by
 show Calls Tryz.prog 51 #[.agg #[.int .i64 (ch x), .int .i64 (pa x), .string (ba (nm x)), .float .f64 (rk x)], .pointer (some ⟨B, 0, none⟩)] W _
 obtain ⟨c0, p, n, f⟩ := x
 obtain ⟨c, p2, n2, f2⟩ := r
 change W.cell? _ = some (.int .i64 c) at h
 have hb := (Below.refl W.heap.size W).alloc (Nat.le_refl _) (.cells #[.int .i64 c0, .int .i64 p, .string (ba n), .float .f64 f] 28)
 have h2 : (W.alloc (.cells #[.int .i64 c0, .int .i64 p, .string (ba n), .float .f64 f] 28)).cell? ⟨B, 0, none⟩ = some (.int .i64 c) := keep_cell hb h
 go_enter Tryz.func51, Tryz.ntmps51
 go_wp2
 go_ret
 exact ⟨rfl, hb⟩
theorem gt_pred (r : Rw) (B : Nat) (w : World) (l : List Rw) (h : w.cell? ⟨B, 0, none⟩ = some (.int .i64 (ch r))) : Pred 51 #[.pointer (some ⟨B, 0, none⟩)] (fun x => decide (ch r < ch x)) w l := fun W x hb _ =>
 setF_c x r B W (keep_cell hb h)
def gtc (l : List Rw) (r : Rw) : Int := idx (fun x => decide (ch r < ch x)) l
theorem gtc_k {A : Option Addr} {cap : Nat} {l : List Rw} {r : Rw} {B : Nat} (x : Int) (hx : gtc l r = x) (hl : l.length ≤ maxLen) {w : World} (hc : At w w.heap.size A (tvs l)) (h : w.cell? ⟨B, 0, none⟩ = some (.int .i64 (ch r))) :
  Calls Tryz.prog 50 #[.slice A l.length cap, .func (.func 51) #[] #[.pointer (some ⟨B, 0, none⟩)]] w fun e w' => e = .returned (.int .i64 x) ∧ Below w.heap.size w w' := by
 subst hx
 exact indexFunc_c A cap l 51 _ _ hl (enters_of Tryz.func51 (by kernel_rfl) rfl) w hc (gt_pred r B w l h)
def setP (l : List Rw) (r : Rw) : List Rw := match l.findIdx? (fun x => ch x == ch r) with
 | some k => l.take k ++ r :: l.drop (k + 1)
 | none => match l.findIdx? (fun x => decide (ch r < ch x)) with
  | some k => l.take k ++ r :: l.drop k
  | none => l ++ [r]
theorem set_cases (l : List Rw) (r : Rw) : (∃ (k : Nat) (x : Rw), plc l (ch r) = (k : Int) ∧ l[k]? = some x ∧ setP l r = l.take k ++ r :: l.drop (k + 1) ∧ k < l.length) ∨
  (∃ (k : Nat) (x : Rw), plc l (ch r) = -1 ∧ gtc l r = (k : Int) ∧ l[k]? = some x ∧ setP l r = l.take k ++ r :: l.drop k ∧ k < l.length) ∨ (plc l (ch r) = -1 ∧ gtc l r = -1 ∧ setP l r = l ++ [r]) := by
 unfold plc gtc idx setP
 cases h : l.findIdx? (fun x => ch x == ch r) with
 | some k =>
  obtain ⟨h1, _, _⟩ := List.findIdx?_eq_some_iff_getElem.1 h
  exact .inl ⟨k, l[k], rfl, by simp [h1], rfl, h1⟩
 | none =>
  cases h2 : l.findIdx? (fun x => decide (ch r < ch x)) with
  | some k =>
   obtain ⟨h1, _, _⟩ := List.findIdx?_eq_some_iff_getElem.1 h2
   exact .inr (.inl ⟨k, l[k], rfl, rfl, by simp [h1], rfl, h1⟩)
  | none => exact .inr (.inr ⟨rfl, rfl, rfl⟩)
theorem at_newS (w : World) (o : Obj) (t : TypeId) (xs : List Value) (n : Nat) (hn : n = w.heap.size + 1) : At ((w.alloc o).alloc (.cells xs.toArray t)).drew ((w.alloc o).alloc (.cells xs.toArray t)).drew.heap.size (some ⟨n, 0, none⟩) xs := by
 have := at_newR (w.alloc o) t xs
 rw [World.size_alloc] at this
 rw [hn]
 exact this
theorem at_one (w : World) (r : Rw) (o : Obj) : At ((w.alloc (.cells #[.int .i64 (ch r), .int .i64 (pa r), .string (ba (nm r)), .float .f64 (rk r)] 28)).alloc o).drew ((w.alloc (.cells #[.int .i64 (ch r), .int .i64 (pa r), .string (ba (nm r)), .float .f64 (rk r)] 28)).alloc o).drew.heap.size (some ⟨w.heap.size, 0, none⟩) (tvs [r]) := by
 have h : At (w.alloc (.cells (tvs [r]).toArray 28)) (w.alloc (.cells (tvs [r]).toArray 28)).heap.size (some ⟨w.heap.size, 0, none⟩) (tvs [r]) := fun i v hv =>
  ⟨w.heap.size, 0, rfl, by simp, by rw [Nat.zero_add]; exact (is_cell (is_new w 28 (tvs [r])) i).trans hv⟩
 exact h.keep ((Below.refl _ _).alloc (Nat.le_refl _) _).drew
theorem box4 {w : World} {G : Nat} {r : Rw} (h : Is w G 28 [.int .i64 (ch r), .int .i64 (pa r), .string (ba (nm r)), .float .f64 (rk r)]) :
  w.cell? ⟨G, 0, none⟩ = some (.int .i64 (ch r)) ∧ w.cell? ⟨G, 1, none⟩ = some (.int .i64 (pa r)) ∧ w.cell? ⟨G, 2, none⟩ = some (.string (ba (nm r))) ∧ w.cell? ⟨G, 3, none⟩ = some (.float .f64 (rk r)) :=
 ⟨is_cell h 0, is_cell h 1, is_cell h 2, is_cell h 3⟩
set_option maxHeartbeats 8000000 in
theorem set_c (A : Option Addr) (cap : Nat) (l : List Rw) (r : Rw) (hl : l.length ≤ 100000) (hA : A = none → cap = 0) (hcap : l.length ≤ cap) (w : World) (hc : At w w.heap.size A (tvs l)) :
  Calls Tryz.prog 25 #[.slice A l.length cap, .agg #[.int .i64 (ch r), .int .i64 (pa r), .string (ba (nm r)), .float .f64 (rk r)]] w (Fresh_ (setP l r) w) := by
 have hlm : l.length ≤ maxLen := by unfold maxLen; omega
 have hbx := (Below.refl w.heap.size w).alloc (Nat.le_refl _) (.cells #[.int .i64 (ch r), .int .i64 (pa r), .string (ba (nm r)), .float .f64 (rk r)] 28)
 have hI0 : Is (w.alloc (.cells #[.int .i64 (ch r), .int .i64 (pa r), .string (ba (nm r)), .float .f64 (rk r)] 28)) w.heap.size 28 [.int .i64 (ch r), .int .i64 (pa r), .string (ba (nm r)), .float .f64 (rk r)] := is_new w 28 [.int .i64 (ch r), .int .i64 (pa r), .string (ba (nm r)), .float .f64 (rk r)]
 have hcx := hc.keep hbx
 obtain ⟨N, hN⟩ : ∃ N, setP l r = N := ⟨_, rfl⟩
 have hF : N.length ≤ 200000 := by
  rw [← hN]
  rcases set_cases l r with ⟨k, x, _, _, h, hk⟩ | ⟨k, x, _, _, _, h, hk⟩ | ⟨_, _, h⟩
  all_goals
   rw [h]
   simp only [List.length_append, List.length_take, List.length_cons, List.length_drop, List.length_nil]
   omega
 rw [hN]
 have HF := Lib.hid hF
 have HI0 := Lib.hid hI0
 have HCX := Lib.hid hcx
 have HBX := Lib.hid hbx
 clear hF hI0 hcx hbx
 rcases set_cases l r with ⟨k, x, h1, hk, h2, hkl⟩ | ⟨k, x, h1, h1b, hk, h2, hkl⟩ | ⟨h1, h1b, h2⟩
 ·rw [hN] at h2
  have HNN := Lib.hid h2.symm
  have H1 := Lib.hid h1
  obtain ⟨b0, o0, rfl, hb0, -⟩ := row_cells hc hk
  have hki : (0 : Int) ≤ (k : Int) := by omega
  have hkl2 : (k : Int) < (l.length : Int) := by omega
  have hkl3 : (k : Int) ≤ (l.length : Int) := by omega
  have hk1 : (0 : Int) ≤ (k : Int) + 1 := by omega
  have hk2 : (k : Int) + 1 ≤ (l.length : Int) := by omega
  have hk3 : (k : Int) ≤ (cap : Int) := by omega
  have hkw : IntKind.i64.wrap ((k : Int) + 1) = (k : Int) + 1 := IntWalk.i64_in _ (by omega)
  have hk4 : (k : Int) ≤ (k : Int) + 1 := by omega
  have htk : (l.take k).length = k := by rw [List.length_take]; omega
  have hdk : (l.drop (k + 1)).length = l.length - (k + 1) := List.length_drop ..
  clear h1 h2 hk hA hN hc
  by_cases hcj : cap = k + 1
  ·subst hcj
   have hd0 : l.drop (k + 1) = [] := List.drop_of_length_le hcap
   go_enter Tryz.func25, Tryz.ntmps25
   go_wp2_with fail
   refine (first_k k H1.out hlm HCX.out).mono ?_
   rintro e w1 ⟨rfl, hb1⟩
   have hI := is_below HI0.out hb1 (is_lt HI0.out)
   have hc1 := HCX.out.keep hb1
   have hbw := HBX.out.trans (hb1.mono HBX.out.size)
   obtain ⟨k0, k1, k2, k3⟩ := box4 (r := r) hI
   have HC1 := Lib.hid hc1
   go_wp2_with fail
   have hX : Below w1.heap.size w1 ((w1.alloc (.cells #[.int .i64 (ch r), .int .i64 (pa r), .string (ba (nm r)), .float .f64 (rk r)] 28)).alloc (.cells [.slice (some ⟨b0, o0, none⟩) k (k + 1), .slice (some ⟨w1.heap.size, 0, none⟩) 1 1, .slice (some ⟨b0, o0, none⟩) 0 0].toArray 22)).drew := (((Below.refl _ _).alloc (Nat.le_refl _) _).alloc (by simp) _).drew
   have hcX := HC1.out.keep hX
   have hcs : ∀ x ∈ ([(some ⟨b0, o0, none⟩, k + 1, l.take k), (some ⟨w1.heap.size, 0, none⟩, 1, [r]), (some ⟨b0, o0, none⟩, 0, [])] : List (Option Addr × Nat × List Rw)), At ((w1.alloc (.cells #[.int .i64 (ch r), .int .i64 (pa r), .string (ba (nm r)), .float .f64 (rk r)] 28)).alloc (.cells [.slice (some ⟨b0, o0, none⟩) k (k + 1), .slice (some ⟨w1.heap.size, 0, none⟩) 1 1, .slice (some ⟨b0, o0, none⟩) 0 0].toArray 22)).drew ((w1.alloc (.cells #[.int .i64 (ch r), .int .i64 (pa r), .string (ba (nm r)), .float .f64 (rk r)] 28)).alloc (.cells [.slice (some ⟨b0, o0, none⟩) k (k + 1), .slice (some ⟨w1.heap.size, 0, none⟩) 1 1, .slice (some ⟨b0, o0, none⟩) 0 0].toArray 22)).drew.heap.size x.1 (tvs x.2.2) ∧ (x.1 = none → x.2.1 = 0) ∧ x.2.2.length ≤ x.2.1 := by
    intro x hx
    simp only [List.mem_cons, List.not_mem_nil, or_false] at hx
    rcases hx with rfl | rfl | rfl
    ·exact ⟨at_takeR hcX k, (fun h => by cases h), by simp only [htk]; omega⟩
    ·exact ⟨at_one w1 r _, (fun h => by cases h), Nat.le_refl _⟩
    ·exact ⟨At.nil _ _ _, fun _ => rfl, Nat.le_refl _⟩
   have hv : ([.slice (some ⟨b0, o0, none⟩) k (k + 1), .slice (some ⟨w1.heap.size, 0, none⟩) 1 1, .slice (some ⟨b0, o0, none⟩) 0 0] : List Value) = lvs [(some ⟨b0, o0, none⟩, k + 1, l.take k), (some ⟨w1.heap.size, 0, none⟩, 1, [r]), (some ⟨b0, o0, none⟩, 0, [])] := by simp only [lvs, List.map_cons, List.map_nil, htk, List.length_nil, List.length_singleton]
   have hxb := hbw.trans (hX.mono hbw.size)
   have HV := Lib.hid hv
   have HCS := Lib.hid hcs
   have HXB := Lib.hid hxb
   clear hX hcX hcs hv hxb
   go_region_with (go_at_call 47; refine (concat_k (vals := [.slice (some ⟨b0, o0, none⟩) k (k + 1), .slice (some ⟨w1.heap.size, 0, none⟩) 1 1, .slice (some ⟨b0, o0, none⟩) 0 0]) [(some ⟨b0, o0, none⟩, k + 1, l.take k), (some ⟨w1.heap.size, 0, none⟩, 1, [r]), (some ⟨b0, o0, none⟩, 0, [])] rfl HV.out (by rw [← HNN.out]; simp [flatR, hd0]) (by simp) HF.out (at_newS w1 _ 22 [.slice (some ⟨b0, o0, none⟩) k (k + 1), .slice (some ⟨w1.heap.size, 0, none⟩) 1 1, .slice (some ⟨b0, o0, none⟩) 0 0] _ rfl) HCS.out).mono ?_; rintro e w9 ⟨A9, c9, rfl, hown, hb9⟩)
   all_goals
    go_wp2_with fail
    go_ret
    exact ⟨A9, c9, rfl, ownsRow_low hown HXB.out.size, HXB.out.trans (hb9.mono HXB.out.size)⟩
  ·have hc0 : ¬ cap = k + 1 := hcj
   clear hcj
   go_enter Tryz.func25, Tryz.ntmps25
   go_wp2_with fail
   refine (first_k k H1.out hlm HCX.out).mono ?_
   rintro e w1 ⟨rfl, hb1⟩
   have hI := is_below HI0.out hb1 (is_lt HI0.out)
   have hc1 := HCX.out.keep hb1
   have hbw := HBX.out.trans (hb1.mono HBX.out.size)
   obtain ⟨k0, k1, k2, k3⟩ := box4 (r := r) hI
   have HC1 := Lib.hid hc1
   go_wp2_with fail
   have hX : Below w1.heap.size w1 ((w1.alloc (.cells #[.int .i64 (ch r), .int .i64 (pa r), .string (ba (nm r)), .float .f64 (rk r)] 28)).alloc (.cells [.slice (some ⟨b0, o0, none⟩) k cap, .slice (some ⟨w1.heap.size, 0, none⟩) 1 1, .slice (some ⟨b0, o0 + (k + 1) * 4, none⟩) (l.length - (k + 1)) (cap - (k + 1))].toArray 22)).drew := (((Below.refl _ _).alloc (Nat.le_refl _) _).alloc (by simp) _).drew
   have hcX := HC1.out.keep hX
   have hcs : ∀ x ∈ ([(some ⟨b0, o0, none⟩, cap, l.take k), (some ⟨w1.heap.size, 0, none⟩, 1, [r]), (some ⟨b0, o0 + (k + 1) * 4, none⟩, cap - (k + 1), l.drop (k + 1))] : List (Option Addr × Nat × List Rw)), At ((w1.alloc (.cells #[.int .i64 (ch r), .int .i64 (pa r), .string (ba (nm r)), .float .f64 (rk r)] 28)).alloc (.cells [.slice (some ⟨b0, o0, none⟩) k cap, .slice (some ⟨w1.heap.size, 0, none⟩) 1 1, .slice (some ⟨b0, o0 + (k + 1) * 4, none⟩) (l.length - (k + 1)) (cap - (k + 1))].toArray 22)).drew ((w1.alloc (.cells #[.int .i64 (ch r), .int .i64 (pa r), .string (ba (nm r)), .float .f64 (rk r)] 28)).alloc (.cells [.slice (some ⟨b0, o0, none⟩) k cap, .slice (some ⟨w1.heap.size, 0, none⟩) 1 1, .slice (some ⟨b0, o0 + (k + 1) * 4, none⟩) (l.length - (k + 1)) (cap - (k + 1))].toArray 22)).drew.heap.size x.1 (tvs x.2.2) ∧ (x.1 = none → x.2.1 = 0) ∧ x.2.2.length ≤ x.2.1 := by
    intro x hx
    simp only [List.mem_cons, List.not_mem_nil, or_false] at hx
    rcases hx with rfl | rfl | rfl
    ·exact ⟨at_takeR hcX k, (fun h => by cases h), by simp only [htk]; omega⟩
    ·exact ⟨at_one w1 r _, (fun h => by cases h), Nat.le_refl _⟩
    ·exact ⟨at_dropR hcX (k + 1), (fun h => by cases h), by simp only [hdk]; omega⟩
   have hv : ([.slice (some ⟨b0, o0, none⟩) k cap, .slice (some ⟨w1.heap.size, 0, none⟩) 1 1, .slice (some ⟨b0, o0 + (k + 1) * 4, none⟩) (l.length - (k + 1)) (cap - (k + 1))] : List Value) = lvs [(some ⟨b0, o0, none⟩, cap, l.take k), (some ⟨w1.heap.size, 0, none⟩, 1, [r]), (some ⟨b0, o0 + (k + 1) * 4, none⟩, cap - (k + 1), l.drop (k + 1))] := by simp only [lvs, List.map_cons, List.map_nil, htk, hdk, List.length_singleton]
   have hxb := hbw.trans (hX.mono hbw.size)
   have HV := Lib.hid hv
   have HCS := Lib.hid hcs
   have HXB := Lib.hid hxb
   clear hX hcX hcs hv hxb
   go_region_with (go_at_call 47; refine (concat_k (vals := [.slice (some ⟨b0, o0, none⟩) k cap, .slice (some ⟨w1.heap.size, 0, none⟩) 1 1, .slice (some ⟨b0, o0 + (k + 1) * 4, none⟩) (l.length - (k + 1)) (cap - (k + 1))]) [(some ⟨b0, o0, none⟩, cap, l.take k), (some ⟨w1.heap.size, 0, none⟩, 1, [r]), (some ⟨b0, o0 + (k + 1) * 4, none⟩, cap - (k + 1), l.drop (k + 1))] rfl HV.out (by rw [← HNN.out]; simp [flatR]) (by simp) HF.out (at_newS w1 _ 22 [.slice (some ⟨b0, o0, none⟩) k cap, .slice (some ⟨w1.heap.size, 0, none⟩) 1 1, .slice (some ⟨b0, o0 + (k + 1) * 4, none⟩) (l.length - (k + 1)) (cap - (k + 1))] _ rfl) HCS.out).mono ?_; rintro e w9 ⟨A9, c9, rfl, hown, hb9⟩)
   all_goals
    go_wp2_with fail
    go_ret
    exact ⟨A9, c9, rfl, ownsRow_low hown HXB.out.size, HXB.out.trans (hb9.mono HXB.out.size)⟩
 ·rw [hN] at h2
  have HNN := Lib.hid h2.symm
  have H1 := Lib.hid h1
  have H1B := Lib.hid h1b
  obtain ⟨b0, o0, rfl, hb0, -⟩ := row_cells hc hk
  have hki : (0 : Int) ≤ (k : Int) := by omega
  have hkl2 : (k : Int) < (l.length : Int) := by omega
  have hkl3 : (k : Int) ≤ (l.length : Int) := by omega
  have hk1 : (0 : Int) ≤ (k : Int) + 1 := by omega
  have hk2 : (k : Int) + 1 ≤ (l.length : Int) := by omega
  have hk3 : (k : Int) ≤ (cap : Int) := by omega
  have hkw : IntKind.i64.wrap ((k : Int) + 1) = (k : Int) + 1 := IntWalk.i64_in _ (by omega)
  have hk4 : (k : Int) ≤ (k : Int) + 1 := by omega
  have htk : (l.take k).length = k := by rw [List.length_take]; omega
  have hdk : (l.drop k).length = l.length - k := List.length_drop ..
  have hc0 : ¬ cap = k := by omega
  clear h1 h1b h2 hk hA hN hc
  go_enter Tryz.func25, Tryz.ntmps25
  go_wp2_with fail
  refine (first_k (-1) H1.out hlm HCX.out).mono ?_
  rintro e w1 ⟨rfl, hb1⟩
  have hI := is_below HI0.out hb1 (is_lt HI0.out)
  have hc1 := HCX.out.keep hb1
  have hbw := HBX.out.trans (hb1.mono HBX.out.size)
  obtain ⟨k0, k1, k2, k3⟩ := box4 (r := r) hI
  go_wp2_with fail
  refine (gtc_k k H1B.out hlm hc1 k0).mono ?_
  rintro e w2 ⟨rfl, hb2⟩
  have hI := is_below hI hb2 (is_lt hI)
  have hc1 := hc1.keep hb2
  have hbw := hbw.trans (hb2.mono hbw.size)
  clear k0 k1 k2 k3
  obtain ⟨k0, k1, k2, k3⟩ := box4 (r := r) hI
  have HC1 := Lib.hid hc1
  go_wp2_with fail
  have hX : Below w2.heap.size w2 ((w2.alloc (.cells #[.int .i64 (ch r), .int .i64 (pa r), .string (ba (nm r)), .float .f64 (rk r)] 28)).alloc (.cells [.slice (some ⟨b0, o0, none⟩) k cap, .slice (some ⟨w2.heap.size, 0, none⟩) 1 1, .slice (some ⟨b0, o0 + k * 4, none⟩) (l.length - k) (cap - k)].toArray 22)).drew := (((Below.refl _ _).alloc (Nat.le_refl _) _).alloc (by simp) _).drew
  have hcX := HC1.out.keep hX
  have hcs : ∀ x ∈ ([(some ⟨b0, o0, none⟩, cap, l.take k), (some ⟨w2.heap.size, 0, none⟩, 1, [r]), (some ⟨b0, o0 + k * 4, none⟩, cap - k, l.drop k)] : List (Option Addr × Nat × List Rw)), At ((w2.alloc (.cells #[.int .i64 (ch r), .int .i64 (pa r), .string (ba (nm r)), .float .f64 (rk r)] 28)).alloc (.cells [.slice (some ⟨b0, o0, none⟩) k cap, .slice (some ⟨w2.heap.size, 0, none⟩) 1 1, .slice (some ⟨b0, o0 + k * 4, none⟩) (l.length - k) (cap - k)].toArray 22)).drew ((w2.alloc (.cells #[.int .i64 (ch r), .int .i64 (pa r), .string (ba (nm r)), .float .f64 (rk r)] 28)).alloc (.cells [.slice (some ⟨b0, o0, none⟩) k cap, .slice (some ⟨w2.heap.size, 0, none⟩) 1 1, .slice (some ⟨b0, o0 + k * 4, none⟩) (l.length - k) (cap - k)].toArray 22)).drew.heap.size x.1 (tvs x.2.2) ∧ (x.1 = none → x.2.1 = 0) ∧ x.2.2.length ≤ x.2.1 := by
   intro x hx
   simp only [List.mem_cons, List.not_mem_nil, or_false] at hx
   rcases hx with rfl | rfl | rfl
   ·exact ⟨at_takeR hcX k, (fun h => by cases h), by simp only [htk]; omega⟩
   ·exact ⟨at_one w2 r _, (fun h => by cases h), Nat.le_refl _⟩
   ·exact ⟨at_dropR hcX k, (fun h => by cases h), by simp only [hdk]; omega⟩
  have hv : ([.slice (some ⟨b0, o0, none⟩) k cap, .slice (some ⟨w2.heap.size, 0, none⟩) 1 1, .slice (some ⟨b0, o0 + k * 4, none⟩) (l.length - k) (cap - k)] : List Value) = lvs [(some ⟨b0, o0, none⟩, cap, l.take k), (some ⟨w2.heap.size, 0, none⟩, 1, [r]), (some ⟨b0, o0 + k * 4, none⟩, cap - k, l.drop k)] := by simp only [lvs, List.map_cons, List.map_nil, htk, hdk, List.length_singleton]
  have hxb := hbw.trans (hX.mono hbw.size)
  have HV := Lib.hid hv
  have HCS := Lib.hid hcs
  have HXB := Lib.hid hxb
  clear hX hcX hcs hv hxb
  go_region_with (go_at_call 47; refine (concat_k (vals := [.slice (some ⟨b0, o0, none⟩) k cap, .slice (some ⟨w2.heap.size, 0, none⟩) 1 1, .slice (some ⟨b0, o0 + k * 4, none⟩) (l.length - k) (cap - k)]) [(some ⟨b0, o0, none⟩, cap, l.take k), (some ⟨w2.heap.size, 0, none⟩, 1, [r]), (some ⟨b0, o0 + k * 4, none⟩, cap - k, l.drop k)] rfl HV.out (by rw [← HNN.out]; simp [flatR]) (by simp) HF.out (at_newS w2 _ 22 [.slice (some ⟨b0, o0, none⟩) k cap, .slice (some ⟨w2.heap.size, 0, none⟩) 1 1, .slice (some ⟨b0, o0 + k * 4, none⟩) (l.length - k) (cap - k)] _ rfl) HCS.out).mono ?_; rintro e w9 ⟨A9, c9, rfl, hown, hb9⟩)
  all_goals
   go_wp2_with fail
   go_ret
   exact ⟨A9, c9, rfl, ownsRow_low hown HXB.out.size, HXB.out.trans (hb9.mono HXB.out.size)⟩
 ·rw [hN] at h2
  have HNN := Lib.hid h2.symm
  have H1 := Lib.hid h1
  have H1B := Lib.hid h1b
  have hn0 : (0 : Int) ≤ (l.length : Int) := by omega
  have hn1 : (l.length : Int) ≤ (cap : Int) := by omega
  clear h1 h1b h2 hN
  cases A with
  | none =>
   obtain rfl := hA rfl
   obtain rfl : l = [] := List.eq_nil_of_length_eq_zero (by omega)
   clear hA hc
   go_enter Tryz.func25, Tryz.ntmps25
   go_wp2_with fail
   refine (first_k (-1) H1.out hlm HCX.out).mono ?_
   rintro e w1 ⟨rfl, hb1⟩
   have hI := is_below HI0.out hb1 (is_lt HI0.out)
   have hc1 := HCX.out.keep hb1
   have hbw := HBX.out.trans (hb1.mono HBX.out.size)
   obtain ⟨k0, k1, k2, k3⟩ := box4 (r := r) hI
   go_wp2_with fail
   refine (gtc_k (-1) H1B.out hlm hc1 k0).mono ?_
   rintro e w2 ⟨rfl, hb2⟩
   have hI := is_below hI hb2 (is_lt hI)
   have hc1 := hc1.keep hb2
   have hbw := hbw.trans (hb2.mono hbw.size)
   clear k0 k1 k2 k3
   obtain ⟨k0, k1, k2, k3⟩ := box4 (r := r) hI
   have HC1 := Lib.hid hc1
   go_wp2_with fail
   have hX : Below w2.heap.size w2 ((w2.alloc (.cells #[.int .i64 (ch r), .int .i64 (pa r), .string (ba (nm r)), .float .f64 (rk r)] 28)).alloc (.cells [.slice none 0 0, .slice (some ⟨w2.heap.size, 0, none⟩) 1 1, .slice none 0 0].toArray 22)).drew := (((Below.refl _ _).alloc (Nat.le_refl _) _).alloc (by simp) _).drew
   have hcX := HC1.out.keep hX
   have hcs : ∀ x ∈ ([(none, 0, []), (some ⟨w2.heap.size, 0, none⟩, 1, [r]), (none, 0, [])] : List (Option Addr × Nat × List Rw)), At ((w2.alloc (.cells #[.int .i64 (ch r), .int .i64 (pa r), .string (ba (nm r)), .float .f64 (rk r)] 28)).alloc (.cells [.slice none 0 0, .slice (some ⟨w2.heap.size, 0, none⟩) 1 1, .slice none 0 0].toArray 22)).drew ((w2.alloc (.cells #[.int .i64 (ch r), .int .i64 (pa r), .string (ba (nm r)), .float .f64 (rk r)] 28)).alloc (.cells [.slice none 0 0, .slice (some ⟨w2.heap.size, 0, none⟩) 1 1, .slice none 0 0].toArray 22)).drew.heap.size x.1 (tvs x.2.2) ∧ (x.1 = none → x.2.1 = 0) ∧ x.2.2.length ≤ x.2.1 := by
    intro x hx
    simp only [List.mem_cons, List.not_mem_nil, or_false] at hx
    rcases hx with rfl | rfl | rfl
    ·exact ⟨At.nil _ _ _, fun _ => rfl, Nat.le_refl _⟩
    ·exact ⟨at_one w2 r _, (fun h => by cases h), Nat.le_refl _⟩
    ·exact ⟨At.nil _ _ _, fun _ => rfl, Nat.le_refl _⟩
   have hv : ([.slice none 0 0, .slice (some ⟨w2.heap.size, 0, none⟩) 1 1, .slice none 0 0] : List Value) = lvs [(none, 0, []), (some ⟨w2.heap.size, 0, none⟩, 1, [r]), (none, 0, [])] := by simp only [lvs, List.map_cons, List.map_nil, List.length_nil, List.length_singleton]
   have hxb := hbw.trans (hX.mono hbw.size)
   have HV := Lib.hid hv
   have HCS := Lib.hid hcs
   have HXB := Lib.hid hxb
   clear hX hcX hcs hv hxb
   go_region_with (go_at_call 47; refine (concat_k (vals := [.slice none 0 0, .slice (some ⟨w2.heap.size, 0, none⟩) 1 1, .slice none 0 0]) [(none, 0, []), (some ⟨w2.heap.size, 0, none⟩, 1, [r]), (none, 0, [])] rfl HV.out (by rw [← HNN.out]; simp [flatR]) (by simp) HF.out (at_newS w2 _ 22 [.slice none 0 0, .slice (some ⟨w2.heap.size, 0, none⟩) 1 1, .slice none 0 0] _ rfl) HCS.out).mono ?_; rintro e w9 ⟨A9, c9, rfl, hown, hb9⟩)
   all_goals
    go_wp2_with fail
    go_ret
    exact ⟨A9, c9, rfl, ownsRow_low hown HXB.out.size, HXB.out.trans (hb9.mono HXB.out.size)⟩
  | some a =>
   obtain ⟨b0, o0, sp⟩ := a
   clear hA
   by_cases hle : l = []
   ·subst hle
    clear hc
    by_cases hcj : cap = 0
    ·subst hcj
     go_enter Tryz.func25, Tryz.ntmps25
     go_wp2_with fail
     refine (first_k (-1) H1.out hlm HCX.out).mono ?_
     rintro e w1 ⟨rfl, hb1⟩
     have hI := is_below HI0.out hb1 (is_lt HI0.out)
     have hc1 := HCX.out.keep hb1
     have hbw := HBX.out.trans (hb1.mono HBX.out.size)
     obtain ⟨k0, k1, k2, k3⟩ := box4 (r := r) hI
     go_wp2_with fail
     refine (gtc_k (-1) H1B.out hlm hc1 k0).mono ?_
     rintro e w2 ⟨rfl, hb2⟩
     have hI := is_below hI hb2 (is_lt hI)
     have hc1 := hc1.keep hb2
     have hbw := hbw.trans (hb2.mono hbw.size)
     clear k0 k1 k2 k3
     obtain ⟨k0, k1, k2, k3⟩ := box4 (r := r) hI
     have HC1 := Lib.hid hc1
     go_wp2_with fail
     have hX : Below w2.heap.size w2 ((w2.alloc (.cells #[.int .i64 (ch r), .int .i64 (pa r), .string (ba (nm r)), .float .f64 (rk r)] 28)).alloc (.cells [.slice (some ⟨b0, o0, sp⟩) 0 0, .slice (some ⟨w2.heap.size, 0, none⟩) 1 1, .slice (some ⟨b0, o0, sp⟩) 0 0].toArray 22)).drew := (((Below.refl _ _).alloc (Nat.le_refl _) _).alloc (by simp) _).drew
     have hcX := HC1.out.keep hX
     have hcs : ∀ x ∈ ([(some ⟨b0, o0, sp⟩, 0, []), (some ⟨w2.heap.size, 0, none⟩, 1, [r]), (some ⟨b0, o0, sp⟩, 0, [])] : List (Option Addr × Nat × List Rw)), At ((w2.alloc (.cells #[.int .i64 (ch r), .int .i64 (pa r), .string (ba (nm r)), .float .f64 (rk r)] 28)).alloc (.cells [.slice (some ⟨b0, o0, sp⟩) 0 0, .slice (some ⟨w2.heap.size, 0, none⟩) 1 1, .slice (some ⟨b0, o0, sp⟩) 0 0].toArray 22)).drew ((w2.alloc (.cells #[.int .i64 (ch r), .int .i64 (pa r), .string (ba (nm r)), .float .f64 (rk r)] 28)).alloc (.cells [.slice (some ⟨b0, o0, sp⟩) 0 0, .slice (some ⟨w2.heap.size, 0, none⟩) 1 1, .slice (some ⟨b0, o0, sp⟩) 0 0].toArray 22)).drew.heap.size x.1 (tvs x.2.2) ∧ (x.1 = none → x.2.1 = 0) ∧ x.2.2.length ≤ x.2.1 := by
      intro x hx
      simp only [List.mem_cons, List.not_mem_nil, or_false] at hx
      rcases hx with rfl | rfl | rfl
      ·exact ⟨At.nil _ _ _, fun _ => rfl, Nat.le_refl _⟩
      ·exact ⟨at_one w2 r _, (fun h => by cases h), Nat.le_refl _⟩
      ·exact ⟨At.nil _ _ _, fun _ => rfl, Nat.le_refl _⟩
     have hv : ([.slice (some ⟨b0, o0, sp⟩) 0 0, .slice (some ⟨w2.heap.size, 0, none⟩) 1 1, .slice (some ⟨b0, o0, sp⟩) 0 0] : List Value) = lvs [(some ⟨b0, o0, sp⟩, 0, []), (some ⟨w2.heap.size, 0, none⟩, 1, [r]), (some ⟨b0, o0, sp⟩, 0, [])] := by simp only [lvs, List.map_cons, List.map_nil, List.length_nil, List.length_singleton]
     have hxb := hbw.trans (hX.mono hbw.size)
     have HV := Lib.hid hv
     have HCS := Lib.hid hcs
     have HXB := Lib.hid hxb
     clear hX hcX hcs hv hxb
     go_region_with (go_at_call 47; refine (concat_k (vals := [.slice (some ⟨b0, o0, sp⟩) 0 0, .slice (some ⟨w2.heap.size, 0, none⟩) 1 1, .slice (some ⟨b0, o0, sp⟩) 0 0]) [(some ⟨b0, o0, sp⟩, 0, []), (some ⟨w2.heap.size, 0, none⟩, 1, [r]), (some ⟨b0, o0, sp⟩, 0, [])] rfl HV.out (by rw [← HNN.out]; simp [flatR]) (by simp) HF.out (at_newS w2 _ 22 [.slice (some ⟨b0, o0, sp⟩) 0 0, .slice (some ⟨w2.heap.size, 0, none⟩) 1 1, .slice (some ⟨b0, o0, sp⟩) 0 0] _ rfl) HCS.out).mono ?_; rintro e w9 ⟨A9, c9, rfl, hown, hb9⟩)
     all_goals
      go_wp2_with fail
      go_ret
      exact ⟨A9, c9, rfl, ownsRow_low hown HXB.out.size, HXB.out.trans (hb9.mono HXB.out.size)⟩
    ·have hc0 : ¬ cap = 0 := hcj
     clear hcj
     go_enter Tryz.func25, Tryz.ntmps25
     go_wp2_with fail
     refine (first_k (-1) H1.out hlm HCX.out).mono ?_
     rintro e w1 ⟨rfl, hb1⟩
     have hI := is_below HI0.out hb1 (is_lt HI0.out)
     have hc1 := HCX.out.keep hb1
     have hbw := HBX.out.trans (hb1.mono HBX.out.size)
     obtain ⟨k0, k1, k2, k3⟩ := box4 (r := r) hI
     go_wp2_with fail
     refine (gtc_k (-1) H1B.out hlm hc1 k0).mono ?_
     rintro e w2 ⟨rfl, hb2⟩
     have hI := is_below hI hb2 (is_lt hI)
     have hc1 := hc1.keep hb2
     have hbw := hbw.trans (hb2.mono hbw.size)
     clear k0 k1 k2 k3
     obtain ⟨k0, k1, k2, k3⟩ := box4 (r := r) hI
     have HC1 := Lib.hid hc1
     go_wp2_with fail
     have hX : Below w2.heap.size w2 ((w2.alloc (.cells #[.int .i64 (ch r), .int .i64 (pa r), .string (ba (nm r)), .float .f64 (rk r)] 28)).alloc (.cells [.slice (some ⟨b0, o0, sp⟩) 0 cap, .slice (some ⟨w2.heap.size, 0, none⟩) 1 1, .slice (some ⟨b0, o0, sp⟩) 0 cap].toArray 22)).drew := (((Below.refl _ _).alloc (Nat.le_refl _) _).alloc (by simp) _).drew
     have hcX := HC1.out.keep hX
     have hcs : ∀ x ∈ ([(some ⟨b0, o0, sp⟩, cap, []), (some ⟨w2.heap.size, 0, none⟩, 1, [r]), (some ⟨b0, o0, sp⟩, cap, [])] : List (Option Addr × Nat × List Rw)), At ((w2.alloc (.cells #[.int .i64 (ch r), .int .i64 (pa r), .string (ba (nm r)), .float .f64 (rk r)] 28)).alloc (.cells [.slice (some ⟨b0, o0, sp⟩) 0 cap, .slice (some ⟨w2.heap.size, 0, none⟩) 1 1, .slice (some ⟨b0, o0, sp⟩) 0 cap].toArray 22)).drew ((w2.alloc (.cells #[.int .i64 (ch r), .int .i64 (pa r), .string (ba (nm r)), .float .f64 (rk r)] 28)).alloc (.cells [.slice (some ⟨b0, o0, sp⟩) 0 cap, .slice (some ⟨w2.heap.size, 0, none⟩) 1 1, .slice (some ⟨b0, o0, sp⟩) 0 cap].toArray 22)).drew.heap.size x.1 (tvs x.2.2) ∧ (x.1 = none → x.2.1 = 0) ∧ x.2.2.length ≤ x.2.1 := by
      intro x hx
      simp only [List.mem_cons, List.not_mem_nil, or_false] at hx
      rcases hx with rfl | rfl | rfl
      ·exact ⟨At.nil _ _ _, (fun h => by cases h), Nat.zero_le _⟩
      ·exact ⟨at_one w2 r _, (fun h => by cases h), Nat.le_refl _⟩
      ·exact ⟨At.nil _ _ _, (fun h => by cases h), Nat.zero_le _⟩
     have hv : ([.slice (some ⟨b0, o0, sp⟩) 0 cap, .slice (some ⟨w2.heap.size, 0, none⟩) 1 1, .slice (some ⟨b0, o0, sp⟩) 0 cap] : List Value) = lvs [(some ⟨b0, o0, sp⟩, cap, []), (some ⟨w2.heap.size, 0, none⟩, 1, [r]), (some ⟨b0, o0, sp⟩, cap, [])] := by simp only [lvs, List.map_cons, List.map_nil, List.length_nil, List.length_singleton]
     have hxb := hbw.trans (hX.mono hbw.size)
     have HV := Lib.hid hv
     have HCS := Lib.hid hcs
     have HXB := Lib.hid hxb
     clear hX hcX hcs hv hxb
     go_region_with (go_at_call 47; refine (concat_k (vals := [.slice (some ⟨b0, o0, sp⟩) 0 cap, .slice (some ⟨w2.heap.size, 0, none⟩) 1 1, .slice (some ⟨b0, o0, sp⟩) 0 cap]) [(some ⟨b0, o0, sp⟩, cap, []), (some ⟨w2.heap.size, 0, none⟩, 1, [r]), (some ⟨b0, o0, sp⟩, cap, [])] rfl HV.out (by rw [← HNN.out]; simp [flatR]) (by simp) HF.out (at_newS w2 _ 22 [.slice (some ⟨b0, o0, sp⟩) 0 cap, .slice (some ⟨w2.heap.size, 0, none⟩) 1 1, .slice (some ⟨b0, o0, sp⟩) 0 cap] _ rfl) HCS.out).mono ?_; rintro e w9 ⟨A9, c9, rfl, hown, hb9⟩)
     all_goals
      go_wp2_with fail
      go_ret
      exact ⟨A9, c9, rfl, ownsRow_low hown HXB.out.size, HXB.out.trans (hb9.mono HXB.out.size)⟩
   ·obtain ⟨x0, hx0⟩ : ∃ x0, l[0]? = some x0 := by
     cases l with
     | nil => exact absurd rfl hle
     | cons y ys => exact ⟨y, rfl⟩
    obtain ⟨b1, o1, e1, hb0, -⟩ := row_cells hc hx0
    cases e1
    have hlp : 0 < l.length := (List.getElem?_eq_some_iff.1 hx0).1
    clear hle hx0 hc
    by_cases hcj : cap = l.length
    ·subst hcj
     go_enter Tryz.func25, Tryz.ntmps25
     go_wp2_with fail
     refine (first_k (-1) H1.out hlm HCX.out).mono ?_
     rintro e w1 ⟨rfl, hb1⟩
     have hI := is_below HI0.out hb1 (is_lt HI0.out)
     have hc1 := HCX.out.keep hb1
     have hbw := HBX.out.trans (hb1.mono HBX.out.size)
     obtain ⟨k0, k1, k2, k3⟩ := box4 (r := r) hI
     go_wp2_with fail
     refine (gtc_k (-1) H1B.out hlm hc1 k0).mono ?_
     rintro e w2 ⟨rfl, hb2⟩
     have hI := is_below hI hb2 (is_lt hI)
     have hc1 := hc1.keep hb2
     have hbw := hbw.trans (hb2.mono hbw.size)
     clear k0 k1 k2 k3
     obtain ⟨k0, k1, k2, k3⟩ := box4 (r := r) hI
     have HC1 := Lib.hid hc1
     go_wp2_with fail
     have hX : Below w2.heap.size w2 ((w2.alloc (.cells #[.int .i64 (ch r), .int .i64 (pa r), .string (ba (nm r)), .float .f64 (rk r)] 28)).alloc (.cells [.slice (some ⟨b0, o0, none⟩) l.length l.length, .slice (some ⟨w2.heap.size, 0, none⟩) 1 1, .slice (some ⟨b0, o0, none⟩) 0 0].toArray 22)).drew := (((Below.refl _ _).alloc (Nat.le_refl _) _).alloc (by simp) _).drew
     have hcX := HC1.out.keep hX
     have hcs : ∀ x ∈ ([(some ⟨b0, o0, none⟩, l.length, l), (some ⟨w2.heap.size, 0, none⟩, 1, [r]), (some ⟨b0, o0, none⟩, 0, [])] : List (Option Addr × Nat × List Rw)), At ((w2.alloc (.cells #[.int .i64 (ch r), .int .i64 (pa r), .string (ba (nm r)), .float .f64 (rk r)] 28)).alloc (.cells [.slice (some ⟨b0, o0, none⟩) l.length l.length, .slice (some ⟨w2.heap.size, 0, none⟩) 1 1, .slice (some ⟨b0, o0, none⟩) 0 0].toArray 22)).drew ((w2.alloc (.cells #[.int .i64 (ch r), .int .i64 (pa r), .string (ba (nm r)), .float .f64 (rk r)] 28)).alloc (.cells [.slice (some ⟨b0, o0, none⟩) l.length l.length, .slice (some ⟨w2.heap.size, 0, none⟩) 1 1, .slice (some ⟨b0, o0, none⟩) 0 0].toArray 22)).drew.heap.size x.1 (tvs x.2.2) ∧ (x.1 = none → x.2.1 = 0) ∧ x.2.2.length ≤ x.2.1 := by
      intro x hx
      simp only [List.mem_cons, List.not_mem_nil, or_false] at hx
      rcases hx with rfl | rfl | rfl
      ·exact ⟨hcX, (fun h => by cases h), Nat.le_refl _⟩
      ·exact ⟨at_one w2 r _, (fun h => by cases h), Nat.le_refl _⟩
      ·exact ⟨At.nil _ _ _, fun _ => rfl, Nat.le_refl _⟩
     have hv : ([.slice (some ⟨b0, o0, none⟩) l.length l.length, .slice (some ⟨w2.heap.size, 0, none⟩) 1 1, .slice (some ⟨b0, o0, none⟩) 0 0] : List Value) = lvs [(some ⟨b0, o0, none⟩, l.length, l), (some ⟨w2.heap.size, 0, none⟩, 1, [r]), (some ⟨b0, o0, none⟩, 0, [])] := by simp only [lvs, List.map_cons, List.map_nil, List.length_nil, List.length_singleton]
     have hxb := hbw.trans (hX.mono hbw.size)
     have HV := Lib.hid hv
     have HCS := Lib.hid hcs
     have HXB := Lib.hid hxb
     clear hX hcX hcs hv hxb
     go_region_with (go_at_call 47; refine (concat_k (vals := [.slice (some ⟨b0, o0, none⟩) l.length l.length, .slice (some ⟨w2.heap.size, 0, none⟩) 1 1, .slice (some ⟨b0, o0, none⟩) 0 0]) [(some ⟨b0, o0, none⟩, l.length, l), (some ⟨w2.heap.size, 0, none⟩, 1, [r]), (some ⟨b0, o0, none⟩, 0, [])] rfl HV.out (by rw [← HNN.out]; simp [flatR]) (by simp) HF.out (at_newS w2 _ 22 [.slice (some ⟨b0, o0, none⟩) l.length l.length, .slice (some ⟨w2.heap.size, 0, none⟩) 1 1, .slice (some ⟨b0, o0, none⟩) 0 0] _ rfl) HCS.out).mono ?_; rintro e w9 ⟨A9, c9, rfl, hown, hb9⟩)
     all_goals
      go_wp2_with fail
      go_ret
      exact ⟨A9, c9, rfl, ownsRow_low hown HXB.out.size, HXB.out.trans (hb9.mono HXB.out.size)⟩
    ·have hc0 : ¬ cap = l.length := hcj
     clear hcj
     go_enter Tryz.func25, Tryz.ntmps25
     go_wp2_with fail
     refine (first_k (-1) H1.out hlm HCX.out).mono ?_
     rintro e w1 ⟨rfl, hb1⟩
     have hI := is_below HI0.out hb1 (is_lt HI0.out)
     have hc1 := HCX.out.keep hb1
     have hbw := HBX.out.trans (hb1.mono HBX.out.size)
     obtain ⟨k0, k1, k2, k3⟩ := box4 (r := r) hI
     go_wp2_with fail
     refine (gtc_k (-1) H1B.out hlm hc1 k0).mono ?_
     rintro e w2 ⟨rfl, hb2⟩
     have hI := is_below hI hb2 (is_lt hI)
     have hc1 := hc1.keep hb2
     have hbw := hbw.trans (hb2.mono hbw.size)
     clear k0 k1 k2 k3
     obtain ⟨k0, k1, k2, k3⟩ := box4 (r := r) hI
     have HC1 := Lib.hid hc1
     go_wp2_with fail
     have hX : Below w2.heap.size w2 ((w2.alloc (.cells #[.int .i64 (ch r), .int .i64 (pa r), .string (ba (nm r)), .float .f64 (rk r)] 28)).alloc (.cells [.slice (some ⟨b0, o0, none⟩) l.length cap, .slice (some ⟨w2.heap.size, 0, none⟩) 1 1, .slice (some ⟨b0, o0 + l.length * 4, none⟩) 0 (cap - l.length)].toArray 22)).drew := (((Below.refl _ _).alloc (Nat.le_refl _) _).alloc (by simp) _).drew
     have hcX := HC1.out.keep hX
     have hcs : ∀ x ∈ ([(some ⟨b0, o0, none⟩, cap, l), (some ⟨w2.heap.size, 0, none⟩, 1, [r]), (some ⟨b0, o0 + l.length * 4, none⟩, cap - l.length, [])] : List (Option Addr × Nat × List Rw)), At ((w2.alloc (.cells #[.int .i64 (ch r), .int .i64 (pa r), .string (ba (nm r)), .float .f64 (rk r)] 28)).alloc (.cells [.slice (some ⟨b0, o0, none⟩) l.length cap, .slice (some ⟨w2.heap.size, 0, none⟩) 1 1, .slice (some ⟨b0, o0 + l.length * 4, none⟩) 0 (cap - l.length)].toArray 22)).drew ((w2.alloc (.cells #[.int .i64 (ch r), .int .i64 (pa r), .string (ba (nm r)), .float .f64 (rk r)] 28)).alloc (.cells [.slice (some ⟨b0, o0, none⟩) l.length cap, .slice (some ⟨w2.heap.size, 0, none⟩) 1 1, .slice (some ⟨b0, o0 + l.length * 4, none⟩) 0 (cap - l.length)].toArray 22)).drew.heap.size x.1 (tvs x.2.2) ∧ (x.1 = none → x.2.1 = 0) ∧ x.2.2.length ≤ x.2.1 := by
      intro x hx
      simp only [List.mem_cons, List.not_mem_nil, or_false] at hx
      rcases hx with rfl | rfl | rfl
      ·exact ⟨hcX, (fun h => by cases h), hcap⟩
      ·exact ⟨at_one w2 r _, (fun h => by cases h), Nat.le_refl _⟩
      ·exact ⟨At.nil _ _ _, (fun h => by cases h), Nat.zero_le _⟩
     have hv : ([.slice (some ⟨b0, o0, none⟩) l.length cap, .slice (some ⟨w2.heap.size, 0, none⟩) 1 1, .slice (some ⟨b0, o0 + l.length * 4, none⟩) 0 (cap - l.length)] : List Value) = lvs [(some ⟨b0, o0, none⟩, cap, l), (some ⟨w2.heap.size, 0, none⟩, 1, [r]), (some ⟨b0, o0 + l.length * 4, none⟩, cap - l.length, [])] := by simp only [lvs, List.map_cons, List.map_nil, List.length_nil, List.length_singleton]
     have hxb := hbw.trans (hX.mono hbw.size)
     have HV := Lib.hid hv
     have HCS := Lib.hid hcs
     have HXB := Lib.hid hxb
     clear hX hcX hcs hv hxb
     go_region_with (go_at_call 47; refine (concat_k (vals := [.slice (some ⟨b0, o0, none⟩) l.length cap, .slice (some ⟨w2.heap.size, 0, none⟩) 1 1, .slice (some ⟨b0, o0 + l.length * 4, none⟩) 0 (cap - l.length)]) [(some ⟨b0, o0, none⟩, cap, l), (some ⟨w2.heap.size, 0, none⟩, 1, [r]), (some ⟨b0, o0 + l.length * 4, none⟩, cap - l.length, [])] rfl HV.out (by rw [← HNN.out]; simp [flatR]) (by simp) HF.out (at_newS w2 _ 22 [.slice (some ⟨b0, o0, none⟩) l.length cap, .slice (some ⟨w2.heap.size, 0, none⟩) 1 1, .slice (some ⟨b0, o0 + l.length * 4, none⟩) 0 (cap - l.length)] _ rfl) HCS.out).mono ?_; rintro e w9 ⟨A9, c9, rfl, hown, hb9⟩)
     all_goals
      go_wp2_with fail
      go_ret
      exact ⟨A9, c9, rfl, ownsRow_low hown HXB.out.size, HXB.out.trans (hb9.mono HXB.out.size)⟩
end Go.Proofs.YtkobmnbjeppnaaaGreat
