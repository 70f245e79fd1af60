/-
  A row that is dropped: the program's, and the document's.
  A row that is set, in memory of rows that was made since: the document's.
-/
import Derived.Test.YtfeopchghpihoaaTi
section
namespace Go.Proofs.Ytfeopchghpihoaa
open Go.RowKit Go.IntWalk
set_option maxRecDepth 100000
attribute [local go_sem] Oper.semAt_some

set_option maxHeartbeats 4000000 in
theorem drop_c (A : Option Addr) (cap : Nat) (l : List Rw) (c : Int) (hl : l.length ≤ 100000) (hA : A = none → cap = 0) (hcap : l.length ≤ cap) (w : World) (hc : At w w.heap.size A (tvs l)) :
    Calls Try.prog 73 #[.slice A l.length cap, .int .i64 c] w (Fresh_ (dropP l c) w) := by
  have hlm : l.length ≤ maxLen := by unfold maxLen; omega
  rcases plc_drop l c with ⟨h1, h2⟩ | ⟨k, r, h1, hk, h2, hkl⟩
  · rw [h2]
    have H1 := Lib.hid h1
    have HA := Lib.hid hA
    clear h1 h2 hA
    go_enter Try.func73, Try.ntmps73
    go_wp2_with fail
    refine (first_k (-1) H1.out hlm hc).mono ?_
    rintro e w1 ⟨rfl, hb1⟩
    go_wp2_with fail
    refine (clone_c A cap l hl HA.out _ (hc.keep hb1)).mono ?_
    rintro e w2 ⟨A2, c2, rfl, hown, hb2⟩
    go_wp2_with fail
    go_ret
    exact ⟨A2, c2, rfl, ownsRow_low hown hb1.size, hb1.trans (hb2.mono hb1.size)⟩
  · rw [h2]
    obtain ⟨b0, o0, rfl, hb0, -⟩ := row_cells hc hk
    have H1 := Lib.hid h1
    have hF : (l.take k ++ l.drop (k + 1)).length ≤ 200000 := by rw [List.length_append, List.length_take, List.length_drop]; omega
    have hki : (0 : Int) ≤ (k : Int) := by omega
    have hkl2 : (k : Int) < (l.length : Int) := by omega
    have hk1 : (0 : Int) ≤ (k : Int) + 1 := by omega
    have hk2 : (k : Int) + 1 ≤ (l.length : Int) := by omega
    have hk3 : (k : Int) ≤ (cap : Int) := by omega
    have hkw : IntKind.i64.wrap ((k : Int) + 1) = (k : Int) + 1 := IntWalk.i64_in _ (by omega)
    have hk4 : (k : Int) ≤ (k : Int) + 1 := by omega
    have htk : (l.take k).length = k := by rw [List.length_take]; omega
    have hdk : (l.drop (k + 1)).length = l.length - (k + 1) := List.length_drop ..
    obtain ⟨N, hN⟩ : ∃ N, l.take k ++ l.drop (k + 1) = N := ⟨_, rfl⟩
    rw [hN] at hF ⊢
    have HNN := Lib.hid hN
    have HF := Lib.hid hF
    clear h1 h2 hk hA hF hN
    by_cases hcj : cap = k + 1
    · subst hcj
      have hd0 : l.drop (k + 1) = [] := List.drop_of_length_le hcap
      go_enter Try.func73, Try.ntmps73
      go_wp2_with fail
      refine (first_k k H1.out hlm hc).mono ?_
      rintro e w1 ⟨rfl, hb1⟩
      have hc1 := hc.keep hb1
      go_wp2_with fail
      have HC1 := Lib.hid hc1
      clear hc hc1
      have hX : Below w1.heap.size w1 (w1.alloc (.cells [.slice (some ⟨b0, o0, none⟩) k (k + 1), .slice (some ⟨b0, o0, none⟩) 0 0].toArray 22)).drew := ((Below.refl _ _).alloc (Nat.le_refl _) _).drew
      have hcX := HC1.out.keep hX
      have hcs : ∀ x ∈ ([(some ⟨b0, o0, none⟩, k + 1, l.take k), (some ⟨b0, o0, none⟩, 0, [])] : List (Option Addr × Nat × List Rw)), At (w1.alloc (.cells [.slice (some ⟨b0, o0, none⟩) k (k + 1), .slice (some ⟨b0, o0, none⟩) 0 0].toArray 22)).drew (w1.alloc (.cells [.slice (some ⟨b0, o0, none⟩) k (k + 1), .slice (some ⟨b0, o0, none⟩) 0 0].toArray 22)).drew.heap.size x.1 (tvs x.2.2) ∧ (x.1 = none → x.2.1 = 0) ∧ x.2.2.length ≤ x.2.1 := by
        intro x hx
        simp only [List.mem_cons, List.not_mem_nil, or_false] at hx
        rcases hx with rfl | rfl
        · exact ⟨at_takeR hcX k, (fun h => by cases h), by simp only [htk]; omega⟩
        · exact ⟨At.nil _ _ _, fun _ => rfl, Nat.le_refl _⟩
      have hv : ([.slice (some ⟨b0, o0, none⟩) k (k + 1), .slice (some ⟨b0, o0, none⟩) 0 0] : List Value) = lvs [(some ⟨b0, o0, none⟩, k + 1, l.take k), (some ⟨b0, o0, none⟩, 0, [])] := by simp only [lvs, List.map_cons, List.map_nil, htk, List.length_nil]
      have HV := Lib.hid hv
      have HCS := Lib.hid hcs
      clear hX hcX hcs hv
      go_region_with (go_at_call 79; refine (concat_k (vals := [.slice (some ⟨b0, o0, none⟩) k (k + 1), .slice (some ⟨b0, o0, none⟩) 0 0]) [(some ⟨b0, o0, none⟩, k + 1, l.take k), (some ⟨b0, o0, none⟩, 0, [])] rfl HV.out (by rw [← HNN.out]; simp [flatR, hd0]) (by simp) HF.out (at_newR w1 22 [.slice (some ⟨b0, o0, none⟩) k (k + 1), .slice (some ⟨b0, o0, none⟩) 0 0]) HCS.out).mono ?_; rintro e w2 ⟨A2, c2, rfl, hown, hb2⟩)
      all_goals
        go_wp2_with fail
        go_ret
        have hb3 := (hb1.alloc hb1.size (.cells [.slice (some ⟨b0, o0, none⟩) k (k + 1), .slice (some ⟨b0, o0, none⟩) 0 0].toArray 22)).drew.trans (hb2.mono (Nat.le_trans hb1.size (by show w1.heap.size ≤ (w1.alloc _).heap.size; simp)))
        exact ⟨A2, c2, rfl, ownsRow_low hown (Nat.le_trans hb1.size (by show w1.heap.size ≤ (w1.alloc _).heap.size; simp)), hb3⟩
    · have hc0 : ¬ cap = k + 1 := hcj
      clear hcj
      go_enter Try.func73, Try.ntmps73
      go_wp2_with fail
      refine (first_k k H1.out hlm hc).mono ?_
      rintro e w1 ⟨rfl, hb1⟩
      have hc1 := hc.keep hb1
      go_wp2_with fail
      have HC1 := Lib.hid hc1
      clear hc hc1
      have hX : Below w1.heap.size w1 (w1.alloc (.cells [.slice (some ⟨b0, o0, none⟩) k cap, .slice (some ⟨b0, o0 + (k + 1) * 4, none⟩) (l.length - (k + 1)) (cap - (k + 1))].toArray 22)).drew := ((Below.refl _ _).alloc (Nat.le_refl _) _).drew
      have hcX := HC1.out.keep hX
      have hcs : ∀ x ∈ ([(some ⟨b0, o0, none⟩, cap, l.take k), (some ⟨b0, o0 + (k + 1) * 4, none⟩, cap - (k + 1), l.drop (k + 1))] : List (Option Addr × Nat × List Rw)), At (w1.alloc (.cells [.slice (some ⟨b0, o0, none⟩) k cap, .slice (some ⟨b0, o0 + (k + 1) * 4, none⟩) (l.length - (k + 1)) (cap - (k + 1))].toArray 22)).drew (w1.alloc (.cells [.slice (some ⟨b0, o0, none⟩) k cap, .slice (some ⟨b0, o0 + (k + 1) * 4, none⟩) (l.length - (k + 1)) (cap - (k + 1))].toArray 22)).drew.heap.size x.1 (tvs x.2.2) ∧ (x.1 = none → x.2.1 = 0) ∧ x.2.2.length ≤ x.2.1 := by
        intro x hx
        simp only [List.mem_cons, List.not_mem_nil, or_false] at hx
        rcases hx with rfl | rfl
        · exact ⟨at_takeR hcX k, (fun h => by cases h), by simp only [htk]; omega⟩
        · exact ⟨at_dropR hcX (k + 1), (fun h => by cases h), by simp only [hdk]; omega⟩
      have hv : ([.slice (some ⟨b0, o0, none⟩) k cap, .slice (some ⟨b0, o0 + (k + 1) * 4, none⟩) (l.length - (k + 1)) (cap - (k + 1))] : List Value) = lvs [(some ⟨b0, o0, none⟩, cap, l.take k), (some ⟨b0, o0 + (k + 1) * 4, none⟩, cap - (k + 1), l.drop (k + 1))] := by simp only [lvs, List.map_cons, List.map_nil, htk, hdk]
      have HV := Lib.hid hv
      have HCS := Lib.hid hcs
      clear hX hcX hcs hv
      go_region_with (go_at_call 79; refine (concat_k (vals := [.slice (some ⟨b0, o0, none⟩) k cap, .slice (some ⟨b0, o0 + (k + 1) * 4, none⟩) (l.length - (k + 1)) (cap - (k + 1))]) [(some ⟨b0, o0, none⟩, cap, l.take k), (some ⟨b0, o0 + (k + 1) * 4, none⟩, cap - (k + 1), l.drop (k + 1))] rfl HV.out (by rw [← HNN.out]; simp [flatR]) (by simp) HF.out (at_newR w1 22 [.slice (some ⟨b0, o0, none⟩) k cap, .slice (some ⟨b0, o0 + (k + 1) * 4, none⟩) (l.length - (k + 1)) (cap - (k + 1))]) HCS.out).mono ?_; rintro e w2 ⟨A2, c2, rfl, hown, hb2⟩)
      all_goals
        go_wp2_with fail
        go_ret
        have hb3 := (hb1.alloc hb1.size (.cells [.slice (some ⟨b0, o0, none⟩) k cap, .slice (some ⟨b0, o0 + (k + 1) * 4, none⟩) (l.length - (k + 1)) (cap - (k + 1))].toArray 22)).drew.trans (hb2.mono (Nat.le_trans hb1.size (by show w1.heap.size ≤ (w1.alloc _).heap.size; simp)))
        exact ⟨A2, c2, rfl, ownsRow_low hown (Nat.le_trans hb1.size (by show w1.heap.size ≤ (w1.alloc _).heap.size; simp)), hb3⟩
end Go.Proofs.Ytfeopchghpihoaa
end

section
namespace Go.Proofs.Ytfeopchghpihoaa
open Go.RowKit Go.IntWalk
set_option maxRecDepth 100000
attribute [local go_sem] Oper.semAt_some

/-- in memory that was made since, of rows -/
def Rowy (N : Nat) (A : Option Addr) (w : World) : Prop := ∀ a, A = some a → N ≤ a.block ∧ ∃ cs p, w.heap[a.block]? = some (.cells cs 59 p)
theorem Rowy.fresh {N : Nat} {A : Option Addr} {w : World} (h : Rowy N A w) : Fresh N A := fun a ha => (h a ha).1
theorem Rowy.low {N M : Nat} {A : Option Addr} {w : World} (h : Rowy N A w) (hM : M ≤ N) : Rowy M A w := fun a ha => ⟨Nat.le_trans hM (h a ha).1, (h a ha).2⟩
theorem Rowy.same {N : Nat} {A : Option Addr} {w w' : World} (h : Rowy N A w) (hk : ∀ a, A = some a → w'.heap[a.block]? = w.heap[a.block]?) : Rowy N A w' := fun a ha => by
  obtain ⟨h1, cs, p, h2⟩ := h a ha
  exact ⟨h1, cs, p, (hk a ha).trans h2⟩
theorem Rowy.keep {N : Nat} {A : Option Addr} {w w' : World} (h : Rowy N A w) (hb : Below w.heap.size w w') : Rowy N A w' := h.same fun a ha => by
  obtain ⟨_, cs, p, h2⟩ := h a ha
  exact hb.block _ (Array.getElem?_eq_some_iff.1 h2).1
theorem own_rowy {w : World} {B n : Nat} {A : Option Addr} {cap : Nat} {xs : List Value} (h : w.ownsRow B 59 4 (.slice A n cap) n xs) : Rowy B A w := fun a ha => by
  subst ha
  rcases h.2 with ⟨hz, _⟩ | ⟨g, c2, cur, hv, hb, hg, _⟩
  · cases hz
  · cases hv
    exact ⟨hb, cur, _, hg⟩
/-- rows that are told, and lie in memory of rows that was made since -/
def ToldG (l : List Rw) (w : World) (e : Ending) (w' : World) : Prop :=
  ∃ A cap, e = .returned (.slice A l.length cap) ∧ At w' w'.heap.size A (tvs l) ∧ (A = none → cap = 0) ∧ l.length ≤ cap ∧ Below w.heap.size w w' ∧ Rowy w.heap.size A w'
theorem own_toldG {w w' : World} {B : Nat} {l : List Rw} {v : Value} (h : w'.ownsRow B 59 4 v l.length (tvs l)) (hB : w.heap.size ≤ B) (hb : Below w.heap.size w w') : ToldG l w (.returned v) w' := by
  obtain ⟨A, cap, rfl, ha, hf, hc⟩ := own_at h
  refine ⟨A, cap, rfl, ha, fun hA => ?_, hc, hb, (own_rowy h).low hB⟩
  subst hA
  rcases h.2 with ⟨hz, _⟩ | ⟨g, c2, cur, hv, _⟩
  · exact (Value.slice.inj hz).2.2
  · cases hv
set_option maxHeartbeats 4000000 in
theorem rset_at_g (A : Option Addr) (cap : Nat) (l : List Rw) (r : Rw) (k : Nat) (hl : l.length ≤ 100000) (hA : A = none → cap = 0) (hcap : l.length ≤ cap) (hp : plc l (ch r) = (k : Int)) (hk : k < l.length) (w : World) (hc : At w w.heap.size A (tvs l)) :
    Calls Try.prog 96 #[.slice A l.length cap, .agg #[.int .i64 (ch r), .int .i64 (pa r), .string (ba (nm r)), .float .f64 (rk r)]] w (ToldG (l.set k r) w) := by
  have hlm : l.length ≤ maxLen := by unfold maxLen; omega
  have hbx := (Below.refl w.heap.size w).alloc (Nat.le_refl _) (.cells #[.int .i64 (ch r), .int .i64 (pa r), .string (ba (nm r)), .float .f64 (rk r)] 59)
  have hI0 : Is (w.alloc (.cells #[.int .i64 (ch r), .int .i64 (pa r), .string (ba (nm r)), .float .f64 (rk r)] 59)) w.heap.size 59 [.int .i64 (ch r), .int .i64 (pa r), .string (ba (nm r)), .float .f64 (rk r)] := is_new w 59 [.int .i64 (ch r), .int .i64 (pa r), .string (ba (nm r)), .float .f64 (rk r)]
  have hcx := hc.keep hbx
  have HI0 := Lib.hid hI0
  have HCX := Lib.hid hcx
  have HBX := Lib.hid hbx
  have H1 := Lib.hid hp
  have HA := Lib.hid hA
  have HCAP := Lib.hid hcap
  have hki : (0 : Int) ≤ (k : Int) := by omega
  have hkl2 : (k : Int) < (l.length : Int) := by omega
  clear hI0 hcx hbx hp hc hA hcap
  go_enter Try.func96, Try.ntmps96
  go_wp2_with fail
  refine (rplace_k (k : Int) H1.out hlm HCX.out).mono ?_
  rintro e w1 ⟨rfl, hb1⟩
  have hI := is_below HI0.out hb1 (is_lt HI0.out)
  have hbw := HBX.out.trans (hb1.mono HBX.out.size)
  have HC1 := Lib.hid (HCX.out.keep hb1)
  go_wp2_with (at_builtin; refine append_optR _ rfl _ _ rfl w1.heap.size _ 0 [] rfl (made0 _ _ (Nat.le_refl _)) A cap l rfl HA.out HCAP.out w1.heap.size (HC1.out.below ((Below.refl _ _).alloc (Nat.le_refl _) _)) (by omega) (by simp) ?_)
  intro v2 w2 hown hgrow
  have hb2 := below_own ((Below.refl _ _).alloc (Nat.le_refl _) _) (by simp) (made0 w1.heap.size w1 (Nat.le_refl _)) hgrow
  have hlt : 0 < l.length := by omega
  obtain ⟨g, c2, rfl, hg, hc2, -, hfz, hcl⟩ := own_some hown hlt
  obtain ⟨x, hx⟩ := some_at hk
  obtain ⟨q0, q1, q2, q3⟩ := tvs_at hx
  have c0 := hcl _ _ q0
  have c1 := hcl _ _ q1
  have c2 := hcl _ _ q2
  have c3 := hcl _ _ q3
  have f0 := hfz (k * 4)
  have f1 := hfz (k * 4 + 1)
  have f2 := hfz (k * 4 + 2)
  have f3 := hfz (k * 4 + 3)
  have hI2 := is_below hI hb2 (is_lt hI)
  obtain ⟨k0, k1, k2, k3⟩ := box4 (r := r) hI2
  have hne : w.heap.size ≠ g := by have := is_lt hI; omega
  have HOWN := Lib.hid hown
  have HGR := Lib.hid hg
  clear hown hgrow q0 q1 q2 q3 hcl hfz
  go_wp2_with fail
  go_ret
  have h4 := own_set4 r HOWN.out hk
  have hb3 := hbw.trans (hb2.mono hbw.size)
  have hgg : w.heap.size ≤ g := Nat.le_trans hbw.size HGR.out
  have hb4 := (((hb3.setCell (p := ⟨g, k * 4, none⟩) hgg (.int .i64 (ch r))).setCell (p := ⟨g, k * 4 + 1, none⟩) hgg (.int .i64 (pa r))).setCell (p := ⟨g, k * 4 + 2, none⟩) hgg (.string (ba (nm r)))).setCell (p := ⟨g, k * 4 + 3, none⟩) hgg (.float .f64 (rk r))
  refine own_toldG (B := w1.heap.size) ?_ hbw.size hb4
  rw [List.length_set]
  exact h4

set_option maxHeartbeats 8000000 in
theorem rset_new_g (A : Option Addr) (cap : Nat) (l : List Rw) (r : Rw) (hl : l.length ≤ 100000) (hA : A = none → cap = 0) (hcap : l.length ≤ cap) (hp : plc l (ch r) = -1) (w : World) (hc : At w w.heap.size A (tvs l)) :
    Calls Try.prog 96 #[.slice A l.length cap, .agg #[.int .i64 (ch r), .int .i64 (pa r), .string (ba (nm r)), .float .f64 (rk r)]] w (ToldG (setP l r) w) := by
  have hlm : l.length ≤ maxLen := by unfold maxLen; omega
  have hbx := (Below.refl w.heap.size w).alloc (Nat.le_refl _) (.cells #[.int .i64 (ch r), .int .i64 (pa r), .string (ba (nm r)), .float .f64 (rk r)] 59)
  have hI0 : Is (w.alloc (.cells #[.int .i64 (ch r), .int .i64 (pa r), .string (ba (nm r)), .float .f64 (rk r)] 59)) w.heap.size 59 [.int .i64 (ch r), .int .i64 (pa r), .string (ba (nm r)), .float .f64 (rk r)] := is_new w 59 [.int .i64 (ch r), .int .i64 (pa r), .string (ba (nm r)), .float .f64 (rk r)]
  have hcx := hc.keep hbx
  have hstop := fun (j : Nat) => setP_stop (j := j) hp
  obtain ⟨N, hN⟩ : ∃ N, setP l r = N := ⟨_, rfl⟩
  rw [hN] at hstop ⊢
  have HN := Lib.hid hN
  have HST := Lib.hid hstop
  have HI0 := Lib.hid hI0
  have HCX := Lib.hid hcx
  have HBX := Lib.hid hbx
  have H1 := Lib.hid hp
  have HA := Lib.hid hA
  have HCAP := Lib.hid hcap
  clear hI0 hcx hbx hp hc hA hcap hN hstop
  go_enter Try.func96, Try.ntmps96
  go_wp2_with fail
  refine (rplace_k (-1) H1.out hlm HCX.out).mono ?_
  rintro e w1 ⟨rfl, hb1⟩
  have hI := is_below HI0.out hb1 (is_lt HI0.out)
  have hbw := HBX.out.trans (hb1.mono HBX.out.size)
  have HC1 := Lib.hid (HCX.out.keep hb1)
  have HI1 := Lib.hid hI
  obtain ⟨k0, k1, k2, k3⟩ := box4 (r := r) hI
  go_wp2_with fail
  go_loopw [7] (fun i wr => ∃ j : Nat, i = .int .i64 (j : Int) ∧ j ≤ l.length ∧ (∀ x ∈ l.take j, ch x < ch r) ∧ (∃ q, wr = w1.drewN q)) (fun i _ => l.length - (intOf i).toNat)
  case atStart => exact ⟨0, rfl, Nat.zero_le _, fun x hx => by simp at hx, 0, rfl⟩
  case round =>
    obtain ⟨j, rfl, hj, hlo, q, rfl⟩ := hrel
    have HLO := Lib.hid hlo
    clear hlo
    by_cases hlt : j < l.length
    · obtain ⟨x, hx⟩ := some_at hlt
      obtain ⟨b0, o0, rfl, hb0, c0, -⟩ := row_cells HC1.out hx
      have c0q : (w1.drewN q).cell? ⟨b0, o0 + j * 4, none⟩ = some (.int .i64 (ch x)) := c0
      have k0q : (w1.drewN q).cell? ⟨w.heap.size, 0, none⟩ = some (.int .i64 (ch r)) := k0
      have hji : (j : Int) < (l.length : Int) := by omega
      have hj0 : (0 : Int) ≤ (j : Int) := by omega
      have HX := Lib.hid hx
      clear hx
      by_cases hlt2 : ch x < ch r
      · have hd : decide (ch x < ch r) = true := decide_eq_true hlt2
        have HL2 := Lib.hid hlt2
        clear hlt2
        go_wp2_with fail
        go_region
        go_wp2_with fail
        go_roundw
        case rel =>
          refine ⟨j + 1, by go_num, by omega, ?_, ⟨_, rfl⟩⟩
          intro y hy
          rw [List.take_add_one, HX.out, List.mem_append] at hy
          rcases hy with hy | hy
          · exact HLO.out y hy
          · simp at hy; rw [hy]; exact HL2.out
        case measure => simp only [intOf]; omega
      · have hd : decide (ch x < ch r) = false := decide_eq_false hlt2
        have HSS := Lib.hid (HST.out j hj HLO.out (.inr ⟨x, HX.out, by omega⟩))
        have htk : (l.take j).length = j := by rw [List.length_take]; omega
        have hdk : (l.drop j).length = l.length - j := List.length_drop ..
        have HTK := Lib.hid htk
        have HDK := Lib.hid hdk
        have hj2 : (j : Int) ≤ (l.length : Int) := by omega
        have hj3 : (j : Int) ≤ (cap : Int) := by have := HCAP.out; omega
        have hc0 : ¬ cap = j := by have := HCAP.out; omega
        clear htk hdk hlt2
        go_wp2_with fail
        go_region
        go_wp2_with (at_builtin; refine append_optR _ rfl _ _ rfl w1.heap.size _ 0 [] rfl (made0 w1.heap.size (w1.drewN _) (Nat.le_refl _)) (some ⟨b0, o0, none⟩) cap (l.take j) (by rw [HTK.out]; rfl) (fun h => by cases h) (by rw [HTK.out]; have := HCAP.out; omega) w1.heap.size (At.below (at_takeR HC1.out j) ((below_drewN (Below.refl w1.heap.size w1) _).alloc (Nat.le_refl _) _)) (by rw [HTK.out]; omega) (by simp) ?_)
        intro v2 w2 hown hgrow
        have hb2 : Below w1.heap.size w1 w2 := below_own ((below_drewN (Below.refl w1.heap.size w1) _).alloc (Nat.le_refl _) _) (by simp) (made0 w1.heap.size (w1.drewN _) (Nat.le_refl _)) hgrow
        obtain ⟨Av, cv, rfl, -, -, -⟩ := own_at hown
        have hI2 := is_below HI1.out hb2 (is_lt HI1.out)
        clear k0 k1 k2 k3
        obtain ⟨k0, k1, k2, k3⟩ := box4 (r := r) hI2
        have HC2 := Lib.hid (HC1.out.keep hb2)
        have HOWN := Lib.hid hown
        clear hown hgrow
        go_wp2_with (at_builtin; refine append_optR _ rfl _ _ rfl w1.heap.size _ _ _ rfl (HOWN.out.alloc (.cells #[.int .i64 (ch r), .int .i64 (pa r), .string (ba (nm r)), .float .f64 (rk r)] 59)) (some ⟨w2.heap.size, 0, none⟩) 1 [r] rfl (fun h => by cases h) (by simp) (w2.heap.size + 1) (at_box w2 r) (by simp <;> omega) (by have := hb2.size; simp <;> omega) ?_)
        intro v3 w3 hown3 hgrow3
        have hb3 : Below w1.heap.size w1 w3 := below_own (hb2.alloc hb2.size (.cells #[.int .i64 (ch r), .int .i64 (pa r), .string (ba (nm r)), .float .f64 (rk r)] 59)) (by have := hb2.size; simp <;> omega) (HOWN.out.alloc _) hgrow3
        obtain ⟨Aw, cw, rfl, -, -, -⟩ := own_at hown3
        have HC3 := Lib.hid (HC1.out.keep hb3)
        have HOW3 := Lib.hid hown3
        clear hown3 hgrow3
        go_wp2_with (at_builtin; refine append_optR _ rfl _ _ rfl w1.heap.size _ _ _ rfl HOW3.out (some ⟨b0, o0 + j * 4, none⟩) (cap - j) (l.drop j) (by rw [HDK.out]; rfl) (fun h => by cases h) (by rw [HDK.out]; have := HCAP.out; omega) w3.heap.size (at_dropR HC3.out j) (by rw [HDK.out]; omega) hb3.size ?_)
        intro v4 w4 hown4 hgrow4
        have hb4 : Below w1.heap.size w1 w4 := below_own hb3 hb3.size HOW3.out hgrow4
        obtain ⟨Ax, cx, rfl, -, -, -⟩ := own_at hown4
        have HOW4 := Lib.hid hown4
        clear hown4 hgrow4
        go_wp2_with fail
        go_ret
        refine own_toldG (B := w1.heap.size) ?_ hbw.size (hbw.trans (hb4.mono hbw.size))
        have h := HOW4.out
        rw [← HSS.out] at h
        have hn : j + 1 + (l.length - j) = N.length := by have := congrArg List.length HSS.out; simp at this; omega
        show w4.ownsRow _ _ 4 (.slice Ax (j + 1 + (l.length - j)) cx) N.length (tvs N)
        rw [hn] at h ⊢
        exact h
    · obtain rfl : j = l.length := by omega
      have hss := HST.out l.length (Nat.le_refl _) HLO.out (.inl rfl)
      rw [List.take_length, List.drop_length] at hss
      have htk : (l.take l.length).length = l.length := by rw [List.length_take]; omega
      have hdk : (l.drop l.length).length = 0 := by rw [List.length_drop]; omega
      have hdn : l.drop l.length = [] := List.drop_length
      have htn : l.take l.length = l := List.take_length
      have HTK := Lib.hid htk
      have HDK := Lib.hid hdk
      have HDN := Lib.hid hdn
      have HTN := Lib.hid htn
      have hj0 : (0 : Int) ≤ (l.length : Int) := by omega
      have hj3 : (l.length : Int) ≤ (cap : Int) := by have := HCAP.out; omega
      clear htk hdk hdn htn hlt
      rcases A with _ | ⟨b0, o0, sp⟩
      · obtain rfl := HA.out rfl
        obtain rfl : l = [] := List.eq_nil_of_length_eq_zero (by have := HCAP.out; omega)
        rw [List.nil_append] at hss
        have HSS := Lib.hid hss
        clear hss
        go_wp2_with fail
        go_quiet (fail)
        go_wp2_with (at_builtin; refine append_optR _ rfl _ _ rfl w1.heap.size _ 0 [] rfl (made0 w1.heap.size (w1.drewN _) (Nat.le_refl _)) none 0 [] (by rfl) (fun _ => rfl) (by simp) w1.heap.size (At.below (At.nil _ _ _) ((below_drewN (Below.refl w1.heap.size w1) _).alloc (Nat.le_refl _) _)) (by simp) (by simp) ?_)
        intro v2 w2 hown hgrow
        have hb2 : Below w1.heap.size w1 w2 := below_own ((below_drewN (Below.refl w1.heap.size w1) _).alloc (Nat.le_refl _) _) (by simp) (made0 w1.heap.size (w1.drewN _) (Nat.le_refl _)) hgrow
        obtain ⟨Av, cv, rfl, -, -, -⟩ := own_at hown
        have hI2 := is_below HI1.out hb2 (is_lt HI1.out)
        clear k0 k1 k2 k3
        obtain ⟨k0, k1, k2, k3⟩ := box4 (r := r) hI2
        have HC2 := Lib.hid (HC1.out.keep hb2)
        have HOWN := Lib.hid hown
        clear hown hgrow
        go_wp2_with (at_builtin; refine append_optR _ rfl _ _ rfl w1.heap.size _ _ _ rfl (HOWN.out.alloc (.cells #[.int .i64 (ch r), .int .i64 (pa r), .string (ba (nm r)), .float .f64 (rk r)] 59)) (some ⟨w2.heap.size, 0, none⟩) 1 [r] rfl (fun h => by cases h) (by simp) (w2.heap.size + 1) (at_box w2 r) (by simp <;> omega) (by have := hb2.size; simp <;> omega) ?_)
        intro v3 w3 hown3 hgrow3
        have hb3 : Below w1.heap.size w1 w3 := below_own (hb2.alloc hb2.size (.cells #[.int .i64 (ch r), .int .i64 (pa r), .string (ba (nm r)), .float .f64 (rk r)] 59)) (by have := hb2.size; simp <;> omega) (HOWN.out.alloc _) hgrow3
        obtain ⟨Aw, cw, rfl, -, -, -⟩ := own_at hown3
        have HC3 := Lib.hid (HC1.out.keep hb3)
        have HOW3 := Lib.hid hown3
        clear hown3 hgrow3
        go_wp2_with (at_builtin; refine append_optR _ rfl _ _ rfl w1.heap.size _ _ _ rfl HOW3.out none 0 [] (by rfl) (fun _ => rfl) (by simp) w3.heap.size (At.nil _ _ _) (by simp) hb3.size ?_)
        intro v4 w4 hown4 hgrow4
        have hb4 : Below w1.heap.size w1 w4 := below_own hb3 hb3.size HOW3.out hgrow4
        obtain ⟨Ax, cx, rfl, -, -, -⟩ := own_at hown4
        have HOW4 := Lib.hid hown4
        clear hown4 hgrow4
        go_wp2_with fail
        go_ret
        refine own_toldG (B := w1.heap.size) ?_ hbw.size (hbw.trans (hb4.mono hbw.size))
        have h := HOW4.out
        rw [← HSS.out] at h
        have hn : 1 = N.length := by have := congrArg List.length HSS.out; simp at this; omega
        show w4.ownsRow _ _ 4 (.slice Ax (1) cx) N.length (tvs N)
        rw [hn] at h ⊢
        exact h
      · by_cases hle : l = []
        · subst hle
          rw [List.nil_append] at hss
          have HSS := Lib.hid hss
          clear hss
          by_cases hcj : cap = 0
          · subst hcj
            go_wp2_with fail
            go_quiet (fail)
            go_wp2_with (at_builtin; refine append_optR _ rfl _ _ rfl w1.heap.size _ 0 [] rfl (made0 w1.heap.size (w1.drewN _) (Nat.le_refl _)) (some ⟨b0, o0, sp⟩) 0 [] (by rfl) (fun h => by cases h) (by simp) w1.heap.size (At.below (At.nil _ _ _) ((below_drewN (Below.refl w1.heap.size w1) _).alloc (Nat.le_refl _) _)) (by simp) (by simp) ?_)
            intro v2 w2 hown hgrow
            have hb2 : Below w1.heap.size w1 w2 := below_own ((below_drewN (Below.refl w1.heap.size w1) _).alloc (Nat.le_refl _) _) (by simp) (made0 w1.heap.size (w1.drewN _) (Nat.le_refl _)) hgrow
            obtain ⟨Av, cv, rfl, -, -, -⟩ := own_at hown
            have hI2 := is_below HI1.out hb2 (is_lt HI1.out)
            clear k0 k1 k2 k3
            obtain ⟨k0, k1, k2, k3⟩ := box4 (r := r) hI2
            have HC2 := Lib.hid (HC1.out.keep hb2)
            have HOWN := Lib.hid hown
            clear hown hgrow
            go_wp2_with (at_builtin; refine append_optR _ rfl _ _ rfl w1.heap.size _ _ _ rfl (HOWN.out.alloc (.cells #[.int .i64 (ch r), .int .i64 (pa r), .string (ba (nm r)), .float .f64 (rk r)] 59)) (some ⟨w2.heap.size, 0, none⟩) 1 [r] rfl (fun h => by cases h) (by simp) (w2.heap.size + 1) (at_box w2 r) (by simp <;> omega) (by have := hb2.size; simp <;> omega) ?_)
            intro v3 w3 hown3 hgrow3
            have hb3 : Below w1.heap.size w1 w3 := below_own (hb2.alloc hb2.size (.cells #[.int .i64 (ch r), .int .i64 (pa r), .string (ba (nm r)), .float .f64 (rk r)] 59)) (by have := hb2.size; simp <;> omega) (HOWN.out.alloc _) hgrow3
            obtain ⟨Aw, cw, rfl, -, -, -⟩ := own_at hown3
            have HC3 := Lib.hid (HC1.out.keep hb3)
            have HOW3 := Lib.hid hown3
            clear hown3 hgrow3
            go_wp2_with (at_builtin; refine append_optR _ rfl _ _ rfl w1.heap.size _ _ _ rfl HOW3.out (some ⟨b0, o0, sp⟩) 0 [] (by rfl) (fun h => by cases h) (by simp) w3.heap.size (At.nil _ _ _) (by simp) hb3.size ?_)
            intro v4 w4 hown4 hgrow4
            have hb4 : Below w1.heap.size w1 w4 := below_own hb3 hb3.size HOW3.out hgrow4
            obtain ⟨Ax, cx, rfl, -, -, -⟩ := own_at hown4
            have HOW4 := Lib.hid hown4
            clear hown4 hgrow4
            go_wp2_with fail
            go_ret
            refine own_toldG (B := w1.heap.size) ?_ hbw.size (hbw.trans (hb4.mono hbw.size))
            have h := HOW4.out
            rw [← HSS.out] at h
            have hn : 1 = N.length := by have := congrArg List.length HSS.out; simp at this; omega
            show w4.ownsRow _ _ 4 (.slice Ax (1) cx) N.length (tvs N)
            rw [hn] at h ⊢
            exact h
          · have hc0 : ¬ cap = 0 := hcj
            go_wp2_with fail
            go_quiet (fail)
            go_wp2_with (at_builtin; refine append_optR _ rfl _ _ rfl w1.heap.size _ 0 [] rfl (made0 w1.heap.size (w1.drewN _) (Nat.le_refl _)) (some ⟨b0, o0, sp⟩) cap [] (by rfl) (fun h => by cases h) (by simp) w1.heap.size (At.below (At.nil _ _ _) ((below_drewN (Below.refl w1.heap.size w1) _).alloc (Nat.le_refl _) _)) (by simp) (by simp) ?_)
            intro v2 w2 hown hgrow
            have hb2 : Below w1.heap.size w1 w2 := below_own ((below_drewN (Below.refl w1.heap.size w1) _).alloc (Nat.le_refl _) _) (by simp) (made0 w1.heap.size (w1.drewN _) (Nat.le_refl _)) hgrow
            obtain ⟨Av, cv, rfl, -, -, -⟩ := own_at hown
            have hI2 := is_below HI1.out hb2 (is_lt HI1.out)
            clear k0 k1 k2 k3
            obtain ⟨k0, k1, k2, k3⟩ := box4 (r := r) hI2
            have HC2 := Lib.hid (HC1.out.keep hb2)
            have HOWN := Lib.hid hown
            clear hown hgrow
            go_wp2_with (at_builtin; refine append_optR _ rfl _ _ rfl w1.heap.size _ _ _ rfl (HOWN.out.alloc (.cells #[.int .i64 (ch r), .int .i64 (pa r), .string (ba (nm r)), .float .f64 (rk r)] 59)) (some ⟨w2.heap.size, 0, none⟩) 1 [r] rfl (fun h => by cases h) (by simp) (w2.heap.size + 1) (at_box w2 r) (by simp <;> omega) (by have := hb2.size; simp <;> omega) ?_)
            intro v3 w3 hown3 hgrow3
            have hb3 : Below w1.heap.size w1 w3 := below_own (hb2.alloc hb2.size (.cells #[.int .i64 (ch r), .int .i64 (pa r), .string (ba (nm r)), .float .f64 (rk r)] 59)) (by have := hb2.size; simp <;> omega) (HOWN.out.alloc _) hgrow3
            obtain ⟨Aw, cw, rfl, -, -, -⟩ := own_at hown3
            have HC3 := Lib.hid (HC1.out.keep hb3)
            have HOW3 := Lib.hid hown3
            clear hown3 hgrow3
            go_wp2_with (at_builtin; refine append_optR _ rfl _ _ rfl w1.heap.size _ _ _ rfl HOW3.out (some ⟨b0, o0, sp⟩) cap [] (by rfl) (fun h => by cases h) (by simp) w3.heap.size (At.nil _ _ _) (by simp) hb3.size ?_)
            intro v4 w4 hown4 hgrow4
            have hb4 : Below w1.heap.size w1 w4 := below_own hb3 hb3.size HOW3.out hgrow4
            obtain ⟨Ax, cx, rfl, -, -, -⟩ := own_at hown4
            have HOW4 := Lib.hid hown4
            clear hown4 hgrow4
            go_wp2_with fail
            go_ret
            refine own_toldG (B := w1.heap.size) ?_ hbw.size (hbw.trans (hb4.mono hbw.size))
            have h := HOW4.out
            rw [← HSS.out] at h
            have hn : 1 = N.length := by have := congrArg List.length HSS.out; simp at this; omega
            show w4.ownsRow _ _ 4 (.slice Ax (1) cx) N.length (tvs N)
            rw [hn] at h ⊢
            exact h
        have HSS := Lib.hid hss
        clear hss
        obtain ⟨x0, hx0⟩ : ∃ x0, l[0]? = some x0 := some_at (List.length_pos_iff.2 hle)
        obtain ⟨b1, o1, e1, hb0, -⟩ := row_cells HC1.out hx0
        cases e1
        clear hx0
        by_cases hcj : cap = l.length
        · subst hcj
          go_wp2_with fail
          go_quiet (fail)
          go_wp2_with (at_builtin; refine append_optR _ rfl _ _ rfl w1.heap.size _ 0 [] rfl (made0 w1.heap.size (w1.drewN _) (Nat.le_refl _)) (some ⟨b0, o0, none⟩) l.length l (by rfl) (fun h => by cases h) (by exact Nat.le_refl _) w1.heap.size (At.below (HC1.out) ((below_drewN (Below.refl w1.heap.size w1) _).alloc (Nat.le_refl _) _)) (by omega) (by simp) ?_)
          intro v2 w2 hown hgrow
          have hb2 : Below w1.heap.size w1 w2 := below_own ((below_drewN (Below.refl w1.heap.size w1) _).alloc (Nat.le_refl _) _) (by simp) (made0 w1.heap.size (w1.drewN _) (Nat.le_refl _)) hgrow
          obtain ⟨Av, cv, rfl, -, -, -⟩ := own_at hown
          have hI2 := is_below HI1.out hb2 (is_lt HI1.out)
          clear k0 k1 k2 k3
          obtain ⟨k0, k1, k2, k3⟩ := box4 (r := r) hI2
          have HC2 := Lib.hid (HC1.out.keep hb2)
          have HOWN := Lib.hid hown
          clear hown hgrow
          go_wp2_with (at_builtin; refine append_optR _ rfl _ _ rfl w1.heap.size _ _ _ rfl (HOWN.out.alloc (.cells #[.int .i64 (ch r), .int .i64 (pa r), .string (ba (nm r)), .float .f64 (rk r)] 59)) (some ⟨w2.heap.size, 0, none⟩) 1 [r] rfl (fun h => by cases h) (by simp) (w2.heap.size + 1) (at_box w2 r) (by simp <;> omega) (by have := hb2.size; simp <;> omega) ?_)
          intro v3 w3 hown3 hgrow3
          have hb3 : Below w1.heap.size w1 w3 := below_own (hb2.alloc hb2.size (.cells #[.int .i64 (ch r), .int .i64 (pa r), .string (ba (nm r)), .float .f64 (rk r)] 59)) (by have := hb2.size; simp <;> omega) (HOWN.out.alloc _) hgrow3
          obtain ⟨Aw, cw, rfl, -, -, -⟩ := own_at hown3
          have HC3 := Lib.hid (HC1.out.keep hb3)
          have HOW3 := Lib.hid hown3
          clear hown3 hgrow3
          go_wp2_with (at_builtin; refine append_optR _ rfl _ _ rfl w1.heap.size _ _ _ rfl HOW3.out (some ⟨b0, o0, none⟩) 0 [] (by rfl) (fun h => by cases h) (by simp) w3.heap.size (At.nil _ _ _) (by simp <;> omega) hb3.size ?_)
          intro v4 w4 hown4 hgrow4
          have hb4 : Below w1.heap.size w1 w4 := below_own hb3 hb3.size HOW3.out hgrow4
          obtain ⟨Ax, cx, rfl, -, -, -⟩ := own_at hown4
          have HOW4 := Lib.hid hown4
          clear hown4 hgrow4
          go_wp2_with fail
          go_ret
          refine own_toldG (B := w1.heap.size) ?_ hbw.size (hbw.trans (hb4.mono hbw.size))
          have h := HOW4.out
          rw [← HSS.out] at h
          have hn : l.length + 1 = N.length := by have := congrArg List.length HSS.out; simp at this; omega
          show w4.ownsRow _ _ 4 (.slice Ax (l.length + 1) cx) N.length (tvs N)
          rw [hn] at h ⊢
          exact h
        · have hc0 : ¬ cap = l.length := hcj
          go_wp2_with fail
          go_quiet (fail)
          go_wp2_with (at_builtin; refine append_optR _ rfl _ _ rfl w1.heap.size _ 0 [] rfl (made0 w1.heap.size (w1.drewN _) (Nat.le_refl _)) (some ⟨b0, o0, none⟩) cap l (by rfl) (fun h => by cases h) (by exact HCAP.out) w1.heap.size (At.below (HC1.out) ((below_drewN (Below.refl w1.heap.size w1) _).alloc (Nat.le_refl _) _)) (by omega) (by simp) ?_)
          intro v2 w2 hown hgrow
          have hb2 : Below w1.heap.size w1 w2 := below_own ((below_drewN (Below.refl w1.heap.size w1) _).alloc (Nat.le_refl _) _) (by simp) (made0 w1.heap.size (w1.drewN _) (Nat.le_refl _)) hgrow
          obtain ⟨Av, cv, rfl, -, -, -⟩ := own_at hown
          have hI2 := is_below HI1.out hb2 (is_lt HI1.out)
          clear k0 k1 k2 k3
          obtain ⟨k0, k1, k2, k3⟩ := box4 (r := r) hI2
          have HC2 := Lib.hid (HC1.out.keep hb2)
          have HOWN := Lib.hid hown
          clear hown hgrow
          go_wp2_with (at_builtin; refine append_optR _ rfl _ _ rfl w1.heap.size _ _ _ rfl (HOWN.out.alloc (.cells #[.int .i64 (ch r), .int .i64 (pa r), .string (ba (nm r)), .float .f64 (rk r)] 59)) (some ⟨w2.heap.size, 0, none⟩) 1 [r] rfl (fun h => by cases h) (by simp) (w2.heap.size + 1) (at_box w2 r) (by simp <;> omega) (by have := hb2.size; simp <;> omega) ?_)
          intro v3 w3 hown3 hgrow3
          have hb3 : Below w1.heap.size w1 w3 := below_own (hb2.alloc hb2.size (.cells #[.int .i64 (ch r), .int .i64 (pa r), .string (ba (nm r)), .float .f64 (rk r)] 59)) (by have := hb2.size; simp <;> omega) (HOWN.out.alloc _) hgrow3
          obtain ⟨Aw, cw, rfl, -, -, -⟩ := own_at hown3
          have HC3 := Lib.hid (HC1.out.keep hb3)
          have HOW3 := Lib.hid hown3
          clear hown3 hgrow3
          go_wp2_with (at_builtin; refine append_optR _ rfl _ _ rfl w1.heap.size _ _ _ rfl HOW3.out (some ⟨b0, o0 + l.length * 4, none⟩) (cap - l.length) [] (by rfl) (fun h => by cases h) (by simp) w3.heap.size (At.nil _ _ _) (by simp <;> omega) hb3.size ?_)
          intro v4 w4 hown4 hgrow4
          have hb4 : Below w1.heap.size w1 w4 := below_own hb3 hb3.size HOW3.out hgrow4
          obtain ⟨Ax, cx, rfl, -, -, -⟩ := own_at hown4
          have HOW4 := Lib.hid hown4
          clear hown4 hgrow4
          go_wp2_with fail
          go_ret
          refine own_toldG (B := w1.heap.size) ?_ hbw.size (hbw.trans (hb4.mono hbw.size))
          have h := HOW4.out
          rw [← HSS.out] at h
          have hn : l.length + 1 = N.length := by have := congrArg List.length HSS.out; simp at this; omega
          show w4.ownsRow _ _ 4 (.slice Ax (l.length + 1) cx) N.length (tvs N)
          rw [hn] at h ⊢
          exact h

theorem rset_g (A : Option Addr) (cap : Nat) (l : List Rw) (r : Rw) (hl : l.length ≤ 100000) (hA : A = none → cap = 0) (hcap : l.length ≤ cap) (w : World) (hc : At w w.heap.size A (tvs l)) :
    Calls Try.prog 96 #[.slice A l.length cap, .agg #[.int .i64 (ch r), .int .i64 (pa r), .string (ba (nm r)), .float .f64 (rk r)]] w (ToldG (setP l r) w) := by
  rcases set_cases l r with ⟨k, x, h1, _, h2, hk⟩ | ⟨_, _, h1, _⟩ | ⟨h1, _⟩
  · rw [h2, setP_at l r k hk]
    exact rset_at_g A cap l r k hl hA hcap h1 hk w hc
  · exact rset_new_g A cap l r hl hA hcap h1 w hc
  · exact rset_new_g A cap l r hl hA hcap h1 w hc
end Go.Proofs.Ytfeopchghpihoaa
end
