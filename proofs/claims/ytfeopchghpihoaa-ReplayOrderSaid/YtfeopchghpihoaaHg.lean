/-
  Moves that are run, one behind the other, and their steps: the program's, and the document's.
-/
import Derived.Test.YtfeopchghpihoaaHc
import Derived.Test.YtfeopchghpihoaaHf
namespace Go.Proofs.Ytfeopchghpihoaa
open Go.RowKit Go.IntWalk
open Gr
set_option maxRecDepth 100000
attribute [local go_sem] Oper.semAt_some

theorem lay12_off {w : World} {g o : Nat} {s : Sp} (k : Nat) (h : k ≠ g) : (lay12 w g o s).heap[k]? = w.heap[k]? := by
  unfold lay12
  iterate 12 rw [Below.heap_setCell _ _ _ _ h]
theorem lay12_size {w : World} {g o : Nat} {s : Sp} : (lay12 w g o s).heap.size = w.heap.size := by unfold lay12; simp
/-- an answer of rows and steps -/
def UREnd (l : List Rw) (ss : List Sp) (w : World) (e : Ending) (w' : World) : Prop :=
  ∃ A cap A2 cap2, e = .returned (.tuple #[.slice A l.length cap, .slice A2 ss.length cap2]) ∧ At w' w'.heap.size A (tvs l) ∧ (A = none → cap = 0) ∧ l.length ≤ cap ∧ At w' w'.heap.size A2 (pvs ss) ∧ (A2 = none → cap2 = 0) ∧ ss.length ≤ cap2 ∧ Below w.heap.size w w'
theorem fill_steps {l : List Rw} {ms : List Mv} {k : Nat} {m : Mv} (h : ms[k]? = some m) : (stepsP l (ms.take k) ++ List.replicate (ms.length - k) zs).set k (stepP (allP l (ms.take k)) m) = stepsP l (ms.take (k + 1)) ++ List.replicate (ms.length - (k + 1)) zs := by
  have hk := (List.getElem?_eq_some_iff.1 h).1
  have e : ms.length - k = (ms.length - (k + 1)) + 1 := by omega
  have hl : (stepsP l (ms.take k)).length = k := by rw [stepsP_len, List.length_take]; omega
  rw [e, List.replicate_succ, stepsP_take h, List.set_append_right _ _ (by omega), hl, Nat.sub_self, List.set_cons_zero, List.append_assoc]; rfl
theorem at_grownS {w w1 w2 : World} {A A1 : Option Addr} {l l1 : List Rw} {N base n : Nat} {v : Value} {xs : List Value} (hc : At w w.heap.size A (tvs l)) (h1 : At w1 w1.heap.size A1 (tvs l1)) (hd : (A1 = A ∧ l1 = l) ∨ Rowy N A1 w1)
    (hown : w1.ownsRow base 64 12 v n xs) (hb : w.heap.size ≤ base) (hg : w1.grownBy w2 v.ownBlock) : At w2 w2.heap.size A1 (tvs l1) ∧ (∀ M, Rowy M A1 w1 → Rowy M A1 w2) := by
  have hne : ∀ b, (∃ cs p, w1.heap[b]? = some (.cells cs 59 p)) ∨ b < w.heap.size → some b ≠ v.ownBlock := fun b hb' he => by
    rcases hb' with ⟨cs, p, h⟩ | h
    · rcases hown.2 with ⟨hz, _⟩ | ⟨g, c2, cur, hv, _, hg2, _⟩
      · rw [hz] at he; simp [Value.ownBlock] at he
      · rw [hv] at he
        have : b = g := by simpa [Value.ownBlock] using he
        subst this
        rw [h] at hg2
        simp at hg2
    · have := (hown.lt b he.symm).1
      omega
  refine ⟨fun i u hu => ?_, fun M hM a ha => ?_⟩
  · obtain ⟨b, off, hA, hlt, hcell⟩ := h1 i u hu
    have hx : some b ≠ v.ownBlock := by
      rcases hd with ⟨rfl, rfl⟩ | hf
      · obtain ⟨b', off', hA', hlt', _⟩ := hc i u hu
        rw [hA] at hA'
        cases hA'
        exact hne b (.inr hlt')
      · exact hne b (.inl (hf _ hA).2)
    exact ⟨b, off, hA, Nat.lt_of_lt_of_le hlt hg.size, (cell_same (hg.block b hlt hx) _).trans hcell⟩
  · obtain ⟨h1', cs, p, h2⟩ := hM a ha
    exact ⟨h1', cs, p, (hg.block _ (Array.getElem?_eq_some_iff.1 h2).1 (hne _ (.inl ⟨cs, p, h2⟩))).trans h2⟩
theorem own_none {w : World} {B n size : Nat} {e : TypeId} {A : Option Addr} {cap : Nat} {xs : List Value} (h : w.ownsRow B e size (.slice A n cap) n xs) : A = none → cap = 0 := fun hA => by
  subst hA
  rcases h.2 with ⟨hz, _⟩ | ⟨g, c2, cur, hv, _⟩
  · exact (Value.slice.inj hz).2.2
  · cases hv
theorem pv_eq (s : Sp) : pv s = .agg #[.int .i64 (mc (sm s)), .int .i64 (mr (sm s)), .int .i64 (pa (mw (sm s))), .int .i64 (ch (mw (sm s))), .string (ba (nm (mw (sm s)))), .float .f64 (rk (mw (sm s))), .bool (sd s), .bool (sh s), .int .i64 (ch (so s)), .int .i64 (pa (so s)), .string (ba (nm (so s))), .float .f64 (rk (so s))] := rfl

set_option maxHeartbeats 8000000 in
theorem rurun_c (A A2 : Option Addr) (cap cap2 : Nat) (l : List Rw) (ms : List Mv) (hl : l.length + ms.length ≤ 100000) (hA : A = none → cap = 0) (hcap : l.length ≤ cap)
    (ha : ∀ k, k ≤ ms.length → ∀ (A : Option Addr) (cap : Nat) (a b : Int) (w : World), At w w.heap.size A (tvs (allP l (ms.take k))) → Calls Try.prog 32 #[.slice A (allP l (ms.take k)).length cap, .int .i64 a, .int .i64 b] w fun e W' => e = .returned (.bool (abv (allP l (ms.take k)) a (allP l (ms.take k)).length b)) ∧ Below w.heap.size w W')
    (w : World) (hc : At w w.heap.size A (tvs l)) (hc2 : At w w.heap.size A2 (mvs ms)) :
    Calls Try.prog 39 #[.slice A l.length cap, .slice A2 ms.length cap2] w (UREnd (allP l ms) (stepsP l ms) w) := by
  have HC := Lib.hid hc
  have HC2 := Lib.hid hc2
  have HAB := Lib.hid ha
  have HA := Lib.hid hA
  clear hc hc2 ha hA
  go_enter Try.func39, Try.ntmps39
  go_wp2_with fail
  go_loopw [0, 6, 7] (fun sl v i wr => ∃ (k : Nat) (A' : Option Addr) (cap' : Nat), i = .int .i64 (k : Int) ∧ k ≤ ms.length ∧ sl = .slice A' (allP l (ms.take k)).length cap' ∧ At wr wr.heap.size A' (tvs (allP l (ms.take k))) ∧ (A' = none → cap' = 0) ∧ (allP l (ms.take k)).length ≤ cap' ∧ ((A' = A ∧ allP l (ms.take k) = l) ∨ Rowy w.heap.size A' wr) ∧
      wr.ownsRow w.heap.size 64 12 v k (pvs (stepsP l (ms.take k))) ∧ Below w.heap.size w wr)
    (fun _ _ i _ => ms.length - (intOf i).toNat)
  case atStart => exact ⟨0, A, cap, rfl, Nat.zero_le _, rfl, HC.out, HA.out, hcap, .inl ⟨rfl, rfl⟩, World.ownsRow_nil _ _ _ _, Below.refl _ _⟩
  case round =>
    clear HA hcap
    obtain ⟨k, A', cap', rfl, hk, rfl, hat, hA', hcp, hd, hown, hbw⟩ := hrel
    obtain ⟨Av, cv, rfl, -, -, -⟩ := own_at hown
    have HAT := Lib.hid hat
    have HA' := Lib.hid hA'
    have HBW := Lib.hid hbw
    have HD := Lib.hid hd
    have HOWN := Lib.hid hown
    clear hat hA' hbw hd hown
    by_cases hlt : k < ms.length
    · obtain ⟨m, hm⟩ := some_at hlt
      have hlk : (allP l (ms.take k)).length ≤ 100000 := by have := allP_len l (ms.take k); rw [List.length_take] at this; omega
      obtain ⟨b0, o0, rfl, -, e0, e1, e2, e3, e4, e5⟩ := move_cells (HC2.out.keep HBW.out) hm
      have hk0 : (0 : Int) ≤ (k : Int) := by omega
      have hkl : (k : Int) < (ms.length : Int) := by omega
      have HFS := Lib.hid (stepsP_take (l := l) hm)
      obtain ⟨L, hL⟩ : ∃ L, allP l (ms.take k) = L := ⟨_, rfl⟩
      have hab := HAB.out k hk
      have hst := allP_take (l := l) hm
      have hat := HAT.out
      have hd := HD.out
      rw [hL] at hcp hlk hab hst hat hd ⊢
      have HST := Lib.hid hst
      have HAB2 := Lib.hid hab
      have HL := Lib.hid hL
      have HD2 := Lib.hid hd
      clear hst hab hm hL HAT hd HD
      go_wp2_with fail
      show Calls _ _ #[_, mv m] _ _
      refine (rudo_c A' cap' L m hlk HA'.out hcp (HAB2.out A' cap') _ hat).mono ?_
      rintro e w2 ⟨A3, cap3, rfl, hat3, hn3, hcp3, hb3, hd3⟩
      have hbw2 := HBW.out.trans (hb3.mono HBW.out.size)
      obtain ⟨s, hs⟩ : ∃ s, stepP L m = s := ⟨_, rfl⟩
      rw [hs, pv_eq]
      have hd4 : (A3 = A ∧ doP L m = l) ∨ Rowy w.heap.size A3 w2 := by
        rcases hd3 with ⟨rfl, h2⟩ | h
        · rcases HD2.out with ⟨rfl, h3⟩ | h3
          · exact .inl ⟨rfl, by rw [h2, h3]⟩
          · exact .inr (h3.keep hb3)
        · exact .inr (h.low HBW.out.size)
      have hAl : Below w2.heap.size w2 ((w2.alloc (.cells #[.int .i64 (mc (sm s)), .int .i64 (mr (sm s)), .int .i64 (pa (mw (sm s))), .int .i64 (ch (mw (sm s))), .string (ba (nm (mw (sm s)))), .float .f64 (rk (mw (sm s))), .bool (sd s), .bool (sh s), .int .i64 (ch (so s)), .int .i64 (pa (so s)), .string (ba (nm (so s))), .float .f64 (rk (so s))] 64)).alloc (.cells #[.int .i64 (mc (sm s)), .int .i64 (mr (sm s)), .int .i64 (pa (mw (sm s))), .int .i64 (ch (mw (sm s))), .string (ba (nm (mw (sm s)))), .float .f64 (rk (mw (sm s))), .bool (sd s), .bool (sh s), .int .i64 (ch (so s)), .int .i64 (pa (so s)), .string (ba (nm (so s))), .float .f64 (rk (so s))] 64)) := ((Below.refl _ _).alloc (Nat.le_refl _) _).alloc (by simp) _
      have hown2 := below_ownI (below_ownI HOWN.out hb3) hAl
      have HAT3 := Lib.hid (hat3.keep hAl)
      have HN3 := Lib.hid hn3
      have HD4 := Lib.hid (hd4.imp id fun h => h.keep hAl)
      have HBW2 := Lib.hid (hbw2.trans (hAl.mono hbw2.size))
      have HO := Lib.hid hown2
      have HS := Lib.hid hs
      have hbox : At ((w2.alloc (.cells #[.int .i64 (mc (sm s)), .int .i64 (mr (sm s)), .int .i64 (pa (mw (sm s))), .int .i64 (ch (mw (sm s))), .string (ba (nm (mw (sm s)))), .float .f64 (rk (mw (sm s))), .bool (sd s), .bool (sh s), .int .i64 (ch (so s)), .int .i64 (pa (so s)), .string (ba (nm (so s))), .float .f64 (rk (so s))] 64)).alloc (.cells #[.int .i64 (mc (sm s)), .int .i64 (mr (sm s)), .int .i64 (pa (mw (sm s))), .int .i64 (ch (mw (sm s))), .string (ba (nm (mw (sm s)))), .float .f64 (rk (mw (sm s))), .bool (sd s), .bool (sh s), .int .i64 (ch (so s)), .int .i64 (pa (so s)), .string (ba (nm (so s))), .float .f64 (rk (so s))] 64)) (w2.heap.size + 1 + 1) (some ⟨w2.heap.size + 1, 0, none⟩) (pvs [s]) := fun i u hu =>
        ⟨w2.heap.size + 1, 0, rfl, Nat.lt_succ_self _, by rw [Nat.zero_add]; exact (is_cell (is_newA w2 64 (pvs [s]) _) i).trans hu⟩
      have HBOX := Lib.hid hbox
      have hbs := hbw2.size
      clear hown2 hat3 hn3 hd3 hd4 hbw2 hb3 hs e0 e1 e2 e3 e4 e5 hat hAl hbox
      go_wp2_with (at_builtin; refine append_optS _ rfl _ _ rfl w.heap.size _ _ _ rfl HO.out (some ⟨w2.heap.size + 1, 0, none⟩) 1 [s] rfl (fun h => by cases h) (by simp) (w2.heap.size + 1 + 1) HBOX.out (by simp <;> omega) (by simp <;> omega) ?_)
      intro v2 w3 hown3 hgrow
      have hb3 := below_own HBW2.out (by simp; omega) HO.out hgrow
      have hg3 := at_grownS HC.out HAT3.out HD4.out HO.out (Nat.le_refl _) hgrow
      have HO3 := Lib.hid hown3
      have HG3 := Lib.hid hg3
      obtain ⟨A4, cp4, rfl, -, -, -⟩ := own_at hown3
      clear hown3 hgrow hg3
      go_wp2_with fail
      go_roundw
      case rel =>
        refine ⟨k + 1, A3, cap3, by go_num, by omega, by rw [HST.out], by rw [HST.out]; exact HG3.out.1, HN3.out, by rw [HST.out]; exact hcp3, by rw [HST.out]; exact HD4.out.imp id fun h => HG3.out.2 _ h, ?_, hb3⟩
        rw [HFS.out, HL.out, HS.out]
        exact HO3.out
      case measure => simp only [intOf]; omega
    · obtain rfl : k = ms.length := by omega
      have hat := HAT.out
      have hown := HOWN.out
      rw [List.take_length] at hat hcp
      rw [List.take_length] at hown
      have HOW := Lib.hid hown
      clear hown HOWN HAT
      go_wp2_with fail
      rw [List.take_length]
      refine bodyPost_ret (v := .tuple #[.slice A' (allP l ms).length cap', .slice Av ms.length cv]) (by simp [results, Try.f39, go_sem]) rfl ?_
      have hsl : (stepsP l ms).length = ms.length := stepsP_len l ms
      have hh := HOW.out
      have hn9 := own_none hh
      obtain ⟨A9, c9, hv, ha9, -, hc9⟩ := own_at hh
      cases hv
      exact ⟨A', cap', Av, cv, by rw [hsl], hat, HA'.out, hcp, ha9, hn9, by rw [hsl]; exact hc9, HBW.out⟩
end Go.Proofs.Ytfeopchghpihoaa
