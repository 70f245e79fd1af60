/-
  Moves that are run, one behind the other, and their steps: the program's, and the document's.
-/
import Derived.Test.YtnkckoilhhbllaaHc
import Derived.Test.YtnkckoilhhbllaaHf
namespace Go.Proofs.Ytnkckoilhhbllaa
open Go.RowKit Go.IntWalk
open Gr
set_option maxRecDepth 100000
attribute [local go_sem] Oper.semAt_some

theorem lay12_off {w : World} {g o : Nat} {s : Sp} (k : Nat) (h : k ≠ g) : (lay12 w g o s).heap[k]? = w.heap[k]? := by
  unfold lay12
  iterate 12 rw [Below.heap_setCell _ _ _ _ h]
theorem lay12_size {w : World} {g o : Nat} {s : Sp} : (lay12 w g o s).heap.size = w.heap.size := by unfold lay12; simp
/-- an answer of rows and steps -/
def UREnd (l : List Rw) (ss : List Sp) (w : World) (e : Ending) (w' : World) : Prop :=
  ∃ A cap A2 cap2, e = .returned (.tuple #[.slice A l.length cap, .slice A2 ss.length cap2]) ∧ At w' w'.heap.size A (tvs l) ∧ (A = none → cap = 0) ∧ l.length ≤ cap ∧ At w' w'.heap.size A2 (pvs ss) ∧ (A2 = none → cap2 = 0) ∧ ss.length ≤ cap2 ∧ Below w.heap.size w w'
theorem fill_steps {l : List Rw} {ms : List Mv} {k : Nat} {m : Mv} (h : ms[k]? = some m) : (stepsP l (ms.take k) ++ List.replicate (ms.length - k) zs).set k (stepP (allP l (ms.take k)) m) = stepsP l (ms.take (k + 1)) ++ List.replicate (ms.length - (k + 1)) zs := by
  have hk := (List.getElem?_eq_some_iff.1 h).1
  have e : ms.length - k = (ms.length - (k + 1)) + 1 := by omega
  have hl : (stepsP l (ms.take k)).length = k := by rw [stepsP_len, List.length_take]; omega
  rw [e, List.replicate_succ, stepsP_take h, List.set_append_right _ _ (by omega), hl, Nat.sub_self, List.set_cons_zero, List.append_assoc]; rfl
theorem at_grownS {w w1 w2 : World} {A A1 : Option Addr} {l l1 : List Rw} {N base n : Nat} {v : Value} {xs : List Value} (hc : At w w.heap.size A (tvs l)) (h1 : At w1 w1.heap.size A1 (tvs l1)) (hd : (A1 = A ∧ l1 = l) ∨ Rowy N A1 w1)
    (hown : w1.ownsRow base 51 12 v n xs) (hb : w.heap.size ≤ base) (hg : w1.grownBy w2 v.ownBlock) : At w2 w2.heap.size A1 (tvs l1) ∧ (∀ M, Rowy M A1 w1 → Rowy M A1 w2) := by
  have hne : ∀ b, (∃ cs p, w1.heap[b]? = some (.cells cs 43 p)) ∨ b < w.heap.size → some b ≠ v.ownBlock := fun b hb' he => by
    rcases hb' with ⟨cs, p, h⟩ | h
    · rcases hown.2 with ⟨hz, _⟩ | ⟨g, c2, cur, hv, _, hg2, _⟩
      · rw [hz] at he; simp [Value.ownBlock] at he
      · rw [hv] at he
        have : b = g := by simpa [Value.ownBlock] using he
        subst this
        rw [h] at hg2
        simp at hg2
    · have := (hown.lt b he.symm).1
      omega
  refine ⟨fun i u hu => ?_, fun M hM a ha => ?_⟩
  · obtain ⟨b, off, hA, hlt, hcell⟩ := h1 i u hu
    have hx : some b ≠ v.ownBlock := by
      rcases hd with ⟨rfl, rfl⟩ | hf
      · obtain ⟨b', off', hA', hlt', _⟩ := hc i u hu
        rw [hA] at hA'
        cases hA'
        exact hne b (.inr hlt')
      · exact hne b (.inl (hf _ hA).2)
    exact ⟨b, off, hA, Nat.lt_of_lt_of_le hlt hg.size, (cell_same (hg.block b hlt hx) _).trans hcell⟩
  · obtain ⟨h1', cs, p, h2⟩ := hM a ha
    exact ⟨h1', cs, p, (hg.block _ (Array.getElem?_eq_some_iff.1 h2).1 (hne _ (.inl ⟨cs, p, h2⟩))).trans h2⟩
theorem own_none {w : World} {B n size : Nat} {e : TypeId} {A : Option Addr} {cap : Nat} {xs : List Value} (h : w.ownsRow B e size (.slice A n cap) n xs) : A = none → cap = 0 := fun hA => by
  subst hA
  rcases h.2 with ⟨hz, _⟩ | ⟨g, c2, cur, hv, _⟩
  · exact (Value.slice.inj hz).2.2
  · cases hv
theorem pv_eq (s : Sp) : pv s = .agg #[.int .i64 (mc (sm s)), .int .i64 (mr (sm s)), .int .i64 (pa (mw (sm s))), .int .i64 (ch (mw (sm s))), .string (ba (nm (mw (sm s)))), .float .f64 (rk (mw (sm s))), .bool (sd s), .bool (sh s), .int .i64 (ch (so s)), .int .i64 (pa (so s)), .string (ba (nm (so s))), .float .f64 (rk (so s))] := rfl

set_option maxHeartbeats 8000000 in
theorem murun_c (A A2 : Option Addr) (cap cap2 : Nat) (l : List Rw) (ms : List Mv) (hl : l.length + ms.length ≤ 100000) (hA : A = none → cap = 0) (hcap : l.length ≤ cap)
    (ha : ∀ k, k ≤ ms.length → ∀ (A : Option Addr) (cap : Nat) (a b : Int) (w : World), At w w.heap.size A (tvs (allP l (ms.take k))) → Calls Try.prog 70 #[.slice A (allP l (ms.take k)).length cap, .int .i64 a, .int .i64 b] w fun e W' => e = .returned (.bool (abv (allP l (ms.take k)) a (allP l (ms.take k)).length b)) ∧ Below w.heap.size w W')
    (w : World) (hc : At w w.heap.size A (tvs l)) (hc2 : At w w.heap.size A2 (mvs ms)) :
    Calls Try.prog 43 #[.slice A l.length cap, .slice A2 ms.length cap2] w (UREnd (allP l ms) (stepsP l ms) w) := by
  obtain ⟨i0, hi, hz0, hz1, hz2⟩ := info_parts Try.info51
  have HC := Lib.hid hc
  have HC2 := Lib.hid hc2
  have HAB := Lib.hid ha
  have HA := Lib.hid hA
  have hbx : i0.bytes * ms.length ≤ 281474976710656 := by rw [hz2]; omega
  have hmx : ms.length ≤ maxLen := by unfold maxLen; omega
  clear hc hc2 ha hA
  go_enter Try.func43, Try.ntmps43
  go_wp2_with (at_make; refine wpList_make_full _ rfl _ _ 53 rfl w.heap.size 51 i0 _ 12 Try.underlying53 hi hz0 hz1 .i64 .i64 _ _ ms.length rfl rfl rfl rfl hbx hmx (Nat.le_refl _) ?_; intro w1 hown1 hgrow1)
  rw [made_steps] at hown1
  have HO1 := Lib.hid hown1
  have HG1 := Lib.hid ((Below.refl w.heap.size w).grown hgrow1 (Nat.le_refl _) (fun k hk => by cases hk))
  clear hown1 hgrow1
  go_wp2_with fail
  go_loopw [0, 14] (fun sl i wr => ∃ (k : Nat) (A' : Option Addr) (cap' : Nat), i = .int .i64 (k : Int) ∧ k ≤ ms.length ∧ sl = .slice A' (allP l (ms.take k)).length cap' ∧ At wr wr.heap.size A' (tvs (allP l (ms.take k))) ∧ (A' = none → cap' = 0) ∧ (allP l (ms.take k)).length ≤ cap' ∧ ((A' = A ∧ allP l (ms.take k) = l) ∨ Rowy (w.heap.size + 1) A' wr) ∧
      wr.ownsRow w.heap.size 51 12 (.slice (some ⟨w.heap.size, 0, none⟩) ms.length ms.length) ms.length (pvs (stepsP l (ms.take k) ++ List.replicate (ms.length - k) zs)) ∧ w.heap.size < wr.heap.size ∧ Below w.heap.size w wr)
    (fun _ i _ => ms.length - (intOf i).toNat)
  case atStart => exact ⟨0, A, cap, rfl, Nat.zero_le _, rfl, HC.out.keep HG1.out, HA.out, hcap, .inl ⟨rfl, rfl⟩, by simpa [stepsP] using HO1.out, (HO1.out.lt w.heap.size rfl).2, HG1.out⟩
  case round =>
    clear HA hcap HO1 HG1
    obtain ⟨k, A', cap', rfl, hk, rfl, hat, hA', hcp, hd, hown, hgt, hbw⟩ := hrel
    have HAT := Lib.hid hat
    have HA' := Lib.hid hA'
    have HBW := Lib.hid hbw
    have HD := Lib.hid hd
    have HOWN := Lib.hid hown
    clear hat hA' hbw hd hown
    by_cases hlt : k < ms.length
    · obtain ⟨m, hm⟩ := some_at hlt
      have hlk : (allP l (ms.take k)).length ≤ 100000 := by have := allP_len l (ms.take k); rw [List.length_take] at this; omega
      obtain ⟨b0, o0, rfl, -, e0, e1, e2, e3, e4, e5⟩ := move_cells (HC2.out.keep HBW.out) hm
      have hk0 : (0 : Int) ≤ (k : Int) := by omega
      have hkl : (k : Int) < (ms.length : Int) := by omega
      have HFS := Lib.hid (fill_steps (l := l) hm)
      obtain ⟨L, hL⟩ : ∃ L, allP l (ms.take k) = L := ⟨_, rfl⟩
      have hab := HAB.out k hk
      have hst := allP_take (l := l) hm
      have hat := HAT.out
      have hd := HD.out
      rw [hL] at hcp hlk hab hst hat hd ⊢
      have HST := Lib.hid hst
      have HAB2 := Lib.hid hab
      have HL := Lib.hid hL
      have HD2 := Lib.hid hd
      have hAl : Below wr.heap.size wr (wr.alloc (.cells #[.int .i64 (mc m), .int .i64 (mr m), .int .i64 (pa (mw m)), .int .i64 (ch (mw m)), .string (ba (nm (mw m))), .float .f64 (rk (mw m))] 27)) := (Below.refl _ _).alloc (Nat.le_refl _) _
      have HAL := Lib.hid hAl
      clear hst hab hm hL HAT hd HD hAl
      go_wp2_with fail
      show Calls _ _ #[_, mv m] _ _
      refine (mudo_c A' cap' L m hlk HA'.out hcp (HAB2.out A' cap') _ (hat.keep HAL.out)).mono ?_
      rintro e w2 ⟨A3, cap3, rfl, hat3, hn3, hcp3, hb3, hd3⟩
      have hbr : Below wr.heap.size wr w2 := HAL.out.trans (hb3.mono (by simp))
      have hbw2 := HBW.out.trans (hbr.mono HBW.out.size)
      have hown2 := below_ownI HOWN.out hbr
      obtain ⟨s, hs⟩ : ∃ s, stepP L m = s := ⟨_, rfl⟩
      rw [hs, pv_eq]
      have hd4 : (A3 = A ∧ doP L m = l) ∨ Rowy (w.heap.size + 1) A3 w2 := by
        rcases hd3 with ⟨rfl, h2⟩ | h
        · rcases HD2.out with ⟨rfl, h3⟩ | h3
          · exact .inl ⟨rfl, by rw [h2, h3]⟩
          · exact .inr (h3.keep hbr)
        · exact .inr (h.low (by simp; omega))
      have HAT3 := Lib.hid hat3
      have HN3 := Lib.hid hn3
      have HD4 := Lib.hid hd4
      have HBW2 := Lib.hid hbw2
      have hsz2 := hbr.size
      have HS := Lib.hid hs
      obtain ⟨g, c2', hv, hg, -, -, hfz, hcl⟩ := own_some hown2 (show 0 < ms.length by omega)
      cases hv
      have hlen : (stepsP l (ms.take k) ++ List.replicate (ms.length - k) zs).length = ms.length := by rw [List.length_append, stepsP_len, List.length_take, List.length_replicate]; omega
      obtain ⟨x, hx⟩ := some_at (show k < (stepsP l (ms.take k) ++ List.replicate (ms.length - k) zs).length by rw [hlen]; exact hlt)
      have d0 := hcl (k * 12) _ (pvs_at (i := 0) hx rfl)
      have d1 := hcl _ _ (pvs_at (i := 1) hx rfl)
      have d2 := hcl _ _ (pvs_at (i := 2) hx rfl)
      have d3 := hcl _ _ (pvs_at (i := 3) hx rfl)
      have d4 := hcl _ _ (pvs_at (i := 4) hx rfl)
      have d5 := hcl _ _ (pvs_at (i := 5) hx rfl)
      have d6 := hcl _ _ (pvs_at (i := 6) hx rfl)
      have d7 := hcl _ _ (pvs_at (i := 7) hx rfl)
      have d8 := hcl _ _ (pvs_at (i := 8) hx rfl)
      have d9 := hcl _ _ (pvs_at (i := 9) hx rfl)
      have d10 := hcl _ _ (pvs_at (i := 10) hx rfl)
      have d11 := hcl _ _ (pvs_at (i := 11) hx rfl)
      have f0 := hfz (k * 12)
      have f1 := hfz (k * 12 + 1)
      have f2 := hfz (k * 12 + 2)
      have f3 := hfz (k * 12 + 3)
      have f4 := hfz (k * 12 + 4)
      have f5 := hfz (k * 12 + 5)
      have f6 := hfz (k * 12 + 6)
      have f7 := hfz (k * 12 + 7)
      have f8 := hfz (k * 12 + 8)
      have f9 := hfz (k * 12 + 9)
      have f10 := hfz (k * 12 + 10)
      have f11 := hfz (k * 12 + 11)
      have HO2 := Lib.hid (own_set12 s hown2 hlen.symm hlt)
      clear hown2 hcl hfz hx hlen hat3 hn3 hd3 hd4 hbw2 hbr hb3 hs e0 e1 e2 e3 e4 e5 hat
      go_wp2_with fail
      go_roundw
      case rel =>
        refine ⟨k + 1, A3, cap3, by go_num, by omega, by rw [HST.out], ?_, HN3.out, by rw [HST.out]; exact hcp3, ?_, ?_, ?_, below_lay12 s HBW2.out (Nat.le_refl _)⟩
        · rw [HST.out]
          exact at_two (w2 := lay12 w2 w.heap.size (k * 12) s) HC.out HAT3.out (HD4.out.imp id fun h => h.fresh) (Nat.le_refl _) (Nat.lt_succ_self _) (fun k hk => lay12_off k hk) lay12_size
        · rw [HST.out]
          exact HD4.out.imp id fun h => h.same (w' := lay12 w2 w.heap.size (k * 12) s) fun a ha => lay12_off _ (by have := (h a ha).1; omega)
        · rw [← HFS.out, HL.out, HS.out]; exact HO2.out
        · show w.heap.size < (lay12 w2 w.heap.size (k * 12) s).heap.size
          rw [lay12_size]; omega
      case measure => simp only [intOf]; omega
    · obtain rfl : k = ms.length := by omega
      have hat := HAT.out
      have hown := HOWN.out
      rw [List.take_length] at hat hcp
      rw [List.take_length, Nat.sub_self, List.replicate_zero, List.append_nil] at hown
      have HOW := Lib.hid hown
      clear hown HOWN HAT
      go_wp2_with fail
      rw [List.take_length]
      refine bodyPost_ret (v := .tuple #[.slice A' (allP l ms).length cap', .slice (some ⟨w.heap.size, 0, none⟩) ms.length ms.length]) (by simp [results, Try.f43, go_sem]) rfl ?_
      have hsl : (stepsP l ms).length = ms.length := stepsP_len l ms
      obtain ⟨A9, c9, hv, ha9, hf9, hc9⟩ := own_at HOW.out
      cases hv
      exact ⟨A', cap', some ⟨w.heap.size, 0, none⟩, ms.length, by rw [hsl], hat, HA'.out, hcp, ha9, (fun h => by cases h), by rw [hsl]; exact Nat.le_refl _, HBW.out⟩

set_option maxHeartbeats 8000000 in
theorem rurun_c (A A2 : Option Addr) (cap cap2 : Nat) (l : List Rw) (ms : List Mv) (hl : l.length + ms.length ≤ 100000) (hA : A = none → cap = 0) (hcap : l.length ≤ cap)
    (ha : ∀ k, k ≤ ms.length → ∀ (A : Option Addr) (cap : Nat) (a b : Int) (w : World), At w w.heap.size A (tvs (allP l (ms.take k))) → Calls Try.prog 71 #[.slice A (allP l (ms.take k)).length cap, .int .i64 a, .int .i64 b] w fun e W' => e = .returned (.bool (abv (allP l (ms.take k)) a (allP l (ms.take k)).length b)) ∧ Below w.heap.size w W')
    (w : World) (hc : At w w.heap.size A (tvs l)) (hc2 : At w w.heap.size A2 (mvs ms)) :
    Calls Try.prog 44 #[.slice A l.length cap, .slice A2 ms.length cap2] w (UREnd (allP l ms) (stepsP l ms) w) := by
  have HC := Lib.hid hc
  have HC2 := Lib.hid hc2
  have HAB := Lib.hid ha
  have HA := Lib.hid hA
  clear hc hc2 ha hA
  go_enter Try.func44, Try.ntmps44
  go_wp2_with fail
  go_loopw [0, 6, 7] (fun sl v i wr => ∃ (k : Nat) (A' : Option Addr) (cap' : Nat), i = .int .i64 (k : Int) ∧ k ≤ ms.length ∧ sl = .slice A' (allP l (ms.take k)).length cap' ∧ At wr wr.heap.size A' (tvs (allP l (ms.take k))) ∧ (A' = none → cap' = 0) ∧ (allP l (ms.take k)).length ≤ cap' ∧ ((A' = A ∧ allP l (ms.take k) = l) ∨ Rowy w.heap.size A' wr) ∧
      wr.ownsRow w.heap.size 51 12 v k (pvs (stepsP l (ms.take k))) ∧ Below w.heap.size w wr)
    (fun _ _ i _ => ms.length - (intOf i).toNat)
  case atStart => exact ⟨0, A, cap, rfl, Nat.zero_le _, rfl, HC.out, HA.out, hcap, .inl ⟨rfl, rfl⟩, World.ownsRow_nil _ _ _ _, Below.refl _ _⟩
  case round =>
    clear HA hcap
    obtain ⟨k, A', cap', rfl, hk, rfl, hat, hA', hcp, hd, hown, hbw⟩ := hrel
    obtain ⟨Av, cv, rfl, -, -, -⟩ := own_at hown
    have HAT := Lib.hid hat
    have HA' := Lib.hid hA'
    have HBW := Lib.hid hbw
    have HD := Lib.hid hd
    have HOWN := Lib.hid hown
    clear hat hA' hbw hd hown
    by_cases hlt : k < ms.length
    · obtain ⟨m, hm⟩ := some_at hlt
      have hlk : (allP l (ms.take k)).length ≤ 100000 := by have := allP_len l (ms.take k); rw [List.length_take] at this; omega
      obtain ⟨b0, o0, rfl, -, e0, e1, e2, e3, e4, e5⟩ := move_cells (HC2.out.keep HBW.out) hm
      have hk0 : (0 : Int) ≤ (k : Int) := by omega
      have hkl : (k : Int) < (ms.length : Int) := by omega
      have HFS := Lib.hid (stepsP_take (l := l) hm)
      obtain ⟨L, hL⟩ : ∃ L, allP l (ms.take k) = L := ⟨_, rfl⟩
      have hab := HAB.out k hk
      have hst := allP_take (l := l) hm
      have hat := HAT.out
      have hd := HD.out
      rw [hL] at hcp hlk hab hst hat hd ⊢
      have HST := Lib.hid hst
      have HAB2 := Lib.hid hab
      have HL := Lib.hid hL
      have HD2 := Lib.hid hd
      clear hst hab hm hL HAT hd HD
      go_wp2_with fail
      show Calls _ _ #[_, mv m] _ _
      refine (rudo_c A' cap' L m hlk HA'.out hcp (HAB2.out A' cap') _ hat).mono ?_
      rintro e w2 ⟨A3, cap3, rfl, hat3, hn3, hcp3, hb3, hd3⟩
      have hbw2 := HBW.out.trans (hb3.mono HBW.out.size)
      obtain ⟨s, hs⟩ : ∃ s, stepP L m = s := ⟨_, rfl⟩
      rw [hs, pv_eq]
      have hd4 : (A3 = A ∧ doP L m = l) ∨ Rowy w.heap.size A3 w2 := by
        rcases hd3 with ⟨rfl, h2⟩ | h
        · rcases HD2.out with ⟨rfl, h3⟩ | h3
          · exact .inl ⟨rfl, by rw [h2, h3]⟩
          · exact .inr (h3.keep hb3)
        · exact .inr (h.low HBW.out.size)
      have hAl : Below w2.heap.size w2 ((w2.alloc (.cells #[.int .i64 (mc (sm s)), .int .i64 (mr (sm s)), .int .i64 (pa (mw (sm s))), .int .i64 (ch (mw (sm s))), .string (ba (nm (mw (sm s)))), .float .f64 (rk (mw (sm s))), .bool (sd s), .bool (sh s), .int .i64 (ch (so s)), .int .i64 (pa (so s)), .string (ba (nm (so s))), .float .f64 (rk (so s))] 51)).alloc (.cells #[.int .i64 (mc (sm s)), .int .i64 (mr (sm s)), .int .i64 (pa (mw (sm s))), .int .i64 (ch (mw (sm s))), .string (ba (nm (mw (sm s)))), .float .f64 (rk (mw (sm s))), .bool (sd s), .bool (sh s), .int .i64 (ch (so s)), .int .i64 (pa (so s)), .string (ba (nm (so s))), .float .f64 (rk (so s))] 51)) := ((Below.refl _ _).alloc (Nat.le_refl _) _).alloc (by simp) _
      have hown2 := below_ownI (below_ownI HOWN.out hb3) hAl
      have HAT3 := Lib.hid (hat3.keep hAl)
      have HN3 := Lib.hid hn3
      have HD4 := Lib.hid (hd4.imp id fun h => h.keep hAl)
      have HBW2 := Lib.hid (hbw2.trans (hAl.mono hbw2.size))
      have HO := Lib.hid hown2
      have HS := Lib.hid hs
      have hbox : At ((w2.alloc (.cells #[.int .i64 (mc (sm s)), .int .i64 (mr (sm s)), .int .i64 (pa (mw (sm s))), .int .i64 (ch (mw (sm s))), .string (ba (nm (mw (sm s)))), .float .f64 (rk (mw (sm s))), .bool (sd s), .bool (sh s), .int .i64 (ch (so s)), .int .i64 (pa (so s)), .string (ba (nm (so s))), .float .f64 (rk (so s))] 51)).alloc (.cells #[.int .i64 (mc (sm s)), .int .i64 (mr (sm s)), .int .i64 (pa (mw (sm s))), .int .i64 (ch (mw (sm s))), .string (ba (nm (mw (sm s)))), .float .f64 (rk (mw (sm s))), .bool (sd s), .bool (sh s), .int .i64 (ch (so s)), .int .i64 (pa (so s)), .string (ba (nm (so s))), .float .f64 (rk (so s))] 51)) (w2.heap.size + 1 + 1) (some ⟨w2.heap.size + 1, 0, none⟩) (pvs [s]) := fun i u hu =>
        ⟨w2.heap.size + 1, 0, rfl, Nat.lt_succ_self _, by rw [Nat.zero_add]; exact (is_cell (is_newA w2 51 (pvs [s]) _) i).trans hu⟩
      have HBOX := Lib.hid hbox
      have hbs := hbw2.size
      clear hown2 hat3 hn3 hd3 hd4 hbw2 hb3 hs e0 e1 e2 e3 e4 e5 hat hAl hbox
      go_wp2_with (at_builtin; refine append_optS _ rfl _ _ rfl w.heap.size _ _ _ rfl HO.out (some ⟨w2.heap.size + 1, 0, none⟩) 1 [s] rfl (fun h => by cases h) (by simp) (w2.heap.size + 1 + 1) HBOX.out (by simp <;> omega) (by simp <;> omega) ?_)
      intro v2 w3 hown3 hgrow
      have hb3 := below_own HBW2.out (by simp; omega) HO.out hgrow
      have hg3 := at_grownS HC.out HAT3.out HD4.out HO.out (Nat.le_refl _) hgrow
      have HO3 := Lib.hid hown3
      have HG3 := Lib.hid hg3
      obtain ⟨A4, cp4, rfl, -, -, -⟩ := own_at hown3
      clear hown3 hgrow hg3
      go_wp2_with fail
      go_roundw
      case rel =>
        refine ⟨k + 1, A3, cap3, by go_num, by omega, by rw [HST.out], by rw [HST.out]; exact HG3.out.1, HN3.out, by rw [HST.out]; exact hcp3, by rw [HST.out]; exact HD4.out.imp id fun h => HG3.out.2 _ h, ?_, hb3⟩
        rw [HFS.out, HL.out, HS.out]
        exact HO3.out
      case measure => simp only [intOf]; omega
    · obtain rfl : k = ms.length := by omega
      have hat := HAT.out
      have hown := HOWN.out
      rw [List.take_length] at hat hcp
      rw [List.take_length] at hown
      have HOW := Lib.hid hown
      clear hown HOWN HAT
      go_wp2_with fail
      rw [List.take_length]
      refine bodyPost_ret (v := .tuple #[.slice A' (allP l ms).length cap', .slice Av ms.length cv]) (by simp [results, Try.f44, go_sem]) rfl ?_
      have hsl : (stepsP l ms).length = ms.length := stepsP_len l ms
      have hh := HOW.out
      have hn9 := own_none hh
      obtain ⟨A9, c9, hv, ha9, -, hc9⟩ := own_at hh
      cases hv
      exact ⟨A', cap', Av, cv, by rw [hsl], hat, HA'.out, hcp, ha9, hn9, by rw [hsl]; exact hc9, HBW.out⟩
end Go.Proofs.Ytnkckoilhhbllaa
