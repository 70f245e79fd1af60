/-
  Encode of runs, the program's and the document's.
-/
import Derived.Test.YtiehmeheilfocaaQd
import Derived.Test.YtiehmeheilfocaaRj
import Derived.Deep.RegionHeld3
namespace Go.Proofs.Ytiehmeheilfocaa
open Go.RowKit Go.IntWalk
open Pk
set_option maxRecDepth 100000
attribute [local go_sem] Oper.semAt_some

/-- WriteString, and a block of another type than the buffer's beside it -/
theorem copyCheck_box (B b : Nat) (l : List UInt8) (w : World) (h : Bld w B b l) :
    Calls Try.prog 65 #[.pointer (some ⟨b, 0, none⟩)] w fun e w' => e = .returned (.tuple #[]) ∧
      (∃ v, w'.heap[b]? = some (.cells #[.pointer (some ⟨b, 0, none⟩), v] 65 (0, 0)) ∧ w'.ownsRow B 5 1 v l.length (bcs l) ∧ v.ownBlock ≠ some b) ∧ But B b w w' ∧ ∀ k, k ≠ b → w'.heap[k]? = w.heap[k]? := by
  obtain ⟨p, v, hp, hk, ho, hn⟩ := h
  rcases hp with rfl | rfl
  · refine (copyCheck_fresh b w (by rw [Lib.cell_of_heap hk]; rfl) (by simp [World.shape?, hk]) (Lib.frozen_of_heap hk 0)).mono ?_
    rintro e w' ⟨rfl, rfl⟩
    refine ⟨rfl, ⟨v, ?_, ?_, hn⟩, (But.refl B b w).set 0 _, fun k hk => Below.heap_setCell _ _ _ _ hk⟩
    · simp [World.setCell, Array.getElem?_modify, hk]
    · exact ho.kept (row := some b) ⟨rfl, rfl, rfl, by simp [World.setCell], fun k _ hk => Below.heap_setCell _ _ _ _ (fun e => hk (by simp [e]))⟩ (Or.inr hn)
  · refine (copyCheck_used b w (by rw [Lib.cell_of_heap hk]; rfl)).mono ?_
    rintro e w' ⟨rfl, rfl⟩
    exact ⟨rfl, ⟨v, hk, ho, hn⟩, But.refl B b _, fun _ _ => rfl⟩

set_option maxHeartbeats 2000000 in
theorem write_box (B b R : Nat) (cs : Array Value) (l s : List UInt8) (w : World) (h : Bld w B b l) (hlen : l.length + s.length ≤ 140737488355328) (hBw : B ≤ w.heap.size) (hR : w.heap[R]? = some (.cells cs 100 (0, 0))) (hRb : R ≠ b) :
    Calls Try.prog 44 #[.pointer (some ⟨b, 0, none⟩), .string (ba s)] w fun e w' => e = .returned (.tuple #[.int .i64 s.length, .nilIface]) ∧ Bld w' B b (l ++ s) ∧ But B b w w' ∧ w'.heap[R]? = w.heap[R]? := by
  obtain ⟨i0, hi, hz0, hz1, hz2⟩ := info_parts Try.info5
  have hsz := ba_size s
  go_enter Try.func44, Try.ntmps44
  go_wp2_with (go_at_call 65; refine (copyCheck_box B b l _ h).mono ?_)
  rintro e w1 ⟨rfl, h1, hb1, hall⟩
  obtain ⟨v, hbk, hown, hne⟩ := h1
  have hR1 := hall R hRb
  have hneR : v.ownBlock ≠ some R := Lib.ownBlock_ne hown (hR1.trans hR) (by decide)
  have hRlt : R < w1.heap.size := (Array.getElem?_eq_some_iff.1 (hR1.trans hR)).1
  have c0 : w1.cell? ⟨b, 0, none⟩ = some (.pointer (some ⟨b, 0, none⟩)) := by rw [Lib.cell_of_heap hbk]; rfl
  have c1 : w1.cell? ⟨b, 1, none⟩ = some v := by rw [Lib.cell_of_heap hbk]; rfl
  have hbl := bcs_len l
  clear hall
  have HR1 := Lib.hid hR1
  clear hR1 hR
  go_wp2_with (at_builtin; refine Lib.wpList_append_own_string _ rfl _ _ 63 9 rfl B 5 i0 Try.underlying63 Try.underlying9 hi hz0 hz1 hz2 _ _ _ rfl hown (ba s) rfl ?c3 ?c4 ?c5 ?_)
  case c3 => unfold maxLen; omega
  case c4 => omega
  case c5 => have := hb1.size; omega
  intro v' w2 hown' hgrow _
  have hR2 : w2.heap[R]? = w.heap[R]? := (hgrow.block R hRlt (fun e => hneR e.symm)).trans HR1.out
  have hlt : b < w1.heap.size := (Array.getElem?_eq_some_iff.1 hbk).1
  have hb2 : w2.heap[b]? = some (.cells #[.pointer (some ⟨b, 0, none⟩), v] 65 (0, 0)) := by
    rw [hgrow.block b hlt (fun e => hne e.symm)]
    exact hbk
  have d0 : w2.cell? ⟨b, 0, none⟩ = some (.pointer (some ⟨b, 0, none⟩)) := by rw [Lib.cell_of_heap hb2]; rfl
  have d1 : w2.cell? ⟨b, 1, none⟩ = some v := by rw [Lib.cell_of_heap hb2]; rfl
  have f1 : w2.frozen? ⟨b, 1, none⟩ = false := Lib.frozen_of_heap hb2 1
  obtain ⟨ao, n', cap, rfl⟩ : ∃ ao n' cap, v' = .slice ao n' cap := by
    rcases hown'.2 with ⟨hv, _⟩ | ⟨g, cap, cur, hv, _⟩
    · exact ⟨_, _, _, hv⟩
    · exact ⟨_, _, _, hv⟩
  have hbelow : But B b w w2 := hb1.trans ⟨hgrow.os, hgrow.tape, hgrow.output, hgrow.size, fun k hk _ => hgrow.block k (by have := hb1.size; omega) (fun e => by have := (hown.lt k e.symm).1; omega)⟩
  have e1 : bcs (l ++ s) = bcs l ++ Lib.strCells (ba s) := by simp [bcs, Lib.strCells, ba, bc]
  have hown2 : w2.ownsRow B 5 1 (.slice ao n' cap) (l ++ s).length (bcs (l ++ s)) := by rw [e1, List.length_append]; exact hown'
  have hne2 := Lib.ownBlock_ne hown2 hb2 (by decide)
  have hput : Bld (w2.setCell ⟨b, 1, none⟩ (.slice ao n' cap)) B b (l ++ s) := by
    refine ⟨_, _, .inr rfl, ?_, ?_, hne2⟩
    · simp [World.setCell, Array.getElem?_modify, hb2]
    · exact hown2.kept (row := some b) ⟨rfl, rfl, rfl, by simp [World.setCell], fun k _ hk => Below.heap_setCell _ _ _ _ (fun e => hk (by simp [e]))⟩ (Or.inr hne2)
  have HR2 := Lib.hid hR2
  clear hbk hown hown' hgrow hb2 c0 c1 e1 hown2 hne2 hR2 hneR hRlt
  go_wp2
  go_ret2
  exact ⟨rfl, hput, hbelow.set 1 _, (Below.heap_setCell _ _ _ _ hRb).trans HR2.out⟩

theorem But.alloc' {B b : Nat} {w w' : World} (h : But B b w w') (o : Obj) (hB : B ≤ w'.heap.size) : But B b w (w'.alloc o) :=
  ⟨h.os, h.tape, h.output, Nat.le_trans h.size (by simp), fun k hk hb => (Below.heap_alloc _ _ _ (by omega)).trans (h.block k hk hb)⟩
theorem bld_alloc {w : World} {B b : Nat} {l : List UInt8} (h : Bld w B b l) (o : Obj) : Bld (w.alloc o) B b l := bld_grown h ((Below.refl _ _).alloc (Nat.le_refl _) o)
theorem encR_take {r : List Run} {k v q : Nat} (h : r[k]? = some (v, (q : Int))) : encR (r.take (k + 1)) = encR (r.take k) ++ put v ++ put q := by
  rw [List.take_add_one, h, encR_app]
  simp [encR]
theorem fits_take {r : List Run} (h : Fits r) (k : Nat) : Fits (r.take k) := fun x hx => h x (List.mem_of_mem_take hx)

set_option maxHeartbeats 2000000 in
theorem uencode_c (A : Option Addr) (cap : Nat) (xs : List Nat) (hx : xs.length ≤ 100000) (hxn : Nums xs) (w : World) (hc : At w w.heap.size A (uvs xs)) :
    Calls Try.prog 56 #[.slice A xs.length cap] w fun e w' => e = .returned (.string (ba (encU xs))) ∧ Below w.heap.size w w' := by
  have hfit := runs_fits hxn (by omega)
  have hrl := runs_len xs
  have hrin := fun x => @runs_in xs x
  have HC := Lib.hid hc
  unfold encU
  go_enter Try.func56, Try.ntmps56
  go_wp2_with fail
  have h0 : Below w.heap.size w (w.alloc (.cells #[.pointer none, .slice none 0 0] 65)) := (Below.refl _ _).alloc (Nat.le_refl _) _
  refine (runs_c A cap xs hx _ ((HC.out.below h0).mono (by simp))).mono ?_
  rintro e w1 ⟨A', cap', rfl, -, hfr, hat, hb1⟩
  have hbld0 := bld_grown (bld_new w w1.heap.size) hb1
  have hbb : But w1.heap.size w.heap.size w1 w1 := But.refl _ _ _
  rw [World.size_alloc] at hfr hb1
  have hb01 := h0.trans (hb1.mono (Nat.le_succ _))
  have hsz1 : w.heap.size < w1.heap.size := by have := hb1.size; simp at this; omega
  obtain ⟨D, hD⟩ : ∃ D, D = runsL xs := ⟨_, rfl⟩
  have hdl2 : D.length ≤ 100000 := by rw [hD]; omega
  rw [← hD] at hat hfit hrin ⊢
  have HD := Lib.hid hD
  have HAT := Lib.hid hat
  have HFR := Lib.hid hfr
  have HFIT := Lib.hid hfit
  have HIN := Lib.hid hrin
  clear hD hat hfr h0 hb1 hc hfit hrin hrl hxn
  go_wp2_with fail
  go_loopw [9] (fun i wr => ∃ k : Nat, i = .int .i64 (k : Int) ∧ k ≤ D.length ∧ Bld wr w1.heap.size w.heap.size (encR (D.take k)) ∧ But w1.heap.size w.heap.size w1 wr) (fun i _ => D.length - (intOf i).toNat)
  case atStart => exact ⟨0, rfl, Nat.zero_le _, hbld0, hbb⟩
  case round =>
    clear hbld0 hbb
    obtain ⟨k, rfl, hk, hbld, hbut⟩ := hrel
    by_cases hlt : k < D.length
    · obtain ⟨⟨v, c⟩, hxk⟩ := some_at hlt
      have hci := HIN.out _ (mem_at hxk)
      have hfv := HFIT.out _ (mem_at hxk)
      dsimp only at hci hfv
      obtain ⟨q, rfl⟩ := Int.eq_ofNat_of_zero_le (show 0 ≤ c by omega)
      rw [Int.toNat_natCast] at hfv
      have hq1 : q ≤ 100000 := by omega
      obtain ⟨b, off, rfl, hbl, hcv0, hcc0⟩ := run_cells HAT.out hxk
      dsimp only at hcv0 hcc0
      have hne : b ≠ w.heap.size := by have := HFR.out _ rfl; simp at this; omega
      have hcv : wr.cell? ⟨b, off + k * 2, none⟩ = some (.int .u64 (v : Int)) := (but_cell hbut (p := ⟨b, off + k * 2, none⟩) hbl hne).trans hcv0
      have hcc : wr.cell? ⟨b, off + k * 2 + 1, none⟩ = some (.int .i64 (q : Int)) := (but_cell hbut (p := ⟨b, off + k * 2 + 1, none⟩) hbl hne).trans hcc0
      have hvl := put_len10 hfv.1
      have hql := put_len10 hfv.2
      have hde := (encR_len (fits_take HFIT.out k)).2
      rw [List.length_take] at hde
      have hle : (encR (D.take k)).length + (put v).length ≤ 140737488355328 := by omega
      have hle2 : (encR (D.take k) ++ put v).length + (put q).length ≤ 140737488355328 := by rw [List.length_append]; omega
      have hws := hbut.size
      have HX := Lib.hid hxk
      have HV := Lib.hid hfv
      have hbR := bld_lt hbld
      clear hcv0 hcc0 hxk hvl hql hde hfv hci
      go_wp2_with fail
      refine (put_c v HV.out.1 _).mono ?_
      rintro e w2 ⟨rfl, hb2⟩
      have hR2 : w2.heap[wr.heap.size]? = some (.cells #[.int .u64 (v : Int), .int .i64 (q : Int)] 100 (0, 0)) := (hb2.block _ (by simp)).trans (heap_alloc_new wr _)
      have hbW := (But.refl w1.heap.size w.heap.size wr).alloc' (.cells #[.int .u64 (v : Int), .int .i64 (q : Int)] 100) hws
      have hbld2 := bld_grown (bld_alloc hbld (.cells #[.int .u64 (v : Int), .int .i64 (q : Int)] 100)) hb2
      have hbut2 := hbut.trans (hbW.trans (but_below (b := w.heap.size) (hb2.mono (by simp; omega))))
      have hws2 : w1.heap.size ≤ w2.heap.size := hbut2.size
      have hRb : wr.heap.size ≠ w.heap.size := by omega
      clear hbld hbut hb2 hbW hcv hcc hws
      go_wp2_with fail
      refine (write_box w1.heap.size w.heap.size wr.heap.size _ _ (put v) _ hbld2 hle hws2 hR2 hRb).mono ?_
      rintro e w3 ⟨rfl, hbld3, hbut3, hR3⟩
      have hR3' := hR3.trans hR2
      have hbut3' := hbut2.trans hbut3
      have hcq : w3.cell? ⟨wr.heap.size, 1, none⟩ = some (.int .i64 (q : Int)) := by rw [Lib.cell_of_heap hR3']; rfl
      have hws3 : w1.heap.size ≤ w3.heap.size := hbut3'.size
      have hRlt3 : wr.heap.size < w3.heap.size := (Array.getElem?_eq_some_iff.1 hR3').1
      clear hbld2 hbut2 hbut3 hR3 hR2 hws2
      go_wp2_with fail
      refine (put_c q HV.out.2 _).mono ?_
      rintro e w4 ⟨rfl, hb4⟩
      have hbld4 := bld_grown hbld3 hb4
      have hbut4 := hbut3'.trans (but_below (b := w.heap.size) (hb4.mono hws3))
      have hws4 : w1.heap.size ≤ w4.heap.size := hbut4.size
      clear hbld3 hbut3' hb4 hcq hR3' hRlt3 hws3
      go_wp2_with fail
      refine (write_c w1.heap.size w.heap.size _ (put q) _ hbld4 hle2 hws4).mono ?_
      rintro e w5 ⟨rfl, hbld5, hbut5⟩
      have hbut6 := hbut4.trans hbut5
      clear hbld4 hbut4 hbut5 hws4
      go_wp2_with fail
      go_roundw
      case rel => exact ⟨k + 1, by go_num, by omega, by rw [encR_take HX.out]; exact hbld5, hbut6⟩
      case measure => simp only [intOf]; omega
    · obtain rfl : k = D.length := by omega
      rw [List.take_length] at hbld
      go_wp2_with fail
      refine (string_c w1.heap.size w.heap.size w.heap.size _ _ hbld (Nat.le_of_lt hsz1) (Nat.le_refl _)).mono ?_
      rintro e w3 ⟨rfl, hb3⟩
      go_wp2
      go_ret
      rw [← HD.out]
      exact ⟨rfl, (hb01.trans (hbut.below (Nat.le_of_lt hsz1) (Nat.le_refl _))).trans hb3⟩

theorem run_keep {b o o2 : Nat} {x y : Value} {w1 W W' : World} (hbl : b < w1.heap.size) (h : W.cell? ⟨b, o, none⟩ = some x ∧ W.cell? ⟨b, o2, none⟩ = some y ∧ Below w1.heap.size w1 W) (hm : Below W.heap.size W W') : W'.cell? ⟨b, o, none⟩ = some x ∧ W'.cell? ⟨b, o2, none⟩ = some y ∧ Below w1.heap.size w1 W' :=
  have hs := Nat.lt_of_lt_of_le hbl h.2.2.size
  ⟨(hm.cell (p := ⟨b, o, none⟩) hs).trans h.1, (hm.cell (p := ⟨b, o2, none⟩) hs).trans h.2.1, h.2.2.trans (hm.mono h.2.2.size)⟩
theorem run_drew {b o o2 : Nat} {x y : Value} {w1 W : World} (hbl : b < w1.heap.size) (h : W.cell? ⟨b, o, none⟩ = some x ∧ W.cell? ⟨b, o2, none⟩ = some y ∧ Below w1.heap.size w1 W) : W.drew.cell? ⟨b, o, none⟩ = some x ∧ W.drew.cell? ⟨b, o2, none⟩ = some y ∧ Below w1.heap.size w1 W.drew :=
  run_keep hbl h (Below.refl _ _).drew

set_option maxHeartbeats 4000000 in
theorem urencode_c (A : Option Addr) (cap : Nat) (xs : List Nat) (hx : xs.length ≤ 100000) (hxn : Nums xs) (w : World) (hc : At w w.heap.size A (uvs xs)) :
    Calls Try.prog 58 #[.slice A xs.length cap] w fun e w' => e = .returned (.string (ba (encU xs))) ∧ Below w.heap.size w w' := by
  have hfit := runs_fits hxn (by omega)
  have hrl := runs_len xs
  have hrin := fun x => @runs_in xs x
  have HC := Lib.hid hc
  unfold encU
  go_enter Try.func58, Try.ntmps58
  go_wp2_with fail
  refine (rruns_c A cap xs hx _ HC.out).mono ?_
  rintro e w1 ⟨A', cap', rfl, -, -, hat, hb1⟩
  obtain ⟨D, hD⟩ : ∃ D, D = runsL xs := ⟨_, rfl⟩
  have hdl2 : D.length ≤ 100000 := by rw [hD]; omega
  rw [← hD] at hat hfit hrin ⊢
  have HD := Lib.hid hD
  have HAT := Lib.hid hat
  have HFIT := Lib.hid hfit
  have HIN := Lib.hid hrin
  clear hD hat hc hfit hrin hrl hxn
  go_wp2_with fail
  go_loopw [4, 5] (fun s i wr => ∃ k : Nat, s = .string (ba (encR (D.take k))) ∧ i = .int .i64 (k : Int) ∧ k ≤ D.length ∧ Below w1.heap.size w1 wr) (fun _ i _ => D.length - (intOf i).toNat)
  case atStart => exact ⟨0, rfl, rfl, Nat.zero_le _, Below.refl _ _⟩
  case round =>
    obtain ⟨k, rfl, rfl, hk, hb⟩ := hrel
    by_cases hlt : k < D.length
    · obtain ⟨⟨v, c⟩, hxk⟩ := some_at hlt
      have hci := HIN.out _ (mem_at hxk)
      have hfv := HFIT.out _ (mem_at hxk)
      dsimp only at hci hfv
      obtain ⟨q, rfl⟩ := Int.eq_ofNat_of_zero_le (show 0 ≤ c by omega)
      rw [Int.toNat_natCast] at hfv
      have hq1 : q ≤ 100000 := by omega
      have hqw : IntKind.u64.wrap (q : Int) = (q : Int) := by rw [IntKind.wrap_u64]; omega
      obtain ⟨b, off, rfl, hbl, hcv, hcc⟩ := run_cells (HAT.out.below hb) hxk
      dsimp only at hcv hcc
      have hvl := put_len10 hfv.1
      have hql := put_len10 hfv.2
      have hde := (encR_len (fits_take HFIT.out k)).2
      rw [List.length_take] at hde
      have hadd := add_ba (encR (D.take k)) (put v) (by omega)
      have hadd2 := add_ba (encR (D.take k) ++ put v) (put q) (by rw [List.length_append]; omega)
      have HX := Lib.hid hxk
      have HV := Lib.hid hfv
      have HS := Lib.hid (show wr.cell? ⟨b, off + k * 2, none⟩ = some (.int .u64 (v : Int)) ∧ wr.cell? ⟨b, off + k * 2 + 1, none⟩ = some (.int .i64 (q : Int)) ∧ Below w1.heap.size w1 wr from ⟨hcv, hcc, hb⟩)
      clear hxk hvl hql hde hfv hci hb hcv hcc
      go_wp2_with fail
      go_region_held3 (fun w' => w'.cell? ⟨b, off + k * 2, none⟩ = some (.int .u64 (v : Int)) ∧ w'.cell? ⟨b, off + k * 2 + 1, none⟩ = some (.int .i64 (q : Int)) ∧ Below w1.heap.size w1 w')
          (first
            | (exact HS.out)
            | (exact run_drew hbl HS.out)
            | (exact run_keep hbl (by assumption) hm)
            | (exact run_drew hbl (by assumption))
            | go_keep)
          (first
            | (go_at_call 47; with_reducible refine (rPut_c v HV.out.1 _).mono ?_; rintro e w2 ⟨rfl, hm⟩)
            | (go_at_call 47; with_reducible refine (rPut_c q HV.out.2 _).mono ?_; rintro e w2 ⟨rfl, hm⟩))
      all_goals
        rename_i hh
        obtain ⟨-, -, hb2⟩ := hh
        clear hm
        go_wp2_with fail
        go_roundw
        case rel => exact ⟨k + 1, by rw [encR_take HX.out, List.append_assoc], by go_num, by omega, hb2⟩
        case measure => simp only [intOf]; omega
    · obtain rfl : k = D.length := by omega
      rw [List.take_length]
      go_wp2_with fail
      go_ret
      rw [← HD.out]
      exact ⟨rfl, hb1.trans (hb.mono hb1.size)⟩
end Go.Proofs.Ytiehmeheilfocaa
