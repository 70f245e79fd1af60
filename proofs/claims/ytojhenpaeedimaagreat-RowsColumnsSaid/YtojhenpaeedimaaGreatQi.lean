/-
 Encode of runs, the program's and the document's.
 Decode of runs, the program's.
-/
import Derived.Test.YtojhenpaeedimaaGreatDg
import Derived.Test.YtojhenpaeedimaaGreatBt
import Derived.Test.YtojhenpaeedimaaGreatQg
import Derived.Deep.RegionHeld3
section
namespace Go.Proofs.YtojhenpaeedimaaGreat
open Dl
namespace Ru
open Go.RowKit Go.IntWalk
open Pk
set_option maxRecDepth 100000
attribute [local go_sem] Oper.semAt_some
/-- WriteString, and a block of another type than the buffer's beside it -/
theorem copyCheck_box (B b : Nat) (l : List UInt8) (w : World) (h : Bld w B b l) :
  Calls Tryz.prog 151 #[.pointer (some ⟨b, 0, none⟩)] w fun e w' => e = .returned (.tuple #[]) ∧
   (∃ v, w'.heap[b]? = some (.cells #[.pointer (some ⟨b, 0, none⟩), v] 111 (0, 0)) ∧ w'.ownsRow B 5 1 v l.length (bcs l) ∧ v.ownBlock ≠ some b) ∧ But B b w w' ∧ ∀ k, k ≠ b → w'.heap[k]? = w.heap[k]? := by
 obtain ⟨p, v, hp, hk, ho, hn⟩ := h
 rcases hp with rfl | rfl
 ·refine (copyCheck_fresh b w (by rw [Lib.cell_of_heap hk]; rfl) (by simp [World.shape?, hk]) (Lib.frozen_of_heap hk 0)).mono ?_
  rintro e w' ⟨rfl, rfl⟩
  refine ⟨rfl, ⟨v, ?_, ?_, hn⟩, (But.refl B b w).set 0 _, fun k hk => Below.heap_setCell _ _ _ _ hk⟩
  ·simp [World.setCell, Array.getElem?_modify, hk]
  ·exact ho.kept (row := some b) ⟨rfl, rfl, rfl, by simp [World.setCell], fun k _ hk => Below.heap_setCell _ _ _ _ (fun e => hk (by simp [e]))⟩ (Or.inr hn)
 ·refine (copyCheck_used b w (by rw [Lib.cell_of_heap hk]; rfl)).mono ?_
  rintro e w' ⟨rfl, rfl⟩
  exact ⟨rfl, ⟨v, hk, ho, hn⟩, But.refl B b _, fun _ _ => rfl⟩
set_option maxHeartbeats 2000000 in
theorem write_box (B b R : Nat) (cs : Array Value) (l s : List UInt8) (w : World) (h : Bld w B b l) (hlen : l.length + s.length ≤ 140737488355328) (hBw : B ≤ w.heap.size) (hR : w.heap[R]? = some (.cells cs 128 (0, 0))) (hRb : R ≠ b) :
  Calls Tryz.prog 86 #[.pointer (some ⟨b, 0, none⟩), .string (ba s)] w fun e w' => e = .returned (.tuple #[.int .i64 s.length, .nilIface]) ∧ Bld w' B b (l ++ s) ∧ But B b w w' ∧ w'.heap[R]? = w.heap[R]? := by
 obtain ⟨i0, hi, hz0, hz1, hz2⟩ := info_parts Tryz.info5
 have hsz := ba_size s
 go_enter Tryz.func86, Tryz.ntmps86
 go_wp2_with (go_at_call 151; refine (copyCheck_box B b l _ h).mono ?_)
 rintro e w1 ⟨rfl, h1, hb1, hall⟩
 obtain ⟨v, hbk, hown, hne⟩ := h1
 have hR1 := hall R hRb
 have hneR : v.ownBlock ≠ some R := Lib.ownBlock_ne hown (hR1.trans hR) (by decide)
 have hRlt : R < w1.heap.size := (Array.getElem?_eq_some_iff.1 (hR1.trans hR)).1
 have c0 : w1.cell? ⟨b, 0, none⟩ = some (.pointer (some ⟨b, 0, none⟩)) := by rw [Lib.cell_of_heap hbk]; rfl
 have c1 : w1.cell? ⟨b, 1, none⟩ = some v := by rw [Lib.cell_of_heap hbk]; rfl
 have hbl := bcs_len l
 clear hall
 have HR1 := Lib.hid hR1
 clear hR1 hR
 go_wp2_with (at_builtin; refine Lib.wpList_append_own_string _ rfl _ _ 109 9 rfl B 5 i0 Tryz.underlying109 Tryz.underlying9 hi hz0 hz1 hz2 _ _ _ rfl hown (ba s) rfl ?c3 ?c4 ?c5 ?_)
 case c3 => unfold maxLen; omega
 case c4 => omega
 case c5 => have := hb1.size; omega
 intro v' w2 hown' hgrow _
 have hR2 : w2.heap[R]? = w.heap[R]? := (hgrow.block R hRlt (fun e => hneR e.symm)).trans HR1.out
 have hlt : b < w1.heap.size := (Array.getElem?_eq_some_iff.1 hbk).1
 have hb2 : w2.heap[b]? = some (.cells #[.pointer (some ⟨b, 0, none⟩), v] 111 (0, 0)) := by
  rw [hgrow.block b hlt (fun e => hne e.symm)]
  exact hbk
 have d0 : w2.cell? ⟨b, 0, none⟩ = some (.pointer (some ⟨b, 0, none⟩)) := by rw [Lib.cell_of_heap hb2]; rfl
 have d1 : w2.cell? ⟨b, 1, none⟩ = some v := by rw [Lib.cell_of_heap hb2]; rfl
 have f1 : w2.frozen? ⟨b, 1, none⟩ = false := Lib.frozen_of_heap hb2 1
 obtain ⟨ao, n', cap, rfl⟩ : ∃ ao n' cap, v' = .slice ao n' cap := by
  rcases hown'.2 with ⟨hv, _⟩ | ⟨g, cap, cur, hv, _⟩
  ·exact ⟨_, _, _, hv⟩
  ·exact ⟨_, _, _, hv⟩
 have hbelow : But B b w w2 := hb1.trans ⟨hgrow.os, hgrow.tape, hgrow.output, hgrow.size, fun k hk _ => hgrow.block k (by have := hb1.size; omega) (fun e => by have := (hown.lt k e.symm).1; omega)⟩
 have e1 : bcs (l ++ s) = bcs l ++ Lib.strCells (ba s) := by simp [bcs, Lib.strCells, ba, bc]
 have hown2 : w2.ownsRow B 5 1 (.slice ao n' cap) (l ++ s).length (bcs (l ++ s)) := by rw [e1, List.length_append]; exact hown'
 have hne2 := Lib.ownBlock_ne hown2 hb2 (by decide)
 have hput : Bld (w2.setCell ⟨b, 1, none⟩ (.slice ao n' cap)) B b (l ++ s) := by
  refine ⟨_, _, .inr rfl, ?_, ?_, hne2⟩
  ·simp [World.setCell, Array.getElem?_modify, hb2]
  ·exact hown2.kept (row := some b) ⟨rfl, rfl, rfl, by simp [World.setCell], fun k _ hk => Below.heap_setCell _ _ _ _ (fun e => hk (by simp [e]))⟩ (Or.inr hne2)
 have HR2 := Lib.hid hR2
 clear hbk hown hown' hgrow hb2 c0 c1 e1 hown2 hne2 hR2 hneR hRlt
 go_wp2
 go_ret2
 exact ⟨rfl, hput, hbelow.set 1 _, (Below.heap_setCell _ _ _ _ hRb).trans HR2.out⟩
theorem _root_.Go.Proofs.YtojhenpaeedimaaGreat.But.alloc' {B b : Nat} {w w' : World} (h : But B b w w') (o : Obj) (hB : B ≤ w'.heap.size) : But B b w (w'.alloc o) :=
 ⟨h.os, h.tape, h.output, Nat.le_trans h.size (by simp), fun k hk hb => (Below.heap_alloc _ _ _ (by omega)).trans (h.block k hk hb)⟩
theorem bld_alloc {w : World} {B b : Nat} {l : List UInt8} (h : Bld w B b l) (o : Obj) : Bld (w.alloc o) B b l := bld_grown h ((Below.refl _ _).alloc (Nat.le_refl _) o)
theorem encR_take {r : List Run} {k v q : Nat} (h : r[k]? = some (v, (q : Int))) : encR (r.take (k + 1)) = encR (r.take k) ++ put v ++ put q := by
 rw [List.take_add_one, h, encR_app]
 simp [encR]
theorem fits_take {r : List Run} (h : Fits r) (k : Nat) : Fits (r.take k) := fun x hx => h x (List.mem_of_mem_take hx)
set_option maxHeartbeats 2000000 in
theorem uencode_c (A : Option Addr) (cap : Nat) (xs : List Nat) (hx : xs.length ≤ 100000) (hxn : Nums xs) (w : World) (hc : At w w.heap.size A (uvs xs)) :
  Calls Tryz.prog 44 #[.slice A xs.length cap] w fun e w' => e = .returned (.string (ba (encU xs))) ∧ Below w.heap.size w w' := by
 have hfit := runs_fits hxn (by omega)
 have hrl := runs_len xs
 have hrin := fun x => @runs_in xs x
 have HC := Lib.hid hc
 unfold encU
 go_enter Tryz.func44, Tryz.ntmps44
 go_wp2_with fail
 have h0 : Below w.heap.size w (w.alloc (.cells #[.pointer none, .slice none 0 0] 111)) := (Below.refl _ _).alloc (Nat.le_refl _) _
 refine (runs_c A cap xs hx _ ((HC.out.below h0).mono (by simp))).mono ?_
 rintro e w1 ⟨A', cap', rfl, -, hfr, hat, hb1⟩
 have hbld0 := bld_grown (bld_new w w1.heap.size) hb1
 have hbb : But w1.heap.size w.heap.size w1 w1 := But.refl _ _ _
 rw [World.size_alloc] at hfr hb1
 have hb01 := h0.trans (hb1.mono (Nat.le_succ _))
 have hsz1 : w.heap.size < w1.heap.size := by have := hb1.size; simp at this; omega
 obtain ⟨D, hD⟩ : ∃ D, D = runsL xs := ⟨_, rfl⟩
 have hdl2 : D.length ≤ 100000 := by rw [hD]; omega
 rw [← hD] at hat hfit hrin ⊢
 have HD := Lib.hid hD
 have HAT := Lib.hid hat
 have HFR := Lib.hid hfr
 have HFIT := Lib.hid hfit
 have HIN := Lib.hid hrin
 clear hD hat hfr h0 hb1 hc hfit hrin hrl hxn
 go_wp2_with fail
 go_loopw [9] (fun i wr => ∃ k : Nat, i = .int .i64 (k : Int) ∧ k ≤ D.length ∧ Bld wr w1.heap.size w.heap.size (encR (D.take k)) ∧ But w1.heap.size w.heap.size w1 wr) (fun i _ => D.length - (Go.RowKit.intOf i).toNat)
 case atStart => exact ⟨0, rfl, Nat.zero_le _, hbld0, hbb⟩
 case round =>
  clear hbld0 hbb
  obtain ⟨k, rfl, hk, hbld, hbut⟩ := hrel
  by_cases hlt : k < D.length
  ·obtain ⟨⟨v, c⟩, hxk⟩ := some_at hlt
   have hci := HIN.out _ (mem_at hxk)
   have hfv := HFIT.out _ (mem_at hxk)
   dsimp only at hci hfv
   obtain ⟨q, rfl⟩ := Int.eq_ofNat_of_zero_le (show 0 ≤ c by omega)
   rw [Int.toNat_natCast] at hfv
   have hq1 : q ≤ 100000 := by omega
   obtain ⟨b, off, rfl, hbl, hcv0, hcc0⟩ := run_cells HAT.out hxk
   dsimp only at hcv0 hcc0
   have hne : b ≠ w.heap.size := by have := HFR.out _ rfl; simp at this; omega
   have hcv : wr.cell? ⟨b, off + k * 2, none⟩ = some (.int .u64 (v : Int)) := (but_cell hbut (p := ⟨b, off + k * 2, none⟩) hbl hne).trans hcv0
   have hcc : wr.cell? ⟨b, off + k * 2 + 1, none⟩ = some (.int .i64 (q : Int)) := (but_cell hbut (p := ⟨b, off + k * 2 + 1, none⟩) hbl hne).trans hcc0
   have hvl := put_len10 hfv.1
   have hql := put_len10 hfv.2
   have hde := (encR_len (fits_take HFIT.out k)).2
   rw [List.length_take] at hde
   have hle : (encR (D.take k)).length + (put v).length ≤ 140737488355328 := by omega
   have hle2 : (encR (D.take k) ++ put v).length + (put q).length ≤ 140737488355328 := by rw [List.length_append]; omega
   have hws := hbut.size
   have HX := Lib.hid hxk
   have HV := Lib.hid hfv
   have hbR := bld_lt hbld
   clear hcv0 hcc0 hxk hvl hql hde hfv hci
   go_wp2_with fail
   refine (put_c v HV.out.1 _).mono ?_
   rintro e w2 ⟨rfl, hb2⟩
   have hR2 : w2.heap[wr.heap.size]? = some (.cells #[.int .u64 (v : Int), .int .i64 (q : Int)] 128 (0, 0)) := (hb2.block _ (by simp)).trans (heap_alloc_new wr _)
   have hbW := (But.refl w1.heap.size w.heap.size wr).alloc' (.cells #[.int .u64 (v : Int), .int .i64 (q : Int)] 128) hws
   have hbld2 := bld_grown (bld_alloc hbld (.cells #[.int .u64 (v : Int), .int .i64 (q : Int)] 128)) hb2
   have hbut2 := hbut.trans (hbW.trans (but_below (b := w.heap.size) (hb2.mono (by simp; omega))))
   have hws2 : w1.heap.size ≤ w2.heap.size := hbut2.size
   have hRb : wr.heap.size ≠ w.heap.size := by omega
   clear hbld hbut hb2 hbW hcv hcc hws
   go_wp2_with fail
   refine (write_box w1.heap.size w.heap.size wr.heap.size _ _ (put v) _ hbld2 hle hws2 hR2 hRb).mono ?_
   rintro e w3 ⟨rfl, hbld3, hbut3, hR3⟩
   have hR3' := hR3.trans hR2
   have hbut3' := hbut2.trans hbut3
   have hcq : w3.cell? ⟨wr.heap.size, 1, none⟩ = some (.int .i64 (q : Int)) := by rw [Lib.cell_of_heap hR3']; rfl
   have hws3 : w1.heap.size ≤ w3.heap.size := hbut3'.size
   have hRlt3 : wr.heap.size < w3.heap.size := (Array.getElem?_eq_some_iff.1 hR3').1
   clear hbld2 hbut2 hbut3 hR3 hR2 hws2
   go_wp2_with fail
   refine (put_c q HV.out.2 _).mono ?_
   rintro e w4 ⟨rfl, hb4⟩
   have hbld4 := bld_grown hbld3 hb4
   have hbut4 := hbut3'.trans (but_below (b := w.heap.size) (hb4.mono hws3))
   have hws4 : w1.heap.size ≤ w4.heap.size := hbut4.size
   clear hbld3 hbut3' hb4 hcq hR3' hRlt3 hws3
   go_wp2_with fail
   refine (write_b w1.heap.size w.heap.size _ (put q) _ hbld4 hle2 hws4).mono ?_
   rintro e w5 ⟨rfl, hbld5, hbut5⟩
   have hbut6 := hbut4.trans hbut5
   clear hbld4 hbut4 hbut5 hws4
   go_wp2_with fail
   go_roundw
   case rel => exact ⟨k + 1, by go_num, by omega, by rw [encR_take HX.out]; exact hbld5, hbut6⟩
   case measure => simp only [Go.RowKit.intOf]; omega
  ·obtain rfl : k = D.length := by omega
   rw [List.take_length] at hbld
   go_wp2_with fail
   refine (string_c w1.heap.size w.heap.size w.heap.size _ _ hbld (Nat.le_of_lt hsz1) (Nat.le_refl _)).mono ?_
   rintro e w3 ⟨rfl, hb3⟩
   go_wp2
   go_ret
   rw [← HD.out]
   exact ⟨rfl, (hb01.trans (hbut.below (Nat.le_of_lt hsz1) (Nat.le_refl _))).trans hb3⟩
end Ru
end Go.Proofs.YtojhenpaeedimaaGreat
end
section
namespace Go.Proofs.YtojhenpaeedimaaGreat
open Dl
namespace Ru
open Go.RowKit Go.IntWalk
open Pk
set_option maxRecDepth 100000
attribute [local go_sem] Oper.semAt_some
theorem dc_end {f : Nat} {out : List Nat} {n : Int} {s : St} (h : s.l = []) : dcR (f + 1) s out n = if (out.length : Int) < n then ([], 5) else (out, 0) := by rw [dcR, if_pos h]
theorem dc_err {f : Nat} {out : List Nat} {n : Int} {s : St} (h : s.l ≠ []) (he : (numS (numS s)).e ≠ 0) : dcR (f + 1) s out n = ([], (numS (numS s)).e) := by rw [dcR, if_neg h, if_pos he]
theorem dc_bad {f : Nat} {out : List Nat} {n : Int} {s : St} (h : s.l ≠ []) (he : (numS (numS s)).e = 0) (hb : numV (numS s) = 0 ∨ n - out.length < (numV (numS s) : Int) ∨ lastOf out = some (numV s)) : dcR (f + 1) s out n = ([], 5) := by
 rw [dcR, if_neg h, if_neg (by omega), if_pos hb]
theorem dc_next {f : Nat} {out : List Nat} {n : Int} {s : St} (h : s.l ≠ []) (he : (numS (numS s)).e = 0) (hb : ¬ (numV (numS s) = 0 ∨ n - out.length < (numV (numS s) : Int) ∨ lastOf out = some (numV s))) :
  dcR (f + 1) s out n = dcR f (numS (numS s)) (out ++ List.replicate (numV (numS s)) (numV s)) n := by
 rw [dcR, if_neg h, if_neg (by omega), if_neg hb]
theorem num2_len {ls : List UInt8} (h : (numS (numS ⟨ls, 0⟩)).e = 0) : (numS (numS ⟨ls, 0⟩)).l.length < ls.length := by
 have h1 : (numS ⟨ls, 0⟩).e = 0 := by
  rcases Decidable.em ((numS ⟨ls, 0⟩).e = 0) with h1 | h1
  ·exact h1
  ·rw [(num_err h1).2] at h; exact h
 have := (num_zero h1).2
 have := numS_len (numS ⟨ls, 0⟩)
 omega
theorem last_at {out : List Nat} {j : Nat} (h : out.length = j + 1) : ∃ y, out[j]? = some y ∧ lastOf out = some y := by
 obtain ⟨y, hy⟩ := some_at (show j < out.length by omega)
 exact ⟨y, hy, by rw [lastOf, List.getLast?_eq_getElem?, h]; exact hy⟩
theorem last_nil {out : List Nat} (h : out.length = 0) : lastOf out = none := by
 rw [List.eq_nil_of_length_eq_zero h]; rfl
theorem rdr_not {w w' : World} {q g : Nat} {s : St} (h : Rdr w q s) (hg : w.grownBy w' (some g)) (hne : q ≠ g) : Rdr w' q s :=
 (hg.block q (is_lt h) (fun e => hne (by injection e))).trans h
theorem own_not {w w' : World} {base g q size n k cap : Nat} {e : TypeId} {xs : List Value} (h : w.ownsRow base e size (.slice (some ⟨g, 0, none⟩) k cap) n xs) (ho : w.grownBy w' (some q)) (hq : g ≠ q) : w'.ownsRow base e size (.slice (some ⟨g, 0, none⟩) k cap) n xs :=
 h.kept ho (.inr (by simpa [Value.ownBlock] using hq))
set_option maxHeartbeats 8000000 in
theorem udecode_c (l : List UInt8) (n : Int) (hn1 : -9223372036854775808 ≤ n) (hn2 : n ≤ 9223372036854775807) (hl : l.length ≤ 100000) (w : World) :
  Calls Tryz.prog 128 #[.string (ba l), .int .i64 n] w (LstEnd (decU l n).1 (.int .i64 (decU l n).2) w) := by
 have hs := ba_size l
 rcases Int.lt_or_le n 0 with hneg | hpos
 ·rw [decU_neg hneg]
  go_enter Tryz.func128, Tryz.ntmps128
  go_wp2_with fail
  go_ret2
  exact lstEnd_nil (Below.refl _ _)
 rcases Int.lt_or_le 4096 n with hfar | hin
 ·rw [decU_big hfar]
  go_enter Tryz.func128, Tryz.ntmps128
  go_wp2_with fail
  go_ret2
  exact lstEnd_nil (Below.refl _ _)
 obtain ⟨N, rfl⟩ := Int.eq_ofNat_of_zero_le hpos
 have hN : N ≤ 4096 := by omega
 obtain ⟨res, hres⟩ : ∃ res, res = decU l (N : Int) := ⟨_, rfl⟩
 have hr0 := hres
 rw [decU_in hpos hin] at hr0
 have HR0 := Lib.hid hr0
 rw [← hres]
 obtain ⟨i0, hi, hz0, hz1, hz2⟩ := info_parts Tryz.info62
 have hbx : i0.bytes * N ≤ 281474976710656 := by rw [hz2]; omega
 have hmx : N ≤ maxLen := by unfold maxLen; omega
 have t1 : decide ((N : Int) < 0) = false := by simp
 have t2 : decide ((4096 : Int) < (N : Int)) = false := by simp; omega
 clear hres hr0 hpos hin hn1 hn2
 go_enter Tryz.func128, Tryz.ntmps128
 go_wp2_with (at_make; refine wpList_make_own _ rfl _ _ 60 rfl w.heap.size 62 i0 (.int .u64 0) 1 Tryz.underlying60 hi hz0 hz1 .i64 .i64 _ N rfl rfl rfl hbx hmx (Nat.le_refl _) ?_; intro w1 hown1 hgrow1)
 have hb1 := (Below.refl w.heap.size w).grown hgrow1 (Nat.le_refl _) (fun k e => by cases e)
 have hgl := (hown1.lt w.heap.size rfl).2
 refine (new_c l _).mono ?_
 rintro e w2 ⟨rfl, hr2, hw2⟩
 have hown2 : w2.ownsRow w.heap.size 62 1 (.slice (some ⟨w.heap.size, 0, none⟩) 0 N) 0 [] := by rw [hw2]; exact hown1.alloc _
 have hb2 : Below w.heap.size w w2 := by rw [hw2]; exact hb1.alloc hb1.size _
 obtain ⟨q, hq⟩ : ∃ q, q = w1.heap.size := ⟨_, rfl⟩
 rw [← hq] at hr2 ⊢
 have hgq : w.heap.size ≠ q := by omega
 have hgq2 : w.heap.size ≤ q := by omega
 clear hw2 hown1 hgrow1 hb1 hgl hq hbx hmx
 go_wp2_with fail
 go_loopg [6] l.length (fun m sl wr => ∃ (ls : List UInt8) (out : List Nat) (f : Nat), ls.length ≤ m ∧ sl = .slice (some ⟨w.heap.size, 0, none⟩) out.length N ∧ ls.length < f ∧ res = dcR f ⟨ls, 0⟩ out (N : Int) ∧ out.length ≤ N ∧ Rdr wr q ⟨ls, 0⟩ ∧ wr.ownsRow w.heap.size 62 1 (.slice (some ⟨w.heap.size, 0, none⟩) out.length N) out.length (uvs out) ∧ Below w.heap.size w wr ∧ ls.length ≤ 100000)
 case atStart => exact ⟨l, [], l.length + 1, Nat.le_refl _, rfl, Nat.lt_succ_self _, HR0.out, Nat.zero_le _, hr2, hown2, hb2, hl⟩
 case round =>
  clear hr2 hown2 hb2
  obtain ⟨ls, out, f, hm, rfl, hf, hres, hoN, hr, hown, hb, hll⟩ := hrel
  obtain ⟨f, rfl⟩ : ∃ f', f = f' + 1 := ⟨f - 1, by omega⟩
  have HRES := Lib.hid hres
  clear hres
  have hb0 := hb.size
  by_cases hemp : ls.length = 0
  ·have he : ls = [] := List.eq_nil_of_length_eq_zero hemp
   subst he
   by_cases hlt : out.length < N
   ·have t3 : decide ((out.length : Int) < (N : Int)) = true := by simp [hlt]
    have HL := Lib.hid hlt
    clear hlt
    go_wp2_with (go_at_call 53; refine (left_c q ⟨[], 0⟩ _ hr).mono ?_; rintro e wz ⟨rfl, rfl⟩)
    go_ret2
    have hre := HRES.out
    rw [dc_end rfl, if_pos (by have := HL.out; omega)] at hre
    rw [hre]
    exact lstEnd_nil hb
   ·have t3 : decide ((out.length : Int) < (N : Int)) = false := by simp; omega
    have HL := Lib.hid hlt
    obtain ⟨A', cap', hA, ha, hfr, hcp⟩ := own_at hown
    cases hA
    clear hlt hown
    go_wp2_with (go_at_call 53; refine (left_c q ⟨[], 0⟩ _ hr).mono ?_; rintro e wz ⟨rfl, rfl⟩)
    go_ret2
    have hre := HRES.out
    rw [dc_end rfl, if_neg (by have := HL.out; omega)] at hre
    rw [hre]
    exact ⟨_, _, rfl, hcp, hfr, ha, hb⟩
  ·have hlp : (0 : Int) < (ls.length : Int) := by omega
   have t3 : decide (0 < ls.length) = true := by simp; omega
   have hne : ls ≠ [] := fun e => hemp (by rw [e]; rfl)
   have HNE := Lib.hid hne
   clear hne hemp
   go_wp2_with fail
   refine (left_c q ⟨ls, 0⟩ _ hr).mono ?_
   rintro e wz ⟨rfl, rfl⟩
   go_wp2_with fail
   refine (num_m q ⟨ls, 0⟩ _ hr).mono ?_
   rintro e w3 ⟨rfl, hr3, ho3⟩
   have hown3 := own_not hown ho3 hgq
   have hb3 := below_only hb ho3 hb0 hgq2
   clear hr hown hb ho3 hb0
   have hb30 := hb3.size
   go_wp2_with fail
   refine (num_m q _ _ hr3).mono ?_
   rintro e w4 ⟨rfl, hr4, ho4⟩
   have hown4 := own_not hown3 ho4 hgq
   have hb4 := below_only hb3 ho4 hb30 hgq2
   have hb40 := hb4.size
   clear hr3 hown3 hb3 ho4 hb30
   have hlen2 := @num2_len ls
   have hde := @dc_err f out (N : Int) ⟨ls, 0⟩ HNE.out
   have hdb := @dc_bad f out (N : Int) ⟨ls, 0⟩ HNE.out
   have hdn := @dc_next f out (N : Int) ⟨ls, 0⟩ HNE.out
   obtain ⟨v, hv⟩ : ∃ v, v = numV ⟨ls, 0⟩ := ⟨_, rfl⟩
   obtain ⟨c, hc⟩ : ∃ c, c = numV (numS ⟨ls, 0⟩) := ⟨_, rfl⟩
   obtain ⟨s2, hs2⟩ : ∃ s2, s2 = numS (numS ⟨ls, 0⟩) := ⟨_, rfl⟩
   rw [← hv, ← hc, ← hs2] at hdb hdn
   rw [← hs2] at hde hlen2 hr4
   rw [← hv, ← hc]
   have HDE := Lib.hid hde
   have HDB := Lib.hid hdb
   have HDN := Lib.hid hdn
   have HLEN := Lib.hid hlen2
   clear hv hc hs2 hde hdb hdn hlen2
   go_wp2_with fail
   refine (err_c q s2 _ hr4).mono ?_
   rintro e wz ⟨rfl, rfl⟩
   by_cases he : s2.e = 0
   ·have hee : (s2.e != 0) = false := by rw [he]; rfl
    have HE0 := Lib.hid he
    clear he
    by_cases hc0 : c = 0
    ·have hz : ((c : Int) == 0) = true := by rw [hc0]; rfl
     have HC0 := Lib.hid hc0
     clear hc0
     go_wp2_with fail
     go_ret2
     have hre := HRES.out
     rw [HDB.out HE0.out (.inl HC0.out)] at hre
     rw [hre]
     exact lstEnd_nil hb4
    ·have hz : ((c : Int) == 0) = false := by simp; omega
     have hdif : IntKind.u64.wrap ((N : Int) - (out.length : Int)) = (N : Int) - (out.length : Int) := by rw [IntKind.wrap_u64]; omega
     have HC0 := Lib.hid hc0
     clear hc0
     by_cases hfar : (N : Int) - (out.length : Int) < (c : Int)
     ·have t4 : decide ((N : Int) - (out.length : Int) < (c : Int)) = true := by simp [hfar]
      have HF := Lib.hid hfar
      clear hfar
      go_wp2_with fail
      go_ret2
      have hre := HRES.out
      rw [HDB.out HE0.out (.inr (.inl HF.out))] at hre
      rw [hre]
      exact lstEnd_nil hb4
     ·have t4 : decide ((N : Int) - (out.length : Int) < (c : Int)) = false := by simp; omega
      have hcN : out.length + c ≤ N := by omega
      have hcw : IntKind.i64.wrap (c : Int) = (c : Int) := IntWalk.i64_in _ (by omega)
      have hgl4 := (hown4.lt w.heap.size rfl).2
      have HF := Lib.hid hfar
      clear hfar
      by_cases ho : out.length = 0
      ·obtain rfl : out = [] := List.eq_nil_of_length_eq_zero ho
       have t5 : decide (N < c) = false := decide_eq_false (by simp at hcN; omega)
       have hcN' : 0 + c ≤ N := by simpa using hcN
       clear ho hoN hcN hdif t4
       go_wp2_with fail
       refine (lay_c w.heap.size w.heap.size 0 N v c ([] : List Nat) (by omega) (by omega) (by omega) _ hgl4 hown4).mono ?_
       rintro e w5 ⟨rfl, hown5, ho5⟩
       have hr5 := rdr_not hr4 ho5 (fun e => hgq e.symm)
       have hb5 := hb4.grown ho5 hb40 (fun k hk => by cases hk; exact Nat.le_refl _)
       clear hown4 ho5 hr4 hb4 hb40 hgl4
       go_wp2_with fail
       go_roundg s2.l.length
       case measure => have := HLEN.out HE0.out; omega
       case rel =>
        have hl2 := HLEN.out HE0.out
        have hE0 := HE0.out
        have hss : s2 = ⟨s2.l, 0⟩ := by cases s2; simp only at hE0; subst hE0; rfl
        have hlen : (([] : List Nat) ++ List.replicate c v).length = 0 + c := by rw [List.length_append, List.length_replicate, List.length_nil]
        refine ⟨s2.l, ([] : List Nat) ++ List.replicate c v, f, Nat.le_refl _, by first | (rw [hlen]; done) | rw [hlen, Nat.zero_add], by omega, ?_, by rw [hlen]; omega, by rw [← hss]; exact hr5, by rw [hlen]; exact hown5, hb5, by omega⟩
        rw [← hss, ← HDN.out HE0.out (by rintro (h | h | h); exact HC0.out h; exact absurd h (by have := HF.out; omega); rw [last_nil rfl] at h; cases h)]
        exact HRES.out
      ·obtain ⟨j, hj⟩ : ∃ j, out.length = j + 1 := ⟨out.length - 1, by omega⟩
       obtain ⟨y, hy, hla⟩ := last_at hj
       have hcell : w4.cell? ⟨w.heap.size, j, none⟩ = some (.int .u64 (y : Int)) := (hown4.cellAt j (by omega)).trans (uvs_at hy)
       have hjw : IntKind.i64.wrap (j : Int) = (j : Int) := by rw [i64_left]; exact wrap64_in _ (by omega)
       have HLA := Lib.hid hla
       rw [hj] at hown4 hdif t4 hcN ⊢
       have HJ := Lib.hid hj
       have hj1 : decide ((0 : Int) < (j : Int) + 1) = true := by simp
       clear ho hy hla
       by_cases hyv : y = v
       ·have hee2 : ((v : Int) == (y : Int)) = true := by rw [hyv]; simp
        have HYV := Lib.hid hyv
        clear hyv
        go_wp2_with fail
        go_ret2
        have hre := HRES.out
        rw [HDB.out HE0.out (.inr (.inr (by rw [HLA.out, HYV.out])))] at hre
        rw [hre]
        exact lstEnd_nil hb4
       ·have hee2 : ((v : Int) == (y : Int)) = false := by simp; omega
        have HYV := Lib.hid hyv
        clear hyv
        go_wp2_with fail
        refine (lay_c w.heap.size w.heap.size (j + 1) N v c out (by omega) (by omega) (by omega) _ hgl4 hown4).mono ?_
        rintro e w5 ⟨rfl, hown5, ho5⟩
        have hr5 := rdr_not hr4 ho5 (fun e => hgq e.symm)
        have hb5 := hb4.grown ho5 hb40 (fun k hk => by cases hk; exact Nat.le_refl _)
        clear hown4 ho5 hr4 hb4 hb40 hgl4
        go_wp2_with fail
        go_roundg s2.l.length
        case measure => have := HLEN.out HE0.out; omega
        case rel =>
         have hl2 := HLEN.out HE0.out
         have hE0 := HE0.out
         have hss : s2 = ⟨s2.l, 0⟩ := by cases s2; simp only at hE0; subst hE0; rfl
         have hlen : (out ++ List.replicate c v).length = (j + 1) + c := by rw [List.length_append, List.length_replicate, HJ.out]
         refine ⟨s2.l, out ++ List.replicate c v, f, Nat.le_refl _, by first | (rw [hlen]; done) | rw [hlen, Nat.zero_add], by omega, ?_, by rw [hlen]; omega, by rw [← hss]; exact hr5, by rw [hlen]; exact hown5, hb5, by omega⟩
         rw [← hss, ← HDN.out HE0.out (by rintro (h | h | h); exact HC0.out h; exact absurd h (by have := HF.out; omega); rw [HLA.out] at h; injection h with h; exact HYV.out h)]
         exact HRES.out
   ·have hee : (s2.e != 0) = true := by simpa using he
    have HE0 := Lib.hid he
    clear he
    go_wp2_with fail
    go_ret2
    have hre := HRES.out
    rw [HDE.out HE0.out] at hre
    rw [hre]
    exact lstEnd_nil hb4
end Ru
end Go.Proofs.YtojhenpaeedimaaGreat
end
