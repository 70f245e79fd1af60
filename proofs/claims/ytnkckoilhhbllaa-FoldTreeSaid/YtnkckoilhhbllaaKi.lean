/-
  The walk of FoldTree.
-/
import Derived.Test.YtnkckoilhhbllaaKz
import Derived.Test.YtnkckoilhhbllaaGc
import Derived.Test.YtnkckoilhhbllaaQh
import Derived.Test.YtnkckoilhhbllaaUj
namespace Go.Proofs.Ytnkckoilhhbllaa
open Go.RowKit Go.IntWalk Go.Maps
open Gr
set_option maxRecDepth 100000
attribute [local go_sem] Oper.semAt_some

theorem hold10 {G b0 o0 k : Nat} {m : Mv} {w1 W W' : World} (h : W.cell? ⟨G, 0, none⟩ = some (.int .i64 (ch (mw m))) ∧ W.cell? ⟨G, 1, none⟩ = some (.int .i64 (pa (mw m))) ∧ W.cell? ⟨G, 2, none⟩ = some (.string (ba (nm (mw m)))) ∧ W.cell? ⟨G, 3, none⟩ = some (.float .f64 (rk (mw m))) ∧ W.cell? ⟨b0, o0 + k * 6, none⟩ = some (.int .i64 (mc m)) ∧ W.cell? ⟨b0, o0 + k * 6 + 1, none⟩ = some (.int .i64 (mr m)) ∧ W.cell? ⟨b0, o0 + k * 6 + 2, none⟩ = some (.int .i64 (pa (mw m))) ∧ W.cell? ⟨b0, o0 + k * 6 + 3, none⟩ = some (.int .i64 (ch (mw m))) ∧ W.cell? ⟨b0, o0 + k * 6 + 4, none⟩ = some (.string (ba (nm (mw m)))) ∧ W.cell? ⟨b0, o0 + k * 6 + 5, none⟩ = some (.float .f64 (rk (mw m))) ∧ Below w1.heap.size w1 W) (hb : Below W.heap.size W W') : W'.cell? ⟨G, 0, none⟩ = some (.int .i64 (ch (mw m))) ∧ W'.cell? ⟨G, 1, none⟩ = some (.int .i64 (pa (mw m))) ∧ W'.cell? ⟨G, 2, none⟩ = some (.string (ba (nm (mw m)))) ∧ W'.cell? ⟨G, 3, none⟩ = some (.float .f64 (rk (mw m))) ∧ W'.cell? ⟨b0, o0 + k * 6, none⟩ = some (.int .i64 (mc m)) ∧ W'.cell? ⟨b0, o0 + k * 6 + 1, none⟩ = some (.int .i64 (mr m)) ∧ W'.cell? ⟨b0, o0 + k * 6 + 2, none⟩ = some (.int .i64 (pa (mw m))) ∧ W'.cell? ⟨b0, o0 + k * 6 + 3, none⟩ = some (.int .i64 (ch (mw m))) ∧ W'.cell? ⟨b0, o0 + k * 6 + 4, none⟩ = some (.string (ba (nm (mw m)))) ∧ W'.cell? ⟨b0, o0 + k * 6 + 5, none⟩ = some (.float .f64 (rk (mw m))) ∧ Below w1.heap.size w1 W' := by
  obtain ⟨p0, p1, p2, p3, q0, q1, q2, q3, q4, q5, hB⟩ := h
  exact ⟨keep_cell hb p0, keep_cell hb p1, keep_cell hb p2, keep_cell hb p3, keep_cell hb q0, keep_cell hb q1, keep_cell hb q2, keep_cell hb q3, keep_cell hb q4, keep_cell hb q5, hB.trans (hb.mono hB.size)⟩
theorem hold10d {G b0 o0 k : Nat} {m : Mv} {w1 W : World} (h : W.cell? ⟨G, 0, none⟩ = some (.int .i64 (ch (mw m))) ∧ W.cell? ⟨G, 1, none⟩ = some (.int .i64 (pa (mw m))) ∧ W.cell? ⟨G, 2, none⟩ = some (.string (ba (nm (mw m)))) ∧ W.cell? ⟨G, 3, none⟩ = some (.float .f64 (rk (mw m))) ∧ W.cell? ⟨b0, o0 + k * 6, none⟩ = some (.int .i64 (mc m)) ∧ W.cell? ⟨b0, o0 + k * 6 + 1, none⟩ = some (.int .i64 (mr m)) ∧ W.cell? ⟨b0, o0 + k * 6 + 2, none⟩ = some (.int .i64 (pa (mw m))) ∧ W.cell? ⟨b0, o0 + k * 6 + 3, none⟩ = some (.int .i64 (ch (mw m))) ∧ W.cell? ⟨b0, o0 + k * 6 + 4, none⟩ = some (.string (ba (nm (mw m)))) ∧ W.cell? ⟨b0, o0 + k * 6 + 5, none⟩ = some (.float .f64 (rk (mw m))) ∧ Below w1.heap.size w1 W) : W.drew.cell? ⟨G, 0, none⟩ = some (.int .i64 (ch (mw m))) ∧ W.drew.cell? ⟨G, 1, none⟩ = some (.int .i64 (pa (mw m))) ∧ W.drew.cell? ⟨G, 2, none⟩ = some (.string (ba (nm (mw m)))) ∧ W.drew.cell? ⟨G, 3, none⟩ = some (.float .f64 (rk (mw m))) ∧ W.drew.cell? ⟨b0, o0 + k * 6, none⟩ = some (.int .i64 (mc m)) ∧ W.drew.cell? ⟨b0, o0 + k * 6 + 1, none⟩ = some (.int .i64 (mr m)) ∧ W.drew.cell? ⟨b0, o0 + k * 6 + 2, none⟩ = some (.int .i64 (pa (mw m))) ∧ W.drew.cell? ⟨b0, o0 + k * 6 + 3, none⟩ = some (.int .i64 (ch (mw m))) ∧ W.drew.cell? ⟨b0, o0 + k * 6 + 4, none⟩ = some (.string (ba (nm (mw m)))) ∧ W.drew.cell? ⟨b0, o0 + k * 6 + 5, none⟩ = some (.float .f64 (rk (mw m))) ∧ Below w1.heap.size w1 W.drew := by
  obtain ⟨p0, p1, p2, p3, q0, q1, q2, q3, q4, q5, hB⟩ := h
  exact ⟨p0, p1, p2, p3, q0, q1, q2, q3, q4, q5, hB.drew⟩
theorem hold10b {G b0 o0 k : Nat} {m : Mv} {w1 W : World} (h : W.cell? ⟨G, 0, none⟩ = some (.int .i64 (ch (mw m))) ∧ W.cell? ⟨G, 1, none⟩ = some (.int .i64 (pa (mw m))) ∧ W.cell? ⟨G, 2, none⟩ = some (.string (ba (nm (mw m)))) ∧ W.cell? ⟨G, 3, none⟩ = some (.float .f64 (rk (mw m))) ∧ W.cell? ⟨b0, o0 + k * 6, none⟩ = some (.int .i64 (mc m)) ∧ W.cell? ⟨b0, o0 + k * 6 + 1, none⟩ = some (.int .i64 (mr m)) ∧ W.cell? ⟨b0, o0 + k * 6 + 2, none⟩ = some (.int .i64 (pa (mw m))) ∧ W.cell? ⟨b0, o0 + k * 6 + 3, none⟩ = some (.int .i64 (ch (mw m))) ∧ W.cell? ⟨b0, o0 + k * 6 + 4, none⟩ = some (.string (ba (nm (mw m)))) ∧ W.cell? ⟨b0, o0 + k * 6 + 5, none⟩ = some (.float .f64 (rk (mw m))) ∧ Below w1.heap.size w1 W) : Below w1.heap.size w1 W := h.2.2.2.2.2.2.2.2.2.2
theorem hold10s {G b0 o0 k : Nat} {m : Mv} {w1 : World} (p0 : w1.cell? ⟨G, 0, none⟩ = some (.int .i64 (ch (mw m)))) (p1 : w1.cell? ⟨G, 1, none⟩ = some (.int .i64 (pa (mw m)))) (p2 : w1.cell? ⟨G, 2, none⟩ = some (.string (ba (nm (mw m))))) (p3 : w1.cell? ⟨G, 3, none⟩ = some (.float .f64 (rk (mw m)))) (q0 : w1.cell? ⟨b0, o0 + k * 6, none⟩ = some (.int .i64 (mc m))) (q1 : w1.cell? ⟨b0, o0 + k * 6 + 1, none⟩ = some (.int .i64 (mr m))) (q2 : w1.cell? ⟨b0, o0 + k * 6 + 2, none⟩ = some (.int .i64 (pa (mw m)))) (q3 : w1.cell? ⟨b0, o0 + k * 6 + 3, none⟩ = some (.int .i64 (ch (mw m)))) (q4 : w1.cell? ⟨b0, o0 + k * 6 + 4, none⟩ = some (.string (ba (nm (mw m))))) (q5 : w1.cell? ⟨b0, o0 + k * 6 + 5, none⟩ = some (.float .f64 (rk (mw m)))) : w1.drew.cell? ⟨G, 0, none⟩ = some (.int .i64 (ch (mw m))) ∧ w1.drew.cell? ⟨G, 1, none⟩ = some (.int .i64 (pa (mw m))) ∧ w1.drew.cell? ⟨G, 2, none⟩ = some (.string (ba (nm (mw m)))) ∧ w1.drew.cell? ⟨G, 3, none⟩ = some (.float .f64 (rk (mw m))) ∧ w1.drew.cell? ⟨b0, o0 + k * 6, none⟩ = some (.int .i64 (mc m)) ∧ w1.drew.cell? ⟨b0, o0 + k * 6 + 1, none⟩ = some (.int .i64 (mr m)) ∧ w1.drew.cell? ⟨b0, o0 + k * 6 + 2, none⟩ = some (.int .i64 (pa (mw m))) ∧ w1.drew.cell? ⟨b0, o0 + k * 6 + 3, none⟩ = some (.int .i64 (ch (mw m))) ∧ w1.drew.cell? ⟨b0, o0 + k * 6 + 4, none⟩ = some (.string (ba (nm (mw m)))) ∧ w1.drew.cell? ⟨b0, o0 + k * 6 + 5, none⟩ = some (.float .f64 (rk (mw m))) ∧ Below w1.heap.size w1 w1.drew := ⟨p0, p1, p2, p3, q0, q1, q2, q3, q4, q5, (Below.refl _ _).drew⟩

theorem map_keep {w w' : World} {b n : Nat} {D : DataW Unit} (h : w.ownsMap Try.prog 3 RB b n D) (hb : Below w.heap.size w w') : w'.ownsMap Try.prog 3 RB b n D := by
  obtain ⟨es, clock, hh, F, hs, rfl⟩ := h
  exact ⟨es, clock, (hb.block b (Array.getElem?_eq_some_iff.1 hh).1).trans hh, F, hs, rfl⟩
theorem map_cells {w : World} {b n : Nat} {D : DataW Unit} (h : w.ownsMap Try.prog 3 RB b n D) {cs : Array Value} {t : TypeId} {p : Nat × Nat} (hc : w.heap[b]? = some (.cells cs t p)) : False := by
  obtain ⟨es, clock, hh, F, hs, rfl⟩ := h
  rw [hh] at hc
  cases hc
theorem at_grownB {w w1 w2 : World} {A A1 : Option Addr} {l l1 : List Rw} {N b n : Nat} {D : DataW Unit} (hc : At w w.heap.size A (tvs l)) (h1 : At w1 w1.heap.size A1 (tvs l1)) (hd : (A1 = A ∧ l1 = l) ∨ Rowy N A1 w1)
    (hown : w1.ownsMap Try.prog 3 RB b n D) (hb : w.heap.size ≤ b) (hg : w1.grownBy w2 (some b)) : At w2 w2.heap.size A1 (tvs l1) ∧ (∀ M, Rowy M A1 w1 → Rowy M A1 w2) := by
  have hne : ∀ a, (∃ cs p, w1.heap[a]? = some (.cells cs 43 p)) ∨ a < w.heap.size → some a ≠ some b := fun a ha he => by
    cases he
    rcases ha with ⟨cs, p, h⟩ | h
    · exact map_cells hown h
    · omega
  refine ⟨fun i u hu => ?_, fun M hM a ha => ?_⟩
  · obtain ⟨a, off, hA, hlt, hcell⟩ := h1 i u hu
    have hx : some a ≠ some b := by
      rcases hd with ⟨rfl, rfl⟩ | hf
      · obtain ⟨b', off', hA', hlt', _⟩ := hc i u hu
        rw [hA] at hA'
        cases hA'
        exact hne a (.inr hlt')
      · exact hne a (.inl (hf _ hA).2)
    exact ⟨a, off, hA, Nat.lt_of_lt_of_le hlt hg.size, (cell_same (hg.block a hlt hx) _).trans hcell⟩
  · obtain ⟨h1', cs, p, h2⟩ := hM a ha
    exact ⟨h1', cs, p, (hg.block _ (Array.getElem?_eq_some_iff.1 h2).1 (hne _ (.inl ⟨cs, p, h2⟩))).trans h2⟩
theorem one64 {r : Rw} (h : oneP r = true) : In64 (ch r) := by
  unfold oneP at h
  simp only [Bool.and_eq_true, decide_eq_true_eq] at h
  unfold In64
  omega
theorem find_u {A : Option Addr} {cap : Nat} {l : List Rw} {r : Rw} (hf : fnd l (ch r) = some r) (hl : l.length ≤ maxLen) {w : World} (hc : At w w.heap.size A (tvs l)) :
    Calls Try.prog 32 #[.slice A l.length cap, .int .i64 (ch r)] w fun e w' => e = .returned (.tuple #[.agg #[.int .i64 (ch r), .int .i64 (pa r), .string (ba (nm r)), .float .f64 (rk r)], .bool true]) ∧ Below w.heap.size w w' := by
  have := find_c A cap l (ch r) hl w hc
  unfold FindEnd at this
  rw [hf] at this
  exact this

namespace foldTree
set_option maxHeartbeats 16000000 in
theorem walk (A1 A2 : Option Addr) (c1 c2 : Nat) (l : List Rw) (ms : List Mv) (hA1 : A1 = none → c1 = 0) (hc1 : l.length ≤ c1) (hl : l.length ≤ maxLen) (hM : Rows_ l)
    (hml : ms.length ≤ maxLen) (hMM : Moves_ ms)
    (w : World) (ha1 : At w w.heap.size A1 (tvs l)) (ha2 : At w w.heap.size A2 (mvs ms)) :
    Calls Try.prog 5 #[.slice A1 l.length c1, .slice A2 ms.length c2] w fun e w' => e = .returned (.bool true) ∧ Below w.heap.size w w' := by
  have H1 := Lib.hid ha1
  have H2 := Lib.hid ha2
  have HA := Lib.hid hA1
  have HM := Lib.hid hM
  have HMM := Lib.hid hMM
  have HL := Lib.hid hl
  have HML := Lib.hid hml
  clear ha1 ha2 hA1 hM hMM hml
  unfold maxLen at hl
  cases hf : few l with
  | false =>
    have HF := Lib.hid hf
    clear hf
    go_enter Try.func5, Try.ntmps5
    go_wp2_with fail
    refine (few_c A1 c1 l HL.out _ H1.out).mono ?_
    rintro e w1 ⟨rfl, rfl⟩
    rw [HF.out]
    go_wp2_with fail
    refine (live14_c _).mono ?_
    rintro e w2 ⟨rfl, hb⟩
    go_wp2_with fail
    go_ret
    exact ⟨rfl, hb⟩
  | true =>
    obtain ⟨hl60, -⟩ := few_in hf
    have HF := Lib.hid hf
    clear hf
    cases hg : fewM ms 60 with
    | false =>
      have HG := Lib.hid hg
      clear hg
      go_enter Try.func5, Try.ntmps5
      go_wp2_with fail
      refine (few_c A1 c1 l HL.out _ H1.out).mono ?_
      rintro e w1 ⟨rfl, rfl⟩
      rw [HF.out]
      go_wp2_with fail
      refine (rmfew_c A2 c2 ms 60 HML.out (by decide) _ H2.out).mono ?_
      rintro e w1 ⟨rfl, rfl⟩
      rw [HG.out]
      go_wp2_with fail
      refine (live14_c _).mono ?_
      rintro e w2 ⟨rfl, hb⟩
      go_wp2_with fail
      go_ret
      exact ⟨rfl, hb⟩
    | true =>
      obtain ⟨hm60, -⟩ := fewM_in hg
      have HG := Lib.hid hg
      clear hg
      cases hmay : mayB l with
      | false =>
        have HMY := Lib.hid hmay
        clear hmay
        go_enter Try.func5, Try.ntmps5
        go_wp2_with fail
        refine (few_c A1 c1 l HL.out _ H1.out).mono ?_
        rintro e w1 ⟨rfl, rfl⟩
        rw [HF.out]
        go_wp2_with fail
        refine (rmfew_c A2 c2 ms 60 HML.out (by decide) _ H2.out).mono ?_
        rintro e w1 ⟨rfl, rfl⟩
        rw [HG.out]
        go_wp2_with fail
        refine (rmay_c A1 c1 l HL.out (fun r hr => (HM.out r hr).2) _ H1.out).mono ?_
        rintro e w1 ⟨rfl, hb1⟩
        rw [HMY.out]
        go_wp2_with fail
        refine (live14_c _).mono ?_
        rintro e w2 ⟨rfl, hb⟩
        go_wp2_with fail
        go_ret
        exact ⟨rfl, hb1.trans (hb.mono hb1.size)⟩
      | true =>
        have HMY := Lib.hid hmay
        have HTR := Lib.hid ((mayB_tree l).1 hmay)
        clear hmay
        have hmm := @run_makeMap Try.prog
        go_enter Try.func5, Try.ntmps5
        go_wp2_with fail
        refine (few_c A1 c1 l HL.out _ H1.out).mono ?_
        rintro e w1 ⟨rfl, rfl⟩
        rw [HF.out]
        go_wp2_with fail
        refine (rmfew_c A2 c2 ms 60 HML.out (by decide) _ H2.out).mono ?_
        rintro e w1 ⟨rfl, rfl⟩
        rw [HG.out]
        go_wp2_with fail
        refine (rmay_c A1 c1 l HL.out (fun r hr => (HM.out r hr).2) _ H1.out).mono ?_
        rintro e w1 ⟨rfl, hb1⟩
        rw [HMY.out]
        obtain ⟨b, hb⟩ : ∃ b, b = w1.heap.size := ⟨_, rfl⟩
        have hbw := hb1.size
        have hmade := World.ownsMap_made w1 Try.prog 3 RB
        rw [← hb] at hmade
        have HB1 := Lib.hid hb1
        have HMD := Lib.hid hmade
        clear hb1 hmade
        go_wp2_with fail
        rw [← hb]
        have hwb : w.heap.size ≤ b := by omega
        clear hb hmm
        go_loopw [6] (fun i wr => ∃ (k : Nat) (D : DataW Unit), i = .int .i64 (k : Int) ∧ k ≤ l.length ∧ wr.ownsMap Try.prog 3 RB b k D ∧ Bok D ((l.take k).map ch) ∧ Below w.heap.size w wr)
          (fun i _ => l.length - (intOf i).toNat)
        case atStart => exact ⟨0, _, rfl, Nat.zero_le _, HMD.out, bok_nil, HB1.out.alloc HB1.out.size _⟩
        case round =>
          rename World => wr
          obtain ⟨k, D, rfl, hk, hmap, hD, hbw⟩ := hrel
          have HBW := Lib.hid hbw
          have HMP := Lib.hid (And.intro hmap hD)
          clear hmap hD hbw
          by_cases hlt : k < l.length
          · obtain ⟨r, hr⟩ := some_at hlt
            obtain ⟨b0, o0, rfl, -, e0, -, -, -⟩ := row_cells (H1.out.keep HBW.out) hr
            have hk0 : (0 : Int) ≤ (k : Int) := by omega
            have hkl : (k : Int) < (l.length : Int) := by omega
            obtain ⟨wa, Da, hra, hma, hka, hga⟩ := put_b HMP.out.1 HMP.out.2 (by omega) (one64 (HTR.out.one r (mem_at hr)))
            have HE := Lib.hid (And.intro hma (And.intro hka (HBW.out.grown hga HBW.out.size (fun k e => by cases e; exact hwb))))
            have HTK := Lib.hid (show (l.take (k + 1)).map ch = (l.take k).map ch ++ [ch r] by rw [List.take_add_one, hr]; simp)
            clear hma hka hga hr
            go_wp2_with fail
            go_roundw
            case rel => exact ⟨k + 1, Da, by go_num, by omega, HE.out.1, by rw [HTK.out]; exact HE.out.2.1, HE.out.2.2⟩
            case measure => simp only [intOf]; omega
          · obtain rfl : k = l.length := by omega
            have hlz : ¬ (l.length : Int) < (l.length : Int) := by omega
            have hD := HMP.out.2
            rw [List.take_length] at hD
            have HM0 := Lib.hid (And.intro HMP.out.1 hD)
            clear HMP hD
            go_wp2_with fail
            go_loopw [7, 8] (fun sl i wr => ∃ (k : Nat) (A' : Option Addr) (cap' : Nat) (D : DataW Unit) (n : Nat), i = .int .i64 (k : Int) ∧ k ≤ ms.length ∧ sl = .slice A' (allP l (ms.take k)).length cap' ∧ At wr wr.heap.size A' (tvs (allP l (ms.take k))) ∧ (A' = none → cap' = 0) ∧ (allP l (ms.take k)).length ≤ cap' ∧ ((A' = A1 ∧ allP l (ms.take k) = l) ∨ Rowy 0 A' wr) ∧
                Tree (allP l (ms.take k)) ∧ wr.ownsMap Try.prog 3 RB b n D ∧ Bok D ((allP l (ms.take k)).map ch) ∧ n ≤ l.length + k ∧ Below w.heap.size w wr)
              (fun _ i _ => ms.length - (intOf i).toNat)
            case atStart => exact ⟨0, A1, c1, D, l.length, rfl, Nat.zero_le _, rfl, H1.out.keep HBW.out, HA.out, hc1, .inl ⟨rfl, rfl⟩, HTR.out, HM0.out.1, HM0.out.2, by omega, HBW.out⟩
            case round =>
              clear HBW HM0
              rename World => wr
              obtain ⟨k, A', cap', D, n, rfl, hk, rfl, hat, hA', hcp, hd, htr, hmap, hD, hn, hbw⟩ := hrel
              have HAT := Lib.hid hat
              have HA' := Lib.hid hA'
              have HBW := Lib.hid hbw
              have HD := Lib.hid hd
              have HMP := Lib.hid (And.intro hmap hD)
              have HTL := Lib.hid htr
              clear hat hA' hbw hd hmap hD htr
              by_cases hlt : k < ms.length
              · obtain ⟨m, hm⟩ := some_at hlt
                have hlk : (allP l (ms.take k)).length ≤ 200 := by have := allP_len l (ms.take k); rw [List.length_take] at this; omega
                obtain ⟨b0, o0, rfl, -, e0, e1, e2, e3, e4, e5⟩ := move_cells (H2.out.keep HBW.out) hm
                have hk0 : (0 : Int) ≤ (k : Int) := by omega
                have hkl : (k : Int) < (ms.length : Int) := by omega
                have HST := Lib.hid (allP_take (l := l) hm)
                have HMM2 := Lib.hid hm
                have hmm := HMM.out m (mem_at hm)
                have HMB := Lib.hid hmm
                obtain ⟨L, hL⟩ : ∃ L, allP l (ms.take k) = L := ⟨_, rfl⟩
                have hat := HAT.out
                have hd := HD.out
                have htr := HTL.out
                have hmp := HMP.out
                have HX := Lib.hid (allP_rows HM.out (ms := ms.take k) fun m hm => HMM.out m (List.mem_of_mem_take hm))
                have hrx := HX.out
                rw [hL] at hcp hlk hat hd HST htr hmp hrx ⊢
                have HD2 := Lib.hid hd
                have HAT2 := Lib.hid hat
                have HTR2 := Lib.hid htr
                have HMP2 := Lib.hid hmp
                have HRX := Lib.hid hrx
                clear hm hL HAT hd HD hat htr HTL hmp HMP HX hrx hmm
                cases hone : oneM m with
                | false =>
                  have HON := Lib.hid hone
                  clear hone
                  go_wp2_with fail
                  refine (rmone_k HON.out HMB.out.2 _).mono ?_
                  rintro e w8 ⟨rfl, hb8⟩
                  have HB8 := Lib.hid (HBW.out.trans (hb8.mono HBW.out.size))
                  clear hb8
                  go_wp2_with fail
                  refine (live14_c _).mono ?_
                  rintro e w9 ⟨rfl, hb9⟩
                  go_wp2_with fail
                  go_ret
                  exact ⟨rfl, HB8.out.trans (hb9.mono HB8.out.size)⟩
                | true =>
                  have HON := Lib.hid hone
                  clear hone
                  go_wp2_with fail
                  refine (rmone_k HON.out HMB.out.2 _).mono ?_
                  rintro e w8 ⟨rfl, hb8⟩
                  have hbw8 := HBW.out.trans (hb8.mono HBW.out.size)
                  have HAT8 := Lib.hid (HAT2.out.keep hb8)
                  have HD8 := Lib.hid (HD2.out.imp id fun h => h.keep hb8)
                  have HMP8 := Lib.hid (And.intro (map_keep HMP2.out.1 hb8) HMP2.out.2)
                  obtain ⟨x1, y1, z1, -, e0, e1, e2, e3, e4, e5⟩ := move_cells (H2.out.keep hbw8) HMM2.out
                  cases z1
                  have HBW8 := Lib.hid hbw8
                  clear hb8 hbw8
                  go_wp2_with fail
                  show Calls _ _ #[_, mv m] _ _
                  refine (mdo_g A' cap' L m (by omega) HA'.out hcp (fun a b W h => above_any (by omega) A' cap' a b W h) _ HAT8.out).mono ?_
                  rintro e w10 ⟨A3', cap3', rfl, hat3, hn3', hcp3, hb10, hd3⟩
                  have hd4 : (A3' = A1 ∧ doP L m = l) ∨ Rowy 0 A3' w10 := by
                    rcases hd3 with ⟨rfl, h2⟩ | h
                    · have hdl : doP L m = L := by unfold doP; rw [show barP L m = true by simpa using h2]; rfl
                      rcases HD8.out with ⟨rfl, h3⟩ | h3
                      · exact .inl ⟨rfl, by rw [hdl, h3]⟩
                      · exact .inr (h3.keep hb10)
                    · exact .inr (h.low (Nat.zero_le _))
                  have HAT3 := Lib.hid hat3
                  have HN3 := Lib.hid hn3'
                  have HD4 := Lib.hid hd4
                  have HATo := Lib.hid (HAT8.out.keep hb10)
                  have HMP10 := Lib.hid (And.intro (map_keep HMP8.out.1 hb10) HMP8.out.2)
                  have hbw10 := HBW8.out.trans (hb10.mono HBW8.out.size)
                  have HTN := Lib.hid (do_tree HTR2.out HON.out (by omega))
                  have hdl4 := doP_len L m
                  clear e0 e1 e2 e3 e4 e5 hat3 hn3' hd3 hd4 hb10
                  obtain ⟨x1, y1, z1, -, e0, e1, e2, e3, e4, e5⟩ := move_cells (H2.out.keep hbw10) HMM2.out
                  cases z1
                  have HBW10 := Lib.hid hbw10
                  have hbs10 := hbw10.size
                  clear hbw10
                  cases hq : barP L m with
                  | true =>
                    have hdl : doP L m = L := by unfold doP; rw [hq]; rfl
                    rw [hdl] at HAT3 hcp3 HD4 HST HTN ⊢
                    clear hq hdl hdl4
                    go_wp2_with fail
                    refine (rsame_t (by unfold maxLen; omega) HRX.out HAT3.out HATo.out).mono ?_
                    rintro e w11 ⟨rfl, hb11⟩
                    have HAT4 := Lib.hid (HAT3.out.keep hb11)
                    have HD5 := Lib.hid (HD4.out.imp id fun h => h.keep hb11)
                    have HMP11 := Lib.hid (And.intro (map_keep HMP10.out.1 hb11) HMP10.out.2)
                    have HBW11 := Lib.hid (HBW10.out.trans (hb11.mono HBW10.out.size))
                    clear hb11
                    go_wp2_with fail
                    go_roundw
                    case rel => exact ⟨k + 1, A3', cap3', D, n, by go_num, by omega, by rw [HST.out], by rw [HST.out]; exact HAT4.out, HN3.out, by rw [HST.out]; exact hcp3, by rw [HST.out]; exact HD5.out, by rw [HST.out]; exact HTN.out, HMP11.out.1, by rw [HST.out]; exact HMP11.out.2, by omega, HBW11.out⟩
                    case measure => simp only [intOf]; omega
                  | false =>
                    have hdl : doP L m = setP L (mw m) := by unfold doP; rw [hq]; rfl
                    have HFU := Lib.hid (show fnd (doP L m) (ch (mw m)) = some (mw m) by rw [hdl, setP_fnd, if_pos rfl])
                    have HIN := Lib.hid (show ∀ x, x ∈ L.map ch ++ [ch (mw m)] ↔ x ∈ (doP L m).map ch from fun x => by rw [hdl, mem_set, List.mem_append, List.mem_singleton, or_comm])
                    obtain ⟨wa, Da, hra, hma, hka, hga⟩ := put_b HMP10.out.1 HMP10.out.2 (show n < 100000 by omega) (one64 (one_row HON.out))
                    have hka2 := hka.same HIN.out
                    obtain ⟨T, hT⟩ : ∃ T, doP L m = T := ⟨_, rfl⟩
                    rw [hT] at HAT3 hcp3 HD4 HST HTN HFU hka2 hdl4 ⊢
                    have hgr := at_grownB H1.out HAT3.out HD4.out HMP10.out.1 hwb hga
                    have HATa := Lib.hid hgr.1
                    have HDa := Lib.hid (HD4.out.imp id fun h => hgr.2 _ h)
                    have HMPa := Lib.hid (And.intro hma hka2)
                    have hbwa := HBW10.out.grown hga HBW10.out.size (fun k e => by cases e; exact hwb)
                    obtain ⟨x1, y1, z1, -, g0, g1, g2, g3, g4, g5⟩ := move_cells (H2.out.keep hbwa) HMM2.out
                    cases z1
                    have HBWa := Lib.hid hbwa
                    clear hq hdl hT hma hka hga hgr hbwa hka2 HIN
                    go_wp2_with fail
                    refine (find_u HFU.out (by unfold maxLen; omega) HATa.out).mono ?_
                    rintro e w12 ⟨rfl, hb12⟩
                    obtain ⟨w13, hw13⟩ : ∃ w13, w13 = w12.alloc (.cells #[.int .i64 (ch (mw m)), .int .i64 (pa (mw m)), .string (ba (nm (mw m))), .float .f64 (rk (mw m))] 43) := ⟨_, rfl⟩
                    have hb23 : Below w12.heap.size w12 w13 := by rw [hw13]; exact (Below.refl _ _).alloc (Nat.le_refl _) _
                    have hba3 := hb12.trans (hb23.mono hb12.size)
                    have hI : Is w13 w12.heap.size 43 [.int .i64 (ch (mw m)), .int .i64 (pa (mw m)), .string (ba (nm (mw m))), .float .f64 (rk (mw m))] := by rw [hw13]; exact is_new w12 43 [.int .i64 (ch (mw m)), .int .i64 (pa (mw m)), .string (ba (nm (mw m))), .float .f64 (rk (mw m))]
                    have HAT13 := Lib.hid (HATa.out.keep hba3)
                    have HD13 := Lib.hid (HDa.out.imp id fun h => h.keep hba3)
                    have HMP13 := Lib.hid (And.intro (map_keep HMPa.out.1 hba3) HMPa.out.2)
                    have hbw13 := HBWa.out.trans (hba3.mono HBWa.out.size)
                    clear e0 e1 e2 e3 e4 e5 g0 g1 g2 g3 g4 g5
                    obtain ⟨x1, y1, z1, -, q0, q1, q2, q3, q4, q5⟩ := move_cells (H2.out.keep hbw13) HMM2.out
                    cases z1
                    obtain ⟨G, hG⟩ : ∃ G, G = w12.heap.size := ⟨_, rfl⟩
                    rw [← hG] at hI
                    have p0 : w13.cell? ⟨G, 0, none⟩ = some (.int .i64 (ch (mw m))) := is_cell hI 0
                    have p1 : w13.cell? ⟨G, 1, none⟩ = some (.int .i64 (pa (mw m))) := is_cell hI 1
                    have p2 : w13.cell? ⟨G, 2, none⟩ = some (.string (ba (nm (mw m)))) := is_cell hI 2
                    have p3 : w13.cell? ⟨G, 3, none⟩ = some (.float .f64 (rk (mw m))) := is_cell hI 3
                    have HBW13 := Lib.hid hbw13
                    have HW13 := Lib.hid hw13
                    have HGG := Lib.hid hG
                    have hal := alikeP_refl (mw m)
                    have HAL := Lib.hid hal
                    clear hb12 hb23 hba3 hI hbw13 hw13 hG hal
                    go_wp2_with fail
                    rw [← HW13.out, ← HGG.out]
                    clear HW13 HGG
                    go_region_held3 (fun w' => w'.cell? ⟨G, 0, none⟩ = some (.int .i64 (ch (mw m))) ∧ w'.cell? ⟨G, 1, none⟩ = some (.int .i64 (pa (mw m))) ∧ w'.cell? ⟨G, 2, none⟩ = some (.string (ba (nm (mw m)))) ∧ w'.cell? ⟨G, 3, none⟩ = some (.float .f64 (rk (mw m))) ∧ w'.cell? ⟨b0, o0 + k * 6, none⟩ = some (.int .i64 (mc m)) ∧ w'.cell? ⟨b0, o0 + k * 6 + 1, none⟩ = some (.int .i64 (mr m)) ∧ w'.cell? ⟨b0, o0 + k * 6 + 2, none⟩ = some (.int .i64 (pa (mw m))) ∧ w'.cell? ⟨b0, o0 + k * 6 + 3, none⟩ = some (.int .i64 (ch (mw m))) ∧ w'.cell? ⟨b0, o0 + k * 6 + 4, none⟩ = some (.string (ba (nm (mw m)))) ∧ w'.cell? ⟨b0, o0 + k * 6 + 5, none⟩ = some (.float .f64 (rk (mw m))) ∧ Below w13.heap.size w13 w')
                      (first
                        | (exact hold10 (by assumption) hbn)
                        | (exact hold10d (by assumption))
                        | (exact hold10s p0 p1 p2 p3 q0 q1 q2 q3 q4 q5)
                        | go_keep)
                      (first
                        | (go_at_call 34; refine (rmrow_k m _).mono ?_; rintro e wb ⟨rfl, hbn⟩)
                        | (go_at_call 33; refine (ralike_k (a := m) (b := m) HAL.out HMB.out.1 HMB.out.1 _).mono ?_; rintro e wc ⟨rfl, hbn⟩))
                    have hbz : Below w13.heap.size w13 wc := hold10b (by assumption)
                    have HATz := Lib.hid (HAT13.out.keep hbz)
                    have HDz := Lib.hid (HD13.out.imp id fun h => h.keep hbz)
                    have HMPz := Lib.hid (And.intro (map_keep HMP13.out.1 hbz) HMP13.out.2)
                    have HBWz := Lib.hid (HBW13.out.trans (hbz.mono HBW13.out.size))
                    clear hbz
                    go_wp2_with fail
                    go_roundw
                    case rel => exact ⟨k + 1, A3', cap3', Da, n + 1, by go_num, by omega, by rw [HST.out], by rw [HST.out]; exact HATz.out, HN3.out, by rw [HST.out]; exact hcp3, by rw [HST.out]; exact HDz.out, by rw [HST.out]; exact HTN.out, HMPz.out.1, by rw [HST.out]; exact HMPz.out.2, by omega, HBWz.out⟩
                    case measure => simp only [intOf]; omega
              · obtain rfl : k = ms.length := by omega
                have hlz : ¬ (ms.length : Int) < (ms.length : Int) := by omega
                have hat := HAT.out
                have htr := HTL.out
                have hmp := HMP.out
                have hlx := allP_len l (ms.take ms.length)
                rw [List.take_length] at hat htr hmp hlx hcp ⊢
                have HRX := Lib.hid (allP_rows HM.out HMM.out)
                obtain ⟨X, hX⟩ : ∃ X, allP l ms = X := ⟨_, rfl⟩
                have HXX := Lib.hid hX
                rw [hX] at hat htr hmp hlx hcp HRX ⊢
                have HAT2 := Lib.hid hat
                have HTR2 := Lib.hid htr
                have HMP2 := Lib.hid hmp
                have HMY2 := Lib.hid ((mayB_tree X).2 htr)
                have HSZ := Lib.hid (show Maps.size D = X.length by rw [size_of hmp.1 hmp.2.1 (asc_nodup htr.asc), List.length_map])
                clear hat htr hmp hX HAT HTL HMP
                go_wp2_with fail
                refine (may_c A' cap' X (by omega) (fun r hr => (HRX.out r hr).2) _ HAT2.out).mono ?_
                rintro e w8 ⟨rfl, hb8⟩
                rw [HMY2.out]
                have hmp8 := map_keep HMP2.out.1 hb8
                have HMP8 := Lib.hid hmp8
                have hln := hmp8.len Try.underlying41 3
                rw [HSZ.out] at hln
                have HBW8 := Lib.hid (HBW.out.trans (hb8.mono HBW.out.size))
                have HAT8 := Lib.hid (HAT2.out.keep hb8)
                clear hb8 hmp8
                go_wp2_with fail
                refine (mall_c A1 A2 c1 c2 l ms (by omega) HA.out hc1 (allP_above (by omega)) _ (H1.out.keep HBW8.out) (H2.out.keep HBW8.out)).mono ?_
                rintro e w9 ⟨B9, f9, rfl, q9, -, -, hb9⟩
                rw [HXX.out] at q9 ⊢
                have HB9 := Lib.hid (HBW8.out.trans (hb9.mono HBW8.out.size))
                have Q9 := Lib.hid q9
                have HAT9 := Lib.hid (HAT8.out.keep hb9)
                have HMP9 := Lib.hid (map_keep HMP8.out hb9)
                clear hb9 q9 hln
                go_wp2_with fail
                refine (rsame_t (by unfold maxLen; omega) HRX.out HAT9.out Q9.out).mono ?_
                rintro e w10 ⟨rfl, hb10⟩
                have HB10 := Lib.hid (HB9.out.trans (hb10.mono HB9.out.size))
                have HAT10 := Lib.hid (HAT9.out.keep hb10)
                have HMP10 := Lib.hid (map_keep HMP9.out hb10)
                clear hb10
                go_wp2_with fail
                go_loopw [13] (fun i wr => ∃ k : Nat, i = .int .i64 (k : Int) ∧ k ≤ X.length ∧ wr = w10) (fun i _ => X.length - (intOf i).toNat)
                case atStart => exact ⟨0, rfl, Nat.zero_le _, rfl⟩
                case round =>
                  obtain ⟨k, rfl, hk, hwr⟩ := hrel
                  have hwr2 := hwr.symm
                  subst hwr2
                  clear hwr
                  by_cases hlt : k < X.length
                  · obtain ⟨r, hr⟩ := some_at hlt
                    obtain ⟨b0, o0, rfl, -, e0, -, -, -⟩ := row_cells HAT10.out hr
                    have hk0 : (0 : Int) ≤ (k : Int) := by omega
                    have hkl : (k : Int) < (X.length : Int) := by omega
                    have hlk := look_b HMP10.out HMP2.out.2 (one64 (HTR2.out.one r (mem_at hr))) (List.mem_map.2 ⟨r, mem_at hr, rfl⟩)
                    clear hr
                    go_wp2_with fail
                    go_roundw
                    case rel => exact ⟨k + 1, by go_num, by omega, by first | rfl | trivial⟩
                    case measure => simp only [intOf]; omega
                  · obtain rfl : k = X.length := by omega
                    have hlz : ¬ (X.length : Int) < (X.length : Int) := by omega
                    go_wp2_with fail
                    refine (live14_c _).mono ?_
                    rintro e w11 ⟨rfl, hb11⟩
                    go_wp2_with fail
                    go_ret
                    exact ⟨rfl, HB10.out.trans (hb11.mono HB10.out.size)⟩
end foldTree
end Go.Proofs.Ytnkckoilhhbllaa
