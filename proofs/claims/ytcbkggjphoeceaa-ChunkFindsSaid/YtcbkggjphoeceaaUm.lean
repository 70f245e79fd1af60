/-
  The walks of ChunkJoins and ChunkSplits.
-/
import Derived.Test.YtcbkggjphoeceaaUl
import Derived.Deep.RegionHeld3
namespace Go.Proofs.Ytcbkggjphoeceaa
open Go.RowKit Go.IntWalk
open Pk Cr Ck
set_option maxRecDepth 100000
attribute [local go_sem] Oper.semAt_some

theorem two_keep {p q : Addr} {u v : Value} {w w1 w2 : World} (h : w1.cell? p = some u ∧ w1.cell? q = some v ∧ Below w.heap.size w w1) (hb : Below w1.heap.size w1 w2) : w2.cell? p = some u ∧ w2.cell? q = some v ∧ Below w.heap.size w w2 :=
  ⟨(hb.cell (World.block_lt_of_cell? _ _ h.1)).trans h.1, (hb.cell (World.block_lt_of_cell? _ _ h.2.1)).trans h.2.1, h.2.2.trans (hb.mono h.2.2.size)⟩
theorem two_below {p q : Addr} {u v : Value} {w w1 : World} (h : w1.cell? p = some u ∧ w1.cell? q = some v ∧ Below w.heap.size w w1) : Below w.heap.size w w1 := h.2.2
theorem few_flat : ∀ {l : List Chk}, (∀ c ∈ l, c.2.length ≤ 200) → (flat l).length ≤ 215 * l.length
  | [], _ => by simp [flat]
  | c :: l, h => by
    have h1 := few_flat (l := l) (fun x hx => h x (List.mem_cons_of_mem _ hx))
    have h2 := h c (List.mem_cons_self ..)
    have h3 := one_len c
    have h4 := put_len10 (n := c.2.length) (by omega)
    rw [flat, List.length_append, List.length_cons]
    omega
theorem few_k {A : Option Addr} {cap : Nat} {l : List Chk} (b : Bool) (hb : few l = b) (hl : l.length ≤ maxLen) {w : World} (hc : At w w.heap.size A (cvs l)) :
    Calls Try.prog 8 #[.slice A l.length cap] w fun e w' => e = .returned (.bool b) ∧ w = w' := by
  subst hb
  exact few_c A cap l hl w hc

namespace chunkJoins
set_option maxHeartbeats 8000000 in
theorem walk (v : Int) (A : Option Addr) (cap : Nat) (l : List Chk) (k : Int) (_hv : (Lit.int .i64 v).wf = true) (hl : l.length ≤ maxLen) (_hk : (Lit.int .i64 k).wf = true) (w : World) (hc : At w w.heap.size A (cvs l)) :
    Calls Try.prog 3 #[.int .i64 v, .slice A l.length cap, .int .i64 k] w fun e w' => e = .returned (.bool true) ∧ Below w.heap.size w w' := by
  cases hf : few l
  · go_enter Try.func3, Try.ntmps3
    go_wp2_with fail
    refine (few_k false hf hl hc).mono ?_
    rintro e w1 ⟨rfl, rfl⟩
    go_wp2_with fail
    refine (live11_c _).mono ?_
    rintro e w1 ⟨rfl, hb1⟩
    go_wp2_with fail
    go_ret
    exact ⟨rfl, hb1⟩
  · obtain ⟨hl20, hlb⟩ := few_in hf
    have hfl := few_flat hlb
    have hF : (flat l).length ≤ 100000 := by omega
    have HLB := Lib.hid hlb
    have HFW := Lib.hid hf
    obtain ⟨jt, hjt⟩ : ∃ s, ba (joinT v l) = s := ⟨_, rfl⟩
    obtain ⟨je, hje⟩ : ∃ s, joinE v l = s := ⟨_, rfl⟩
    obtain ⟨ft, hft⟩ : ∃ s, ba ((find l k).getD []) = s := ⟨_, rfl⟩
    obtain ⟨fe, hfe⟩ : ∃ s, (find l k).isSome = s := ⟨_, rfl⟩
    have J1 := Lib.hid hjt
    have J2 := Lib.hid hje
    have F1 := Lib.hid hft
    have F2 := Lib.hid hfe
    clear hlb hf hfl hjt hje hft hfe
    go_enter Try.func3, Try.ntmps3
    go_wp2_with fail
    refine (few_k true HFW.out hl hc).mono ?_
    rintro e w1 ⟨rfl, rfl⟩
    go_wp2_with fail
    refine (join_c v A cap l hF hl _ hc).mono ?_
    unfold JoinEnd
    rw [J1.out, J2.out]
    rintro e w1 ⟨rfl, hb1⟩
    have C1 := hc.keep hb1
    go_wp2_with fail
    refine (rjoin_c v A cap l hF hl _ C1).mono ?_
    unfold JoinEnd
    rw [J1.out, J2.out]
    rintro e w2 ⟨rfl, hm⟩
    have hb2 := hb1.trans (hm.mono hb1.size)
    have C2 := C1.keep hm
    clear C1 hm hb1
    go_wp2_with fail
    refine (find_c A cap l k hl _ C2).mono ?_
    unfold FindEnd
    rw [F1.out, F2.out]
    rintro e w3 ⟨rfl, hm⟩
    have hb3 := hb2.trans (hm.mono hb2.size)
    have C3 := C2.keep hm
    clear C2 hm hb2
    go_wp2_with fail
    refine (rfind_c A cap l k hl _ C3).mono ?_
    unfold FindEnd
    rw [F1.out, F2.out]
    rintro e w4 ⟨rfl, hm⟩
    have hb4 := hb3.trans (hm.mono hb3.size)
    clear C3 hm hb3
    go_wp2_with fail
    have HC := Lib.hid hc
    clear hc
    go_loopw [15] (fun i wr => ∃ j : Nat, i = .int .i64 (j : Int) ∧ j ≤ l.length ∧ Below w.heap.size w wr) (fun i _ => l.length - (intOf i).toNat)
    case atStart => exact ⟨0, rfl, Nat.zero_le _, hb4⟩
    case round =>
      clear hb4
      obtain ⟨j, rfl, hj, hb⟩ := hrel
      by_cases hlt : j < l.length
      · obtain ⟨c, hcj⟩ := some_at hlt
        have hcb := HLB.out c (mem_at hcj)
        obtain ⟨ck, cb⟩ := c
        obtain ⟨b0, o0, rfl, hb0, c0, c1⟩ := chunk_cells ((HC.out.below hb).mono hb.size) hcj
        simp only at hcb c0 c1
        obtain ⟨T, hT⟩ : ∃ T, one (ck, cb) = T := ⟨_, rfl⟩
        have HT := Lib.hid hT
        have hji : (0 : Int) ≤ (j : Int) := by omega
        have hjl : (j : Int) < (l.length : Int) := by omega
        clear hcj hT
        go_wp2_with fail
        go_region_held3 (fun w' => w'.cell? ⟨b0, o0 + j * 2, none⟩ = some (.int .i64 ck) ∧ w'.cell? ⟨b0, o0 + j * 2 + 1, none⟩ = some (.string (ba cb)) ∧ Below w.heap.size w w')
          (first
            | assumption
            | (exact two_keep (by assumption) hbn)
            | (exact two_keep (by assumption) (Below.refl _ _).drew)
            | (exact two_keep ⟨c0, c1, hb⟩ (Below.refl _ _).drew)
            | go_keep)
          (first
            | (go_at_call 14; refine (one_k HT.out (by omega) _).mono ?_; rintro e w5 ⟨rfl, hbn⟩)
            | (go_at_call 15; refine (rone_k HT.out (by omega) _).mono ?_; rintro e w5 ⟨rfl, hbn⟩))
        all_goals
          have hbe := two_below (w := w) (p := ⟨b0, o0 + j * 2, none⟩) (q := ⟨b0, o0 + j * 2 + 1, none⟩) (u := .int .i64 ck) (v := .string (ba cb)) (by assumption)
          go_wp2_with fail
          go_roundw
          case rel => exact ⟨j + 1, by go_num, by omega, hbe⟩
          case measure => simp only [intOf]; omega
      · obtain rfl : j = l.length := by omega
        go_wp2_with fail
        refine (live11_c _).mono ?_
        rintro e w5 ⟨rfl, hm⟩
        have hb5 := hb.trans (hm.mono hb.size)
        go_wp2_with fail
        go_ret
        exact ⟨rfl, hb5⟩
end chunkJoins

namespace chunkSplits
set_option maxHeartbeats 8000000 in
theorem walk (s : List UInt8) (hz : s.length ≤ maxLen) (w : World) :
    Calls Try.prog 4 #[.string (ba s)] w fun e w' => e = .returned (.bool true) ∧ Below w.heap.size w w' := by
  unfold maxLen at hz
  have hs := ba_size s
  by_cases h : 2000 < s.length
  · go_enter Try.func4, Try.ntmps4
    go_wp2_with fail
    refine (live11_c _).mono ?_
    rintro e w1 ⟨rfl, hb1⟩
    go_wp2
    go_ret
    exact ⟨rfl, hb1⟩
  · have hl : s.length ≤ 100000 := by omega
    have hml : (splitP s).1.length ≤ 1000000 := split_few s hl
    obtain ⟨v, hv⟩ : ∃ v, splitV s = v := ⟨_, rfl⟩
    obtain ⟨m, hm⟩ : ∃ m, (splitP s).1 = m := ⟨_, rfl⟩
    obtain ⟨x, hx⟩ : ∃ x, (splitP s).2 = x := ⟨_, rfl⟩
    obtain ⟨e1, he1⟩ : ∃ x, verV s = x := ⟨_, rfl⟩
    obtain ⟨e2, he2⟩ : ∃ x, verE s = x := ⟨_, rfl⟩
    rw [hm] at hml
    have V := Lib.hid hv
    have M := Lib.hid hm
    have X := Lib.hid hx
    have E1 := Lib.hid he1
    have E2 := Lib.hid he2
    clear hv hm hx he1 he2
    go_enter Try.func4, Try.ntmps4
    go_wp2_with fail
    refine (split_c s hl _).mono ?_
    unfold SplitEnd
    rw [V.out, M.out, X.out]
    rintro e w1 ⟨A1, k1, rfl, a1, hb1⟩
    go_wp2_with fail
    refine (rsplit_c s hl _).mono ?_
    unfold SplitEnd
    rw [V.out, M.out, X.out]
    rintro e w2 ⟨A2, k2, rfl, a2, hm⟩
    have hb2 := hb1.trans (hm.mono hb1.size)
    have a1 := a1.keep hm
    clear hm hb1
    go_wp2_with fail
    refine (version_k e2 e1 E2.out E1.out (by omega) _).mono ?_
    rintro e wz ⟨rfl, rfl⟩
    go_wp2_with fail
    refine (rversion_k e2 e1 E2.out E1.out (by omega) _).mono ?_
    rintro e wz ⟨rfl, rfl⟩
    go_wp2_with fail
    refine (same11_c A1 A2 k1 k2 m m (by unfold maxLen; omega) (by unfold maxLen; omega) _ a1 a2).mono ?_
    rw [show decide (m = m) = true from decide_eq_true rfl]
    rintro e w3 ⟨rfl, hm⟩
    have hb3 := hb2.trans (hm.mono hb2.size)
    clear hm hb2
    go_wp2_with fail
    refine (live11_c _).mono ?_
    rintro e w5 ⟨rfl, hm⟩
    have hb5 := hb3.trans (hm.mono hb3.size)
    go_wp2_with fail
    go_ret
    exact ⟨rfl, hb5⟩
end chunkSplits
end Go.Proofs.Ytcbkggjphoeceaa
