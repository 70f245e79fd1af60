/-
  Chunks as a file, by the document; two lists of chunks held against each other.
-/
import Derived.Test.YtcbkggjphoeceaaUf
namespace Go.Proofs.Ytcbkggjphoeceaa
open Go.RowKit Go.IntWalk
open Pk Cr Ck
set_option maxRecDepth 100000
attribute [local go_sem] Oper.semAt_some

set_option maxHeartbeats 4000000 in
theorem rjoin_c (v : Int) (A : Option Addr) (cap : Nat) (l : List Chk) (hF : (flat l).length ≤ 100000) (hl : l.length ≤ maxLen) (w : World) (hc : At w w.heap.size A (cvs l)) :
    Calls Try.prog 11 #[.int .i64 v, .slice A l.length cap] w (JoinEnd v l w) := by
  unfold maxLen at hl
  have HC := Lib.hid hc
  clear hc
  by_cases hv : v < 0 ∨ 255 < v
  · have HV := Lib.hid hv
    rcases hv with hv | hv
    · go_enter Try.func11, Try.ntmps11
      go_wp2_with fail
      go_ret2
      exact joinEnd_arg HV.out (Below.refl _ _)
    · have hn : ¬ v < 0 := by omega
      go_enter Try.func11, Try.ntmps11
      go_wp2_with fail
      go_ret2
      exact joinEnd_arg HV.out (Below.refl _ _)
  · have HV := Lib.hid hv
    have hv0 : ¬ v < 0 := by omega
    have hv1 : ¬ 255 < v := by omega
    have hv2 : 0 ≤ v := by omega
    have hv3 : v ≤ 255 := by omega
    obtain ⟨kb, hkb⟩ : ∃ kb, kb = byt8 v := ⟨_, rfl⟩
    have hk := byt8_in hv2 hv3
    rw [← hkb] at hk
    have hkw : IntKind.u8.wrap v = (kb.toNat : Int) := by rw [IntKind.wrap_u8, hk]; omega
    clear hk
    have HK := Lib.hid hkb
    clear hv hkb
    obtain ⟨z, hz⟩ : ∃ z, z = bad 0 l := ⟨_, rfl⟩
    have HZ := Lib.hid hz
    have hcv : ∀ (W : World) (G : Nat), W.cell? ⟨G, 0, none⟩ = some (.int .u8 (kb.toNat : Int)) → (convert 42 9 (.slice (some ⟨G, 0, none⟩) 1 1)).run Try.prog W = .ok (.string (ba [kb])) W := fun W G h => conv1 h
    have hm0 : ∀ w : World, (Op.stringOp .add ⟨#[66, 78, 83, 73]⟩ (ba [kb])).run Try.prog w = .ok (.string (ba (magic ++ (kb :: flat (l.take 0))))) w := add_ba magic [kb] (by simp [magic])
    clear hz
    go_enter Try.func11, Try.ntmps11
    go_wp2_with fail
    have hbl1 : Below w.heap.size w (w.alloc (.cells #[.int .u8 (kb.toNat : Int)] 5)) := (Below.refl _ w).alloc (Nat.le_refl _) _
    clear hcv hm0
    go_loopw [6, 7, 8] (fun s a i wr => ∃ (j : Nat) (x : Int), i = .int .i64 (j : Int) ∧ a = .int .i64 x ∧ s = .string (ba (magic ++ (kb :: flat (l.take j)))) ∧ j ≤ l.length ∧ bad x (l.drop j) = z ∧ Below w.heap.size w wr)
      (fun _ _ i _ => l.length - (intOf i).toNat)
    case atStart => exact ⟨0, 0, rfl, rfl, rfl, Nat.zero_le _, HZ.out.symm, hbl1⟩
    case round =>
      clear hbl1
      obtain ⟨j, x, rfl, rfl, rfl, hj, hbad, hb⟩ := hrel
      have hbs := hb.size
      by_cases hlt : j < l.length
      · obtain ⟨c, hcj⟩ := some_at hlt
        obtain ⟨k, b⟩ := c
        obtain ⟨b0, o0, rfl, hb0, c0, c1⟩ := chunk_cells (HC.out.below hb) hcj
        rw [bad_drop hcj] at hbad
        obtain ⟨f1, f2⟩ := flat_body hcj
        have hft := flat_take hcj
        have hsz := ba_size b
        simp only at hbad f2 c0 c1
        have HB := Lib.hid hbad
        have HFT := Lib.hid hft
        clear hbad hcj hft
        by_cases hord : k ≤ x ∨ 255 < k
        · have HO := Lib.hid hord
          have hz12 : bad 0 l = 12 := by rw [← HZ.out, ← HB.out, if_pos HO.out]
          have H12 := Lib.hid hz12
          clear hz12
          rcases hord with hord | hord
          · go_wp2_with fail
            go_ret2
            exact joinEnd_bad HV.out H12.out (by decide) hb
          · by_cases hkx : k ≤ x
            · go_wp2_with fail
              go_ret2
              exact joinEnd_bad HV.out H12.out (by decide) hb
            · go_wp2_with fail
              go_ret2
              exact joinEnd_bad HV.out H12.out (by decide) hb
        · have hkx : ¬ k ≤ x := by omega
          have hk2 : ¬ 255 < k := by omega
          have hbn : bad k (l.drop (j + 1)) = z := by
            have := HB.out
            rw [if_neg hord, if_neg (by omega)] at this
            exact this
          have HBN := Lib.hid hbn
          obtain ⟨T, hT⟩ : ∃ T, one (k, b) = T := ⟨_, rfl⟩
          rw [hT] at f1
          have HFT2 : magic ++ (kb :: flat (l.take j)) ++ T = magic ++ (kb :: flat (l.take (j + 1))) := by rw [HFT.out, hT]; simp
          have hadd := add_ba (magic ++ (kb :: flat (l.take j))) T (by simp [magic]; omega)
          rw [HFT2] at hadd
          have HT := Lib.hid hT
          have H2 := Lib.hid hadd
          clear hord hbn hT HFT2 hadd
          go_wp2_with fail
          refine (rone_k HT.out (by omega) _).mono ?_
          rintro e w3 ⟨rfl, hm3⟩
          have hadd := H2.out
          have hb3 := hb.trans (hm3.mono hbs)
          clear hm3
          go_wp2_with fail
          go_roundw
          case rel => exact ⟨j + 1, k, by go_num, rfl, rfl, by omega, HBN.out, hb3⟩
          case measure => simp only [intOf]; omega
      · obtain rfl : j = l.length := by omega
        rw [List.drop_length] at hbad
        rw [List.take_length]
        have HB := Lib.hid hbad
        clear hbad
        go_wp2_with fail
        go_ret2
        rw [HK.out]
        exact joinEnd_ok HV.out (by rw [← HZ.out, ← HB.out]; rfl) hb

theorem chunk_under : Try.prog.underlying 32 = some (.struct (Try.prog.fieldsOf 32)) := by kernel_rfl
theorem chunk_stood : Try.prog.stoodInHeld 32 = false := by kernel_rfl
theorem chunk_guard : Try.prog.eqGuardType Try.prog.depth 32 = false := by kernel_rfl
def chkNe (a : Int) (b : List UInt8) (c : Int) (d : List UInt8) : Bool := !(a == c && decide (b = d))
theorem neq_chunks (a : Int) (b : List UInt8) (c : Int) (d : List UInt8) (w : World) : (binOp .neq 32 (.agg #[.int .i64 a, .string (ba b)]) (.agg #[.int .i64 c, .string (ba d)])).run Try.prog w = .ok (.bool (chkNe a b c d)) w := by
  unfold chkNe
  rw [run_neq_struct, show (10000 : Nat) = 9999 + 1 from rfl, run_equalIn_agg w 9999 _ _ _ chunk_under chunk_stood]
  simp only [Program.fieldsOf, Try.underlying32]
  simp [Op.eqFields, go_sem, run_equalIn_int _ 9998 _ _ _ _ _ Try.underlying3, run_equalIn_string _ 9998 _ _ _ Try.underlying9, ba_beq]
  by_cases h1 : a = c <;> by_cases h2 : b = d <;> simp [h1, h2]
theorem chkNe_same (x : Chk) : chkNe x.1 x.2 x.1 x.2 = false := by simp [chkNe]
theorem chkNe_not {x y : Chk} (h : x ≠ y) : chkNe x.1 x.2 y.1 y.2 = true := by
  simp only [chkNe, Bool.not_eq_true', Bool.and_eq_false_iff, beq_eq_false_iff_ne, decide_eq_false_iff_not]
  rcases Decidable.em (x.1 = y.1) with h1 | h1
  · exact .inr fun e => h (Prod.ext h1 e)
  · exact .inl h1
attribute [-go_sem] run_neq_struct
attribute [local go_sem] chunk_guard neq_chunks

theorem same11_q (A1 A2 : Option Addr) (c1 c2 : Nat) (xs ys : List Chk) (hx : xs.length ≤ maxLen) (hy : ys.length ≤ maxLen) (w : World) (h1 : At w w.heap.size A1 (cvs xs)) (h2 : At w w.heap.size A2 (cvs ys)) :
    Calls Try.prog 20 #[.slice A1 xs.length c1, .slice A2 ys.length c2] w fun e w' => e = .returned (.bool (decide (xs = ys))) ∧ ∃ q, w' = w.drewN q := by
  unfold maxLen at hx hy
  have H1 := Lib.hid h1
  have H2 := Lib.hid h2
  clear h1 h2
  by_cases hl : xs.length = ys.length
  · obtain ⟨n, hn⟩ : ∃ n, n = ys.length := ⟨_, rfl⟩
    have hn1 : xs.length = n := by omega
    rw [← hn, hn1]
    rw [hn1] at hx hl
    rw [← hn] at hy hl
    have HN := Lib.hid hn
    have HN1 := Lib.hid hn1
    clear hn hn1
    go_enter Try.func20, Try.ntmps20
    go_wp2_with fail
    go_loopw [5] (fun i wr => ∃ k : Nat, i = .int .i64 (k : Int) ∧ k ≤ n ∧ xs.take k = ys.take k ∧ ∃ q, wr = w.drewN q) (fun i _ => n - (intOf i).toNat)
    case atStart => exact ⟨0, rfl, Nat.zero_le _, rfl, 0, rfl⟩
    case round =>
      obtain ⟨k, rfl, hk, heq, hq⟩ := hrel
      have HQ := Lib.hid hq
      clear hq
      have HEQ := Lib.hid heq
      clear heq
      by_cases hlt : k < n
      · obtain ⟨x, hxk⟩ := some_at (show k < xs.length by rw [HN1.out]; exact hlt)
        obtain ⟨y, hyk⟩ := some_at (show k < ys.length by rw [← HN.out]; exact hlt)
        obtain ⟨b1, o1, rfl, _, hc1, hd1⟩ := chunk_cells (at_drewE H1.out HQ.out) hxk
        obtain ⟨b2, o2, rfl, _, hc2, hd2⟩ := chunk_cells (at_drewE H2.out HQ.out) hyk
        have HE := Lib.hid (ext_take HEQ.out hxk hyk)
        have HX := Lib.hid hxk
        have HY := Lib.hid hyk
        clear hxk hyk
        by_cases hxy : x = y
        · have ht := chkNe_same y
          rw [hxy] at hc1 hd1
          have HT := Lib.hid hxy
          clear hxy
          go_wp2_with fail
          go_quiet (fail)
          go_wp2
          go_roundw
          case rel => exact ⟨k + 1, by go_num, by omega, HE.out.2 HT.out, drewE HQ.out _⟩
          case measure => simp only [intOf]; omega
        · have ht := chkNe_not hxy
          have HT := Lib.hid hxy
          clear hxy
          go_wp2_with fail
          go_quiet (fail)
          go_wp2
          go_ret
          refine ⟨ret_bool ?_, drewE HQ.out _⟩
          have : ¬ xs = ys := fun e => HT.out (HE.out.1 (by rw [e]))
          simp [this]
      · obtain rfl : k = n := by omega
        go_wp2_with fail
        go_ret
        refine ⟨ret_bool ?_, HQ.out⟩
        have h := HEQ.out
        rw [List.take_of_length_le (by rw [HN1.out]; exact Nat.le_refl _), List.take_of_length_le (by rw [← HN.out]; exact Nat.le_refl _)] at h
        simp [h]
  · have HL := Lib.hid hl
    have ht : ((xs.length : Int) != (ys.length : Int)) = true := by simp only [bne_iff_ne, ne_eq]; omega
    clear hl
    go_enter Try.func20, Try.ntmps20
    go_wp2_with fail
    go_ret
    refine ⟨ret_bool ?_, 0, rfl⟩
    have : ¬ xs = ys := fun e => HL.out (by rw [e])
    simp [this]
theorem same11_c (A1 A2 : Option Addr) (c1 c2 : Nat) (xs ys : List Chk) (hx : xs.length ≤ maxLen) (hy : ys.length ≤ maxLen) (w : World) (h1 : At w w.heap.size A1 (cvs xs)) (h2 : At w w.heap.size A2 (cvs ys)) :
    Calls Try.prog 20 #[.slice A1 xs.length c1, .slice A2 ys.length c2] w fun e w' => e = .returned (.bool (decide (xs = ys))) ∧ Below w.heap.size w w' := by
  refine (same11_q A1 A2 c1 c2 xs ys hx hy w h1 h2).mono ?_
  rintro e w' ⟨rfl, q, rfl⟩
  exact ⟨rfl, below_drewN (Below.refl _ _) q⟩
end Go.Proofs.Ytcbkggjphoeceaa
