/-
  The walk of ChunkSpoils.
-/
import Derived.Test.YtcbkggjphoeceaaUo
import Derived.Test.YtcbkggjphoeceaaUq
namespace Go.Proofs.Ytcbkggjphoeceaa
open Go.RowKit Go.IntWalk
open Pk Cr Ck
set_option maxRecDepth 100000
attribute [local go_sem] Oper.semAt_some

/-- block M holds four bytes -/
def MRow (w : World) (M : Nat) (ms : List UInt8) : Prop := M < w.heap.size ∧ ∀ (i : Nat) (b : UInt8), ms[i]? = some b → w.cell? ⟨M, i, none⟩ = some (bc b)
theorem mrow_new (w : World) (b0 b1 b2 b3 : UInt8) : MRow (w.alloc (.cells #[bc b0, bc b1, bc b2, bc b3] 41)) w.heap.size [b0, b1, b2, b3] := by
  refine ⟨by simp, fun i b hb => ?_⟩
  rw [World.cell?_alloc_at _ _ _ _ rfl]
  match i, hb with
  | 0, hb => cases hb; rfl
  | 1, hb => cases hb; rfl
  | 2, hb => cases hb; rfl
  | 3, hb => cases hb; rfl
theorem mrow_keep {w w' : World} {M : Nat} {ms : List UInt8} (h : MRow w M ms) (hb : Below w.heap.size w w') : MRow w' M ms :=
  ⟨Nat.lt_of_lt_of_le h.1 hb.size, fun i b hi => (hb.cell (p := ⟨M, i, none⟩) h.1).trans (h.2 i b hi)⟩
theorem below_set {B g i : Nat} {w w1 : World} {v : Value} (hb : Below B w w1) (hg : B ≤ g) : Below B w (w1.setCell ⟨g, i, none⟩ v) := Below.setCell hb (p := ⟨g, i, none⟩) hg v

theorem at_new2 (w : World) (t : TypeId) (xs : List Value) (n : Nat) (hn : n = w.heap.size) : At (w.alloc (.cells xs.toArray t)) (w.alloc (.cells xs.toArray t)).heap.size (some ⟨n, 0, none⟩) xs := by subst hn; exact at_new w t xs
namespace chunkSpoils
theorem live_out (k : Int) (b : List UInt8) (x : Int) (b0 b1 b2 b3 : UInt8) (h : 200 < b.length ∨ k < 1 ∨ 255 < k) (w : World) :
    Calls Try.prog 6 #[.agg #[.int .i64 k, .string (ba b)], .int .i64 x, .agg #[bc b0, bc b1, bc b2, bc b3]] w fun e w' => e = .returned (.bool true) ∧ Below w.heap.size w w' := by
  have hs := ba_size b
  have hb0 := ((Below.refl w.heap.size w).alloc (Nat.le_refl _) (.cells #[.int .i64 k, .string (ba b)] 32)).alloc (by simp) (.cells #[bc b0, bc b1, bc b2, bc b3] 41)
  obtain ⟨k0, k1, k2, k3⟩ := pair_new w (.int .i64 k) (.string (ba b)) 32
  by_cases h1 : 200 < b.length
  · go_enter Try.func6, Try.ntmps6
    go_wp2_with fail
    refine (live11_c _).mono ?_
    rintro e w1 ⟨rfl, hb1⟩
    go_wp2_with fail
    go_ret
    exact ⟨rfl, hb0.trans (hb1.mono hb0.size)⟩
  · by_cases h2 : k < 1
    · go_enter Try.func6, Try.ntmps6
      go_wp2_with fail
      refine (live11_c _).mono ?_
      rintro e w1 ⟨rfl, hb1⟩
      go_wp2_with fail
      go_ret
      exact ⟨rfl, hb0.trans (hb1.mono hb0.size)⟩
    · have h3 : 255 < k := by omega
      clear h
      go_enter Try.func6, Try.ntmps6
      go_wp2_with fail
      refine (live11_c _).mono ?_
      rintro e w1 ⟨rfl, hb1⟩
      go_wp2_with fail
      go_ret
      exact ⟨rfl, hb0.trans (hb1.mono hb0.size)⟩

set_option maxHeartbeats 8000000 in
theorem walk (k : Int) (b : List UInt8) (x : Int) (b0 b1 b2 b3 : UInt8) (_hwf : (Lit.int .i64 x).wf = true) (w : World) :
    Calls Try.prog 6 #[.agg #[.int .i64 k, .string (ba b)], .int .i64 x, .agg #[bc b0, bc b1, bc b2, bc b3]] w fun e w' => e = .returned (.bool true) ∧ Below w.heap.size w w' := by
  by_cases hout : 200 < b.length ∨ k < 1 ∨ 255 < k
  · exact live_out k b x b0 b1 b2 b3 hout w
  have hs := ba_size b
  have hb200 : b.length ≤ 200 := by omega
  have hk1 : 1 ≤ k := by omega
  have hk2 : k ≤ 255 := by omega
  clear hout
  obtain ⟨hje, hjt⟩ := file_one (c := (k, b)) hk1 hk2 (by simp only; omega)
  have hjs := join_size hje
  obtain ⟨hjp, hjv, -⟩ := join_split hje
  have hfl : (flat [(k, b)]).length = 1 + (put b.length).length + b.length + 4 := by rw [flat, flat, List.append_nil, one_len]
  have hput := put_len10 (n := b.length) (by omega)
  have hput0 := put_len_pos b.length
  obtain ⟨l, hl⟩ : ∃ l, joinT 1 [(k, b)] = l := ⟨_, rfl⟩
  obtain ⟨ms, hms⟩ : ∃ ms, ms = [b0, b1, b2, b3] := ⟨_, rfl⟩
  have hml : ms.length = 4 := by rw [hms]; rfl
  rw [hl] at hjt hjs hjp hjv
  have hspo : ∀ (a n : Nat), n ≤ 4 → 6 + (put b.length).length ≤ a → a + n ≤ l.length → chg ms n = true → splitP (spl l ms a n) = ([], 6) := fun a n h1 h2 h3 h4 => by
    rw [hjt] at h3 ⊢
    exact spoilt_file (c := (k, b)) hk1 hk2 (by simp only; omega) (by omega) h1 h2 h3 h4
  obtain ⟨pn, hpn⟩ : ∃ pn, (put b.length).length = pn := ⟨_, rfl⟩
  rw [hpn] at hfl hput hput0 hspo
  have hll : l.length = 10 + pn + b.length := by omega
  obtain ⟨S, hS⟩ : ∃ S, ba l = S := ⟨_, rfl⟩
  have hSs : S.size = 10 + pn + b.length := by rw [← hS, ba_size, hll]
  have hcv := fun wx : World => run_bytes_of_string (P := Try.prog) wx 9 42 5 S Try.underlying9 Try.underlying42 Try.underlying5
  obtain ⟨c0, c1, c2, c3⟩ := pair_new w (.int .i64 k) (.string (ba b)) 32
  have hm0 : MRow ((w.alloc (.cells #[.int .i64 k, .string (ba b)] 32)).alloc (.cells #[bc b0, bc b1, bc b2, bc b3] 41)) (w.heap.size + 1) ms := by
    have := mrow_new (w.alloc (.cells #[.int .i64 k, .string (ba b)] 32)) b0 b1 b2 b3
    rw [World.size_alloc] at this
    rw [hms]; exact this
  have hb0 := c3.alloc (Nat.le_of_lt c2) (.cells #[bc b0, bc b1, bc b2, bc b3] 41)
  have HS := Lib.hid hS
  have HJ := Lib.hid hje
  have HP := Lib.hid hjp
  have HV := Lib.hid hjv
  have HSP := Lib.hid hspo
  have HM0 := Lib.hid hm0
  have HB0 := Lib.hid hb0
  have HL := Lib.hid hl
  clear hS hje hjp hjv hspo hm0 hb0 hl hjt hpn hjs hms
  go_enter Try.func6, Try.ntmps6
  go_wp2_with fail
  have hn := at_new2 ((w.alloc (.cells #[.int .i64 k, .string (ba b)] 32)).alloc (.cells #[bc b0, bc b1, bc b2, bc b3] 41)) 32 (cvs [(k, b)]) (w.heap.size + 1 + 1) (by simp)
  have hX := (Below.refl _ ((w.alloc (.cells #[.int .i64 k, .string (ba b)] 32)).alloc (.cells #[bc b0, bc b1, bc b2, bc b3] 41))).alloc (Nat.le_refl _) (.cells (cvs [(k, b)]).toArray 32)
  have hbX := HB0.out.trans (hX.mono HB0.out.size)
  have hmX := mrow_keep HM0.out hX
  have hcX0 := keep_cell hX (keep_cell ((Below.refl _ _).alloc (Nat.le_refl _) (.cells #[bc b0, bc b1, bc b2, bc b3] 41)) c0)
  have hcX1 := keep_cell hX (keep_cell ((Below.refl _ _).alloc (Nat.le_refl _) (.cells #[bc b0, bc b1, bc b2, bc b3] 41)) c1)
  refine (join_k [(k, b)] S 0 rfl (by rw [HL.out, HS.out]) HJ.out (by omega) (by simp) hn).mono ?_
  rintro e w1 ⟨rfl, hm⟩
  have hb1 := hbX.trans (hm.mono hbX.size)
  have hm1 := mrow_keep hmX hm
  have c0 := keep_cell hm hcX0
  have c1 := keep_cell hm hcX1
  have hsz1 : w.heap.size + 1 < w1.heap.size := hm1.1
  have hlt11 : ¬ ((10 : Int) + (pn : Int) + (b.length : Int) < 11 + (b.length : Int)) := by omega
  clear hX hbX hmX hcX0 hcX1 hn hm
  by_cases hat : x < ((6 + pn : Nat) : Int) ∨ ((10 + pn + b.length : Nat) : Int) ≤ x
  · have hway : x < 6 + (pn : Int) ∨ (¬ x < 6 + (pn : Int) ∧ 10 + (pn : Int) + (b.length : Int) ≤ x) := by omega
    clear hat hcv
    rcases hway with h1 | ⟨h1, h2⟩
    · go_wp2_with fail
      refine (live11_c _).mono ?_
      rintro e w4 ⟨rfl, hm⟩
      have hb4 := hb1.trans (hm.mono hb1.size)
      go_wp2_with fail
      go_ret
      exact ⟨rfl, hb4⟩
    · go_wp2_with fail
      refine (live11_c _).mono ?_
      rintro e w4 ⟨rfl, hm⟩
      have hb4 := hb1.trans (hm.mono hb1.size)
      go_wp2_with fail
      go_ret
      exact ⟨rfl, hb4⟩
  · obtain ⟨a, ha⟩ : ∃ a : Nat, x = (a : Int) := ⟨x.toNat, by omega⟩
    subst ha
    have ha1 : 6 + pn ≤ a := by omega
    have ha2 : a < 10 + pn + b.length := by omega
    have h1 : ¬ (a : Int) < 6 + (pn : Int) := by omega
    have h2 : ¬ 10 + (pn : Int) + (b.length : Int) ≤ (a : Int) := by omega
    have hr0 := fun cap => byteRow_new w1 l cap
    rw [HS.out] at hr0
    have HR0 := Lib.hid hr0
    clear hat hr0
    go_wp2_with fail
    have hsl : S.size = l.length := by rw [hSs, hll]
    clear hcv
    go_loopw [11, 12] (fun c i wr => ∃ n : Nat, n ≤ 4 ∧ a + n ≤ l.length ∧ i = .int .i64 (n : Int) ∧ c = .bool (chg ms n) ∧ ByteRow wr w1.heap.size (spl l ms a n) ∧ MRow wr (w.heap.size + 1) ms ∧ Below w.heap.size w wr) (fun _ i _ => 4 - (intOf i).toNat)
    case atStart =>
      refine ⟨0, by omega, by omega, rfl, rfl, by rw [spl_zero]; exact HR0.out _, mrow_keep hm1 ((Below.refl _ _).alloc (Nat.le_refl _) _).drew, (hb1.alloc hb1.size _).drew⟩
    case round =>
      obtain ⟨n, hk, hak, rfl, rfl, hrow, hmr, hb⟩ := hrel
      clear HR0 hm1 c0 c1
      by_cases hgo : n < 4 ∧ a + n < l.length
      · obtain ⟨h4, hal⟩ := hgo
        obtain ⟨m, hm⟩ : ∃ m, ms[n]? = some m := ⟨ms[n], by simp [hml, h4]⟩
        obtain ⟨bb, hbk⟩ : ∃ bb, l[a + n]? = some bb := ⟨l[a + n], by simp [hal]⟩
        have c1 : wr.cell? ⟨w1.heap.size, a + n, none⟩ = some (.int .u8 (bb.toNat : Int)) := hrow.2.1 (a + n) bb (by rw [spl_at hal, ← hbk]; simp [hal])
        have f1 : wr.frozen? ⟨w1.heap.size, a + n, none⟩ = false := hrow.2.2 (a + n) (by rw [spl_len]; exact hal)
        have c2 : wr.cell? ⟨w.heap.size + 1, n, none⟩ = some (.int .u8 (m.toNat : Int)) := hmr.2 n m hm
        have hx : bits .xor .u8 (bb.toNat : Int) (m.toNat : Int) = ((bb ^^^ m).toNat : Int) := by rw [u8_xor_nat _ _ bb.toNat_lt m.toNat_lt, UInt8.toNat_xor]
        have hrow2 := byteRow_set hrow (i := a + n) (by rw [spl_len]; exact hal) (bb ^^^ m)
        rw [spl_set hbk hm] at hrow2
        have hmr2 : MRow (wr.setCell ⟨w1.heap.size, a + n, none⟩ (bc (bb ^^^ m))) (w.heap.size + 1) ms := ⟨by simpa [World.setCell] using hmr.1, fun i c hc => by
          rw [World.cell?_setCell_other _ _ _ _ (by simp <;> omega)]
          exact hmr.2 i c hc⟩
        have c3 : (wr.setCell ⟨w1.heap.size, a + n, none⟩ (bc (bb ^^^ m))).cell? ⟨w.heap.size + 1, n, none⟩ = some (.int .u8 (m.toNat : Int)) := hmr2.2 n m hm
        have hb2 : Below w.heap.size w (wr.setCell ⟨w1.heap.size, a + n, none⟩ (bc (bb ^^^ m))) := below_set hb (by omega)
        obtain ⟨q, hq1, hq2⟩ : ∃ q, ((m.toNat : Int) != 0) = q ∧ (m != 0) = q := by
          refine ⟨_, rfl, ?_⟩
          by_cases e : m = 0
          · rw [e]; rfl
          · have : m.toNat ≠ 0 := fun k => e (UInt8.toNat_inj.1 k)
            rw [bne_iff_ne.2 e, bne_iff_ne.2 (by omega)]
        have hv : bc (bb ^^^ m) = .int .u8 ((bb.toNat ^^^ m.toNat : Nat) : Int) := by unfold bc; rw [UInt8.toNat_xor]
        rw [hv] at hrow2 hmr2 c3 hb2
        clear hv
        have hnext := chg_next hm
        rw [hq2] at hnext
        have HN := Lib.hid hnext
        have HROW := Lib.hid hrow2
        have HMR := Lib.hid hmr2
        have HB2 := Lib.hid hb2
        have t1 : decide ((n : Int) < 4) = true := decide_eq_true (by omega)
        have t2 : decide ((a : Int) + (n : Int) < (l.length : Int)) = true := decide_eq_true (by omega)
        have t3 : decide ((a : Int) + (n : Int) < (S.size : Int)) = true := decide_eq_true (by omega)
        clear hq2 hnext hrow2 hmr2 hb2 hrow hmr hm hbk
        cases hch : chg ms n
        all_goals
          go_wp2_with fail
          go_region
          all_goals go_wp2_with fail
          go_roundw
          case rel => exact ⟨n + 1, by omega, by omega, by go_num, by rw [HN.out, hch]; rfl, HROW.out, HMR.out, HB2.out.drew⟩
          case measure => simp [intOf]; omega
      · obtain ⟨xs, hxs⟩ : ∃ xs, xs = spl l ms a n := ⟨_, rfl⟩
        have hxl : xs.length = l.length := by rw [hxs, spl_len]
        rw [← hxs] at hrow
        have hcvt : ∀ (cap : Nat), (convert 42 9 (.slice (some ⟨w1.heap.size, 0, none⟩) (10 + pn + b.length) cap)).run Try.prog wr = .ok (.string (ba xs)) wr := fun cap => byteRow_conv (by rw [hxl, hll]) hrow
        have hout : (decide ((n : Int) < 4) = false) ∨ (decide ((n : Int) < 4) = true ∧ decide ((a : Int) + (n : Int) < 10 + (pn : Int) + (b.length : Int)) = false) := by
          by_cases h4 : n < 4
          · exact .inr ⟨decide_eq_true (by omega), decide_eq_false (by omega)⟩
          · exact .inl (decide_eq_false (by omega))
        have hxl2 : xs.length ≤ 100000 := by omega
        cases hch : chg ms n
        · have hsame := spl_same (l := l) (a := a) hch
          rw [hsame] at hxs
          rw [hxs] at hcvt
          have hl2 : l.length ≤ 100000 := by omega
          clear hsame hrow hmr hxs hxl hxl2
          rcases hout with t1 | ⟨t1, t2⟩
          all_goals
            go_wp2_with fail
            refine (split_k l [(k, b)] 1 0 rfl HP.out HV.out hl2 _).mono ?_
            rintro e w4 ⟨A4, k4, rfl, -, hm⟩
            have hb4 := hb.trans (hm.mono hb.size)
            go_wp2_with fail
            refine (live11_c _).mono ?_
            rintro e w5 ⟨rfl, hm⟩
            have hb5 := hb4.trans (hm.mono hb4.size)
            go_wp2_with fail
            go_ret
            exact ⟨rfl, hb5⟩
        · have hsp := HSP.out a n hk ha1 hak hch
          rw [← hxs] at hsp
          have hsv : splitV xs = 0 := by unfold splitV; rw [hsp]; rfl
          have HSV := Lib.hid hsv
          have HSPP := Lib.hid hsp
          clear hrow hmr hxs hxl hsp hsv
          rcases hout with t1 | ⟨t1, t2⟩
          all_goals
            go_wp2_with fail
            refine (split_k xs [] 0 6 rfl HSPP.out HSV.out hxl2 _).mono ?_
            rintro e w4 ⟨A4, k4, rfl, -, hm⟩
            have hb4 := hb.trans (hm.mono hb.size)
            go_wp2_with fail
            refine (live11_c _).mono ?_
            rintro e w5 ⟨rfl, hm⟩
            have hb5 := hb4.trans (hm.mono hb4.size)
            go_wp2_with fail
            go_ret
            exact ⟨rfl, hb5⟩
end chunkSpoils
end Go.Proofs.Ytcbkggjphoeceaa
