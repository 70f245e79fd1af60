/-
  The walk of CrcSpoils.
-/
import Derived.Test.YtjjbiepmfngipaaKk
import Derived.Deep.QuietTactic
import Derived.BigQuiet
import Derived.Deep.RegionHeld3
namespace Go.Proofs.Ytjjbiepmfngipaa
open Go.RowKit
open Cr
set_option maxRecDepth 100000

namespace crcSpoils
theorem live (l : List UInt8) (x : Int) (b0 b1 b2 b3 : UInt8) (hz : l.length ≤ 9223372036854775807) (h : 500 < l.length ∨ x < 0 ∨ (l.length : Int) ≤ x) (w : World) :
    Calls Try.prog 10 #[.string (ba l), .int .i64 x, .agg #[bc b0, bc b1, bc b2, bc b3]] w fun e w' => e = .returned (.bool true) ∧ Below w.heap.size w w' := by
  have hb0 : Below w.heap.size w (w.alloc (.cells #[bc b0, bc b1, bc b2, bc b3] 45)) := (Below.refl _ _).alloc (Nat.le_refl _) _
  have hs := ba_size l
  by_cases h1 : 500 < l.length
  · clear h
    go_enter Try.func10, Try.ntmps10
    go_wp2_with fail
    refine (live10_c _).mono ?_
    rintro e w1 ⟨rfl, hb1⟩
    go_wp2
    go_ret
    exact ⟨rfl, hb0.trans (hb1.mono hb0.size)⟩
  · by_cases h2 : x < 0
    · clear h
      go_enter Try.func10, Try.ntmps10
      go_wp2_with fail
      refine (live10_c _).mono ?_
      rintro e w1 ⟨rfl, hb1⟩
      go_wp2
      go_ret
      exact ⟨rfl, hb0.trans (hb1.mono hb0.size)⟩
    · have h3 : (l.length : Int) ≤ x := by omega
      clear h
      go_enter Try.func10, Try.ntmps10
      go_wp2_with fail
      refine (live10_c _).mono ?_
      rintro e w1 ⟨rfl, hb1⟩
      go_wp2
      go_ret
      exact ⟨rfl, hb0.trans (hb1.mono hb0.size)⟩

theorem row_go {G : Nat} {w wr w1 w2 : World} (h : G < w1.heap.size ∧ w1.heap[G]? = wr.heap[G]? ∧ Below w.heap.size w w1) (hb : Below w1.heap.size w1 w2) : G < w2.heap.size ∧ w2.heap[G]? = wr.heap[G]? ∧ Below w.heap.size w w2 :=
  ⟨Nat.lt_of_lt_of_le h.1 hb.size, (hb.block G h.1).trans h.2.1, h.2.2.trans (hb.mono h.2.2.size)⟩
theorem row_below {G : Nat} {w wr w1 : World} (h : G < w1.heap.size ∧ w1.heap[G]? = wr.heap[G]? ∧ Below w.heap.size w w1) : Below w.heap.size w w1 := h.2.2
theorem byteRow_heap {w w' : World} {G cap n : Nat} {xs : List UInt8} (hn : n = xs.length) (h : ByteRow w G xs) (hw : w'.heap[G]? = w.heap[G]?) : (convert 46 9 (.slice (some ⟨G, 0, none⟩) n cap)).run Try.prog w' = .ok (.string (ba xs)) w' := by
  subst hn
  refine run_convert_bytes_back w' 46 9 5 ⟨G, 0, none⟩ cap xs Try.underlying46 Try.underlying5 Try.underlying9 fun j hj => ?_
  rw [add_head, World.cell?_of_block (w := w) hw]
  exact h.2.1 j xs[j] (by simp [hj])
/-- the masks -/
def MRow (w : World) (M : Nat) (ms : List UInt8) : Prop := ∀ (i : Nat) (b : UInt8), ms[i]? = some b → w.cell? ⟨M, i, none⟩ = some (bc b)
theorem mrow_new (w : World) (b0 b1 b2 b3 : UInt8) : MRow (w.alloc (.cells #[bc b0, bc b1, bc b2, bc b3] 45)) w.heap.size [b0, b1, b2, b3] := by
  intro i b hb
  rw [World.cell?_alloc_at _ _ _ _ rfl]
  match i, hb with
  | 0, hb => cases hb; rfl
  | 1, hb => cases hb; rfl
  | 2, hb => cases hb; rfl
  | 3, hb => cases hb; rfl
set_option maxHeartbeats 4000000 in
theorem walk_in (l : List UInt8) (a : Nat) (b0 b1 b2 b3 : UInt8) (h500 : l.length ≤ 500) (ha : a < l.length) (w : World) :
    Calls Try.prog 10 #[.string (ba l), .int .i64 (a : Int), .agg #[bc b0, bc b1, bc b2, bc b3]] w fun e w' => e = .returned (.bool true) ∧ Below w.heap.size w w' := by
  have hs := ba_size l
  obtain ⟨ms, hms⟩ : ∃ ms, ms = [b0, b1, b2, b3] := ⟨_, rfl⟩
  have hml : ms.length = 4 := by rw [hms]; rfl
  have hcv := fun wx : World => run_bytes_of_string (P := Try.prog) wx 9 46 5 (ba l) Try.underlying9 Try.underlying46 Try.underlying5
  have hb0 : Below w.heap.size w (w.alloc (.cells #[bc b0, bc b1, bc b2, bc b3] 45)) := (Below.refl _ _).alloc (Nat.le_refl _) _
  have hm0 : MRow (w.alloc (.cells #[bc b0, bc b1, bc b2, bc b3] 45)) w.heap.size ms := by rw [hms]; exact mrow_new w b0 b1 b2 b3
  have hr0 := fun cap => byteRow_new (w.alloc (.cells #[bc b0, bc b1, bc b2, bc b3] 45)) l cap
  have hsz : (w.alloc (.cells #[bc b0, bc b1, bc b2, bc b3] 45)).heap.size = w.heap.size + 1 := by simp
  rw [hsz] at hr0
  have HR0 := Lib.hid hr0
  have HM0 := Lib.hid hm0
  have HB0 := Lib.hid hb0
  have HSZ := Lib.hid hsz
  clear hr0 hm0 hb0 hsz
  go_enter Try.func10, Try.ntmps10
  go_wp2_with fail
  clear hcv
  go_loopw [8, 9] (fun c i wr => ∃ k : Nat, k ≤ 4 ∧ a + k ≤ l.length ∧ i = .int .i64 (k : Int) ∧ c = .bool (chg ms k) ∧ ByteRow wr (w.heap.size + 1) (spl l ms a k) ∧ MRow wr w.heap.size ms ∧ Below w.heap.size w wr) (fun _ i _ => 4 - (intOf i).toNat)
  case atStart =>
    refine ⟨0, by omega, by omega, rfl, rfl, by rw [spl_zero]; exact HR0.out _, fun i b hb => ?_, ?_⟩
    · have := HM0.out i b hb
      rw [← this]
      exact World.cell?_alloc_lt _ _ _ (by rw [HSZ.out]; show w.heap.size < _; omega)
    · exact (HB0.out.alloc (by rw [HSZ.out]; omega) _).drew
  case round =>
    obtain ⟨k, hk, hak, rfl, rfl, hrow, hmr, hb⟩ := hrel
    clear HR0 HM0 HB0 HSZ
    by_cases hgo : k < 4 ∧ a + k < l.length
    · obtain ⟨h4, hal⟩ := hgo
      obtain ⟨m, hm⟩ : ∃ m, ms[k]? = some m := ⟨ms[k], by simp [hml, h4]⟩
      obtain ⟨b, hbk⟩ : ∃ b, l[a + k]? = some b := ⟨l[a + k], by simp [hal]⟩
      have c1 : wr.cell? ⟨w.heap.size + 1, a + k, none⟩ = some (.int .u8 (b.toNat : Int)) := hrow.2.1 (a + k) b (by rw [spl_at hal, ← hbk]; simp [hal])
      have f1 : wr.frozen? ⟨w.heap.size + 1, a + k, none⟩ = false := hrow.2.2 (a + k) (by rw [spl_len]; exact hal)
      have c2 : wr.cell? ⟨w.heap.size, k, none⟩ = some (.int .u8 (m.toNat : Int)) := hmr k m hm
      have hx : bits .xor .u8 (b.toNat : Int) (m.toNat : Int) = ((b ^^^ m).toNat : Int) := by rw [u8_xor_nat _ _ b.toNat_lt m.toNat_lt, UInt8.toNat_xor]
      have hrow2 := byteRow_set hrow (i := a + k) (by rw [spl_len]; exact hal) (b ^^^ m)
      rw [spl_set hbk hm] at hrow2
      have hmr2 : MRow (wr.setCell ⟨w.heap.size + 1, a + k, none⟩ (bc (b ^^^ m))) w.heap.size ms := fun i c hc => by
        rw [World.cell?_setCell_other _ _ _ _ (by simp)]
        exact hmr i c hc
      have c3 : (wr.setCell ⟨w.heap.size + 1, a + k, none⟩ (bc (b ^^^ m))).cell? ⟨w.heap.size, k, none⟩ = some (.int .u8 (m.toNat : Int)) := hmr2 k m hm
      have hb2 : Below w.heap.size w (wr.setCell ⟨w.heap.size + 1, a + k, none⟩ (bc (b ^^^ m))) := below_set hb (by omega)
      obtain ⟨q, hq1, hq2⟩ : ∃ q, ((m.toNat : Int) != 0) = q ∧ (m != 0) = q := by
        refine ⟨_, rfl, ?_⟩
        by_cases e : m = 0
        · rw [e]; rfl
        · have : m.toNat ≠ 0 := fun k => e (UInt8.toNat_inj.1 k)
          rw [bne_iff_ne.2 e, bne_iff_ne.2 (by omega)]
      have hv : bc (b ^^^ m) = .int .u8 ((b.toNat ^^^ m.toNat : Nat) : Int) := by unfold bc; rw [UInt8.toNat_xor]
      rw [hv] at hrow2 hmr2 c3 hb2
      clear hv
      have hnext := chg_next hm
      rw [hq2] at hnext
      have HN := Lib.hid hnext
      have HROW := Lib.hid hrow2
      have HMR := Lib.hid hmr2
      have HB2 := Lib.hid hb2
      have t1 : decide ((k : Int) < 4) = true := decide_eq_true (by omega)
      have t2 : decide ((a : Int) + (k : Int) < (l.length : Int)) = true := decide_eq_true (by omega)
      clear hq2 hnext hrow2 hmr2 hb2 hrow hmr hm hbk
      cases hch : chg ms k
      · go_wp2_with fail
        go_region
        all_goals go_wp2_with fail
        go_roundw
        case rel => exact ⟨k + 1, by omega, by omega, by go_num, by rw [HN.out, hch]; rfl, HROW.out, HMR.out, HB2.out.drew⟩
        case measure => simp [intOf]; omega
      · go_wp2_with fail
        go_region
        all_goals go_wp2_with fail
        go_roundw
        case rel => exact ⟨k + 1, by omega, by omega, by go_num, by rw [HN.out, hch]; rfl, HROW.out, HMR.out, HB2.out.drew⟩
        case measure => simp [intOf]; omega
    · have hsum := spl_sum l ms a k (by omega) hk hak
      obtain ⟨xs, hxs⟩ : ∃ xs, xs = spl l ms a k := ⟨_, rfl⟩
      have hxl : xs.length = l.length := by rw [hxs, spl_len]
      rw [← hxs] at hrow hsum
      have hne : (((more 0 (bn l) : Nat) : Int) != ((more 0 (bn xs) : Nat) : Int)) = chg ms k := by
        rw [← hsum]
        by_cases e : more 0 (bn l) = more 0 (bn xs)
        · rw [e]; simp
        · rw [bne_iff_ne.2 e, bne_iff_ne.2 (by omega)]
      have hcvt : ∀ (cap : Nat) (w' : World), w'.heap[w.heap.size + 1]? = wr.heap[w.heap.size + 1]? → (convert 46 9 (.slice (some ⟨w.heap.size + 1, 0, none⟩) l.length cap)).run Try.prog w' = .ok (.string (ba xs)) w' := fun cap w' hw => byteRow_heap hxl.symm hrow hw
      have hG := hrow.1
      have hl1 : l.length ≤ 9223372036854775807 := by omega
      have hl2 : xs.length ≤ 9223372036854775807 := by omega
      clear hsum hxs hxl hrow hmr
      have hout : (decide ((k : Int) < 4) = false) ∨ (decide ((k : Int) < 4) = true ∧ decide ((a : Int) + (k : Int) < (l.length : Int)) = false) := by
        by_cases h4 : k < 4
        · exact .inr ⟨decide_eq_true (by omega), decide_eq_false (by omega)⟩
        · exact .inl (decide_eq_false (by omega))
      rcases hout with t1 | ⟨t1, t2⟩
      all_goals
        go_wp2_with fail
        go_region_held (fun w' => w.heap.size + 1 < w'.heap.size ∧ w'.heap[w.heap.size + 1]? = wr.heap[w.heap.size + 1]? ∧ Below w.heap.size w w')
          (first
            | (exact row_go (by assumption) hbn)
            | (exact row_go (by assumption) (Below.refl _ _).drew)
            | (exact row_go ⟨hG, rfl, hb⟩ (Below.refl _ _).drew)
            | go_keep)
          (first
            | (go_at_call 24; refine (sum_c l hl1 _).mono ?_; rintro e w2 ⟨rfl, rfl⟩)
            | (go_at_call 24; refine (sum_c xs hl2 _).mono ?_; rintro e w2 ⟨rfl, rfl⟩)
            | (go_at_call 23; refine (live10_c _).mono ?_; rintro e w2 ⟨rfl, hbn⟩))
        all_goals
          go_wp2
          go_ret
          exact ⟨rfl, row_below (G := w.heap.size + 1) (wr := wr) (by assumption)⟩
theorem walk (l : List UInt8) (x : Int) (b0 b1 b2 b3 : UInt8) (hz : l.length ≤ maxLen) (_hwf : (Lit.int .i64 x).wf = true) (w : World) :
    Calls Try.prog 10 #[.string (ba l), .int .i64 x, .agg #[bc b0, bc b1, bc b2, bc b3]] w fun e w' => e = .returned (.bool true) ∧ Below w.heap.size w w' := by
  unfold maxLen at hz
  by_cases h : 500 < l.length ∨ x < 0 ∨ (l.length : Int) ≤ x
  · exact live l x b0 b1 b2 b3 (by omega) h w
  · obtain ⟨a, rfl⟩ : ∃ a : Nat, x = (a : Int) := ⟨x.toNat, by omega⟩
    exact walk_in l a b0 b1 b2 b3 (by omega) (by omega) w
end crcSpoils
end Go.Proofs.Ytjjbiepmfngipaa
