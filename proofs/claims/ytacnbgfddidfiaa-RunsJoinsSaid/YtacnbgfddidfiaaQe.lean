/-
  How many numbers runs spread to; one run laid; Spread.
-/
import Derived.Test.YtacnbgfddidfiaaQd
import Derived.Test.YtacnbgfddidfiaaRh
namespace Go.Proofs.Ytacnbgfddidfiaa
open Go.RowKit Go.IntWalk
open Pk
set_option maxRecDepth 100000
attribute [local go_sem] Oper.semAt_some

theorem grown_tr {w w1 w2 : World} {r : Option Nat} (h : w.grownBy w1 r) (k : w1.grownBy w2 r) : w.grownBy w2 r :=
  ⟨k.os.trans h.os, k.tape.trans h.tape, k.output.trans h.output, Nat.le_trans h.size k.size, fun i hi hne => (k.block i (Nat.lt_of_lt_of_le hi h.size) hne).trans (h.block i hi hne)⟩
theorem rep_snoc (v k : Nat) : List.replicate (k + 1) v = List.replicate k v ++ [v] := by rw [List.replicate_succ']
theorem uvs_snoc (xs : List Nat) (v : Nat) : uvs (xs ++ [v]) = uvs xs ++ [.int .u64 (v : Int)] := by simp [uvs]
theorem Try.info34 : (Try.prog.info? 34).map (fun i => (i.zero, i.size, i.bytes)) = some (some (.int .u64 0), 1, 8) := by kernel_rfl

set_option maxHeartbeats 4000000 in
theorem lay_c (base g n cap v m : Nat) (xs : List Nat) (hm : m ≤ 100000) (_ : n ≤ 100000) (hcap : n + m ≤ cap) (w : World) (hg : g < w.heap.size) (hown : w.ownsRow base 34 1 (.slice (some ⟨g, 0, none⟩) n cap) n (uvs xs)) :
    Calls Try.prog 52 #[.slice (some ⟨g, 0, none⟩) n cap, .agg #[.int .u64 (v : Int), .int .i64 (m : Int)]] w fun e w' => e = .returned (.slice (some ⟨g, 0, none⟩) (n + m) cap) ∧
      w'.ownsRow base 34 1 (.slice (some ⟨g, 0, none⟩) (n + m) cap) (n + m) (uvs (xs ++ List.replicate m v)) ∧ w.grownBy w' (some g) := by
  obtain ⟨i0, hi, hz0, hz1, hz2⟩ := info_parts Try.info34
  go_enter Try.func52, Try.ntmps52
  go_wp2_with fail
  go_loopw [0, 7] (fun s i wr => ∃ k : Nat, s = .slice (some ⟨g, 0, none⟩) (n + k) cap ∧ i = .int .i64 (k : Int) ∧ k ≤ m ∧ wr.ownsRow base 34 1 (.slice (some ⟨g, 0, none⟩) (n + k) cap) (n + k) (uvs (xs ++ List.replicate k v)) ∧ w.grownBy wr (some g) ∧ wr.cell? ⟨w.heap.size, 0, none⟩ = some (.int .u64 (v : Int)))
    (fun _ i _ => m - (intOf i).toNat)
  case atStart => exact ⟨0, rfl, rfl, Nat.zero_le _, by simpa using hown.alloc _, World.grownBy_alloc _ _ _, by simp⟩
  case round =>
    obtain ⟨k, rfl, rfl, hk, hown, hgr, hcv⟩ := hrel
    by_cases hlt : k < m
    · go_wp2_with (at_builtin; refine wpList_append_fits _ rfl _ _ 37 rfl base 34 i0 1 Try.underlying37 hi hz1 g (n + k) cap _ rfl (hown.alloc _) ⟨wr.heap.size, 0, none⟩ 1 1 [.int .u64 (v : Int)] rfl rfl (cell_one_new _ _ _) (by simp [Value.oneCell']) (by omega) ?_; intro w2 hown' hgrow)
      go_roundw
      case rel =>
        refine ⟨k + 1, rfl, by go_num, by omega, ?_, grown_tr (grown_tr hgr (World.grownBy_alloc _ _ _)) hgrow, ?_⟩
        · rw [rep_snoc, ← List.append_assoc, uvs_snoc]
          exact hown'
        · refine only_cell hgrow (p := ⟨w.heap.size, 0, none⟩) ?_ (by show w.heap.size ≠ g; omega)
          exact only_cell (World.grownBy_alloc wr _ (some g)) (p := ⟨w.heap.size, 0, none⟩) hcv (by show w.heap.size ≠ g; omega)
      case measure => simp only [intOf]; omega
    · obtain rfl : k = m := by omega
      go_wp2_with fail
      go_ret
      exact ⟨rfl, hown, hgr⟩

theorem spr_take_step {r : List Run} {k v : Nat} {c : Int} (h : r[k]? = some (v, c)) : spr (r.take (k + 1)) = spr (r.take k) ++ List.replicate c.toNat v := by
  rw [List.take_add_one, h, spr_app]
  simp [spr]
theorem spr_take_le (r : List Run) (k : Nat) : (spr (r.take k)).length ≤ (spr r).length := by
  have : r = r.take k ++ r.drop k := (List.take_append_drop k r).symm
  conv => rhs; rw [this, spr_app, List.length_append]
  omega
def szV (r : List Run) (most : Int) : Value := if ((spr r).length : Int) ≤ most then .tuple #[.int .i64 ((spr r).length : Int), .bool true] else .tuple #[.int .i64 0, .bool false]
theorem szV_ok {r : List Run} {most : Int} (h : ((spr r).length : Int) ≤ most) : szV r most = .tuple #[.int .i64 ((spr r).length : Int), .bool true] := if_pos h
theorem szV_far {r : List Run} {most : Int} (h : most < ((spr r).length : Int)) : szV r most = .tuple #[.int .i64 0, .bool false] := if_neg (by omega)

set_option maxHeartbeats 4000000 in
theorem size_c (A : Option Addr) (cap : Nat) (r : List Run) (most : Int) (hr : r.length ≤ 100000) (hm1 : -9223372036854775808 ≤ most) (hm2 : most ≤ 100000) (hri : ∀ x ∈ r, In64 x.2) (hmay : mayP none r = true) (w : World) (hc : At w w.heap.size A (rvs r)) :
    Calls Try.prog 51 #[.slice A r.length cap, .int .i64 most] w fun e w' => e = .returned (szV r most) ∧ Below w.heap.size w w' := by
  have HC := Lib.hid hc
  have HP := Lib.hid (fun x hx => may_pos (r := r) hmay (x := x) hx)
  have HRI := Lib.hid hri
  clear hc hmay hri
  go_enter Try.func51, Try.ntmps51
  go_wp2_with fail
  go_loopw [6, 12] (fun l i wr => ∃ (k : Nat) (L : Int), l = .int .i64 L ∧ i = .int .i64 (k : Int) ∧ k ≤ r.length ∧ L = most - ((spr (r.take k)).length : Int) ∧ (k = 0 ∨ 0 ≤ L) ∧ Below w.heap.size w wr)
    (fun _ i _ => r.length - (intOf i).toNat)
  case atStart => exact ⟨0, most, rfl, rfl, Nat.zero_le _, by simp [spr], .inl rfl, Below.refl _ _⟩
  case round =>
    obtain ⟨k, L, rfl, rfl, hk, hL, hk0, hb⟩ := hrel
    have hb0 := hb.size
    have hle := spr_take_le r k
    have hz : k = 0 → (spr (r.take k)).length = 0 := by rintro rfl; rfl
    by_cases hlt : k < r.length
    · obtain ⟨⟨v, c⟩, hxk⟩ := some_at hlt
      obtain ⟨b, off, rfl, hbl, hcv, hcc⟩ := run_cells (HC.out.below hb) hxk
      dsimp only at hcv hcc
      have hc1 := HP.out _ (mem_at hxk)
      have hst := congrArg List.length (spr_take_step hxk)
      rw [List.length_append, List.length_replicate] at hst
      have hle2 := spr_take_le r (k + 1)
      have hci : In64 c := HRI.out _ (mem_at hxk)
      dsimp only at hc1
      unfold In64 at hci
      obtain ⟨hci1, hci2⟩ := hci
      have hLl : -9223372036854775808 ≤ L := by omega
      have hLh : L ≤ 100000 := by omega
      have hfar : L < c → most < ((spr r).length : Int) := by omega
      have hnew : L - c = most - ((spr (r.take (k + 1))).length : Int) := by omega
      have HF := Lib.hid hfar
      have HN := Lib.hid hnew
      clear hz hle hle2 hst hL hk0 hfar hnew hxk
      by_cases hcl : L < c
      · have t1 : decide (L < c) = true := by simp [hcl]
        have HCL := Lib.hid hcl
        clear hcl
        go_wp2_with fail
        go_ret2
        exact ⟨by rw [szV_far (HF.out HCL.out)]; rfl, hb.alloc hb0 _⟩
      · have t1 : decide (L < c) = false := by simp; omega
        go_wp2_with fail
        go_roundw
        case rel => exact ⟨k + 1, L - c, rfl, by go_num, by omega, HN.out, .inr (by omega), hb.alloc hb0 _⟩
        case measure => simp only [intOf]; omega
    · obtain rfl : k = r.length := by omega
      rw [List.take_length] at hL
      have hlen : ((spr r).length : Int) = most - L := by omega
      by_cases hneg : L < 0
      · have t1 : decide (L < 0) = true := by simp [hneg]
        have hfar : most < ((spr r).length : Int) := by omega
        have HF := Lib.hid hfar
        clear hz hle hfar hL hlen hk0
        go_wp2_with fail
        go_ret2
        exact ⟨by rw [szV_far HF.out]; rfl, hb⟩
      · have t1 : decide (L < 0) = false := by simp; omega
        have hin : ((spr r).length : Int) ≤ most := by omega
        have hL2 : L ≤ most := by omega
        have hL0 : 0 ≤ L := by omega
        have HF := Lib.hid hin
        have HL := Lib.hid hlen
        clear hz hle hin hL hlen hk0 hneg
        go_wp2_with fail
        go_ret2
        exact ⟨by rw [szV_ok HF.out, HL.out]; rfl, hb⟩
end Go.Proofs.Ytacnbgfddidfiaa
