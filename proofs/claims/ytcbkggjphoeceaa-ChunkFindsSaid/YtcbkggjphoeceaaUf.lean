/-
  Chunks as a file: the program's, and the document's; two lists of chunks held against each other.
-/
import Derived.Test.YtcbkggjphoeceaaUe
namespace Go.Proofs.Ytcbkggjphoeceaa
open Go.RowKit Go.IntWalk
open Pk Cr Ck
set_option maxRecDepth 100000
attribute [local go_sem] Oper.semAt_some

theorem flat_pre (l : List Chk) (j : Nat) : (flat (l.take j)).length ≤ (flat l).length := by
  have := congrArg List.length (flat_append (l.take j) (l.drop j))
  rw [List.take_append_drop, List.length_append] at this
  omega
theorem flat_body {l : List Chk} {j : Nat} {c : Chk} (h : l[j]? = some c) : (flat (l.take j)).length + (one c).length ≤ (flat l).length ∧ c.2.length ≤ (flat l).length := by
  have h1 := flat_pre l (j + 1)
  rw [flat_take h, List.length_append] at h1
  have := one_len c
  omega

def JoinEnd (v : Int) (l : List Chk) (w : World) (e : Ending) (w' : World) : Prop := e = .returned (.tuple #[.string (ba (joinT v l)), .int .i64 (joinE v l)]) ∧ Below w.heap.size w w'
theorem joinEnd_arg {v : Int} {l : List Chk} {w w' : World} (h : v < 0 ∨ 255 < v) (hb : Below w.heap.size w w') : JoinEnd v l w (.returned (.tuple #[.string ⟨#[]⟩, .int .i64 1])) w' := by
  refine ⟨?_, hb⟩
  unfold joinT joinE
  rw [if_pos h, if_pos h]; rfl
theorem joinEnd_bad {v x : Int} {l : List Chk} {w w' : World} (h : ¬(v < 0 ∨ 255 < v)) (hx : bad 0 l = x) (h0 : x ≠ 0) (hb : Below w.heap.size w w') : JoinEnd v l w (.returned (.tuple #[.string ⟨#[]⟩, .int .i64 x])) w' := by
  refine ⟨?_, hb⟩
  unfold joinT joinE
  rw [if_neg h, if_neg h, if_neg (by rw [hx]; exact h0), hx]; rfl
theorem joinEnd_ok {v : Int} {l : List Chk} {w w' : World} (h : ¬(v < 0 ∨ 255 < v)) (hx : bad 0 l = 0) (hb : Below w.heap.size w w') : JoinEnd v l w (.returned (.tuple #[.string (ba (magic ++ (byt8 v :: flat l))), .int .i64 0])) w' := by
  refine ⟨?_, hb⟩
  unfold joinT joinE
  rw [if_neg h, if_neg h, if_pos hx, hx]

theorem one_k {k : Int} {b : List UInt8} {T : List UInt8} (hT : one (k, b) = T) (hb : b.length ≤ 140737488351232) (w : World) :
    Calls Try.prog 14 #[.agg #[.int .i64 k, .string (ba b)]] w fun e w' => e = .returned (.string (ba T)) ∧ Below w.heap.size w w' := by
  subst hT
  exact one_c k b hb w
theorem rone_k {k : Int} {b : List UInt8} {T : List UInt8} (hT : one (k, b) = T) (hb : b.length ≤ 140737488351232) (w : World) :
    Calls Try.prog 15 #[.agg #[.int .i64 k, .string (ba b)]] w fun e w' => e = .returned (.string (ba T)) ∧ Below w.heap.size w w' := by
  subst hT
  exact rone_c k b hb w
theorem write_k {s : ByteArray} {B b : Nat} {l s' t : List UInt8} {w : World} (hs : s = ba s') (ht : l ++ s' = t) (h : Bld w B b l) (hlen : l.length + s'.length ≤ 140737488355328) (hBw : B ≤ w.heap.size) :
    Calls Try.prog 21 #[.pointer (some ⟨b, 0, none⟩), .string s] w fun e w' => e = .returned (.tuple #[.int .i64 s'.length, .nilIface]) ∧ Bld w' B b t ∧ But B b w w' ∧ Far b w w' := by
  subst hs ht
  exact write_c B b l s' w h hlen hBw
theorem writeByte_k {B b : Nat} {l t : List UInt8} {x : UInt8} {w : World} (ht : l ++ [x] = t) (h : Bld w B b l) (hlen : l.length ≤ 140737488355000) (hBw : B ≤ w.heap.size) :
    Calls Try.prog 22 #[.pointer (some ⟨b, 0, none⟩), .int .u8 (x.toNat : Int)] w fun e w' => e = .returned .nilIface ∧ Bld w' B b t ∧ But B b w w' := by
  subst ht
  exact writeByte_c B b l x w h hlen hBw

set_option maxHeartbeats 4000000 in
theorem join_c (v : Int) (A : Option Addr) (cap : Nat) (l : List Chk) (hF : (flat l).length ≤ 100000) (hl : l.length ≤ maxLen) (w : World) (hc : At w w.heap.size A (cvs l)) :
    Calls Try.prog 10 #[.int .i64 v, .slice A l.length cap] w (JoinEnd v l w) := by
  unfold maxLen at hl
  have HC := Lib.hid hc
  clear hc
  by_cases hv : v < 0 ∨ 255 < v
  · have HV := Lib.hid hv
    rcases hv with hv | hv
    · go_enter Try.func10, Try.ntmps10
      go_wp2_with fail
      go_ret2
      exact joinEnd_arg HV.out (Below.refl _ _)
    · have hn : ¬ v < 0 := by omega
      go_enter Try.func10, Try.ntmps10
      go_wp2_with fail
      go_ret2
      exact joinEnd_arg HV.out (Below.refl _ _)
  · have HV := Lib.hid hv
    have hv0 : ¬ v < 0 := by omega
    have hv1 : ¬ 255 < v := by omega
    have hv2 : 0 ≤ v := by omega
    have hv3 : v ≤ 255 := by omega
    obtain ⟨kb, hkb⟩ : ∃ kb, kb = byt8 v := ⟨_, rfl⟩
    have hk := byt8_in hv2 hv3
    rw [← hkb] at hk
    have hkw : IntKind.u8.wrap v = (kb.toNat : Int) := by rw [IntKind.wrap_u8, hk]; omega
    clear hk
    have HK := Lib.hid hkb
    clear hv hkb
    obtain ⟨z, hz⟩ : ∃ z, z = bad 0 l := ⟨_, rfl⟩
    have HZ := Lib.hid hz
    have hm0 : (⟨#[66, 78, 83, 73]⟩ : ByteArray) = ba magic := rfl
    have hm1 : ([] : List UInt8) ++ magic = magic := rfl
    have hm2 : ([] : List UInt8).length + magic.length ≤ 140737488355328 := by simp [magic]
    have hm3 : w.heap.size ≤ (w.alloc (.cells #[.pointer none, .slice none 0 0] 47)).heap.size := by simp
    have hm4 : magic ++ [kb] = magic ++ (kb :: flat (l.take 0)) := rfl
    have hm5 : magic.length ≤ 140737488355000 := by simp [magic]
    clear hz
    go_enter Try.func10, Try.ntmps10
    go_wp2_with fail
    refine (write_k (s := ba magic) (s' := magic) rfl hm1 (bld_new w w.heap.size) hm2 hm3).mono ?_
    clear hm0
    rintro e w1 ⟨rfl, h1, b1, -⟩
    have hbl1 : Below w.heap.size w w1 := ((Below.refl _ w).alloc (Nat.le_refl _) _).trans (b1.below (Nat.le_refl _) (Nat.le_refl _))
    clear b1
    have hs1 := hbl1.size
    go_wp2_with fail
    refine (writeByte_k hm4 h1 hm5 hs1).mono ?_
    rintro e w2 ⟨rfl, h2, b2⟩
    have hbl2 := hbl1.trans (b2.below (Nat.le_refl _) (Nat.le_refl _))
    clear b2 h1 hs1 hbl1
    go_wp2_with fail
    go_loopw [7, 22] (fun a i wr => ∃ (j : Nat) (x : Int), i = .int .i64 (j : Int) ∧ a = .int .i64 x ∧ j ≤ l.length ∧ bad x (l.drop j) = z ∧ Bld wr w.heap.size w.heap.size (magic ++ (kb :: flat (l.take j))) ∧ Below w.heap.size w wr)
      (fun _ i _ => l.length - (intOf i).toNat)
    case atStart => exact ⟨0, 0, rfl, rfl, Nat.zero_le _, HZ.out.symm, h2, hbl2⟩
    case round =>
      clear h2 hbl2
      obtain ⟨j, x, rfl, rfl, hj, hbad, hbld, hb⟩ := hrel
      have hbs := hb.size
      by_cases hlt : j < l.length
      · obtain ⟨c, hcj⟩ := some_at hlt
        obtain ⟨k, b⟩ := c
        obtain ⟨b0, o0, rfl, hb0, c0, c1⟩ := chunk_cells (HC.out.below hb) hcj
        rw [bad_drop hcj] at hbad
        obtain ⟨f1, f2⟩ := flat_body hcj
        have hft := flat_take hcj
        have hsz := ba_size b
        simp only at hbad f2 c0 c1
        have HB := Lib.hid hbad
        have HFT := Lib.hid hft
        clear hbad hcj hft
        by_cases hord : k ≤ x ∨ 255 < k
        · have HO := Lib.hid hord
          have hz12 : bad 0 l = 12 := by rw [← HZ.out, ← HB.out, if_pos HO.out]
          have H12 := Lib.hid hz12
          clear hz12
          rcases hord with hord | hord
          · go_wp2_with fail
            go_ret2
            exact joinEnd_bad HV.out H12.out (by decide) (hb.alloc hbs _)
          · by_cases hkx : k ≤ x
            · go_wp2_with fail
              go_ret2
              exact joinEnd_bad HV.out H12.out (by decide) (hb.alloc hbs _)
            · go_wp2_with fail
              go_ret2
              exact joinEnd_bad HV.out H12.out (by decide) (hb.alloc hbs _)
        · have hkx : ¬ k ≤ x := by omega
          have hk2 : ¬ 255 < k := by omega
          have hbn : bad k (l.drop (j + 1)) = z := by
            have := HB.out
            rw [if_neg hord, if_neg (by omega)] at this
            exact this
          have HBN := Lib.hid hbn
          obtain ⟨T, hT⟩ : ∃ T, one (k, b) = T := ⟨_, rfl⟩
          rw [hT] at f1
          have HFT2 : magic ++ (kb :: flat (l.take j)) ++ T = magic ++ (kb :: flat (l.take (j + 1))) := by rw [HFT.out, hT]; simp
          have HT := Lib.hid hT
          have hlen : (magic ++ (kb :: flat (l.take j))).length + T.length ≤ 140737488355328 := by simp [magic]; omega
          have H2 := Lib.hid HFT2
          have HL := Lib.hid hlen
          clear hord hbn hT HFT2 hlen
          go_wp2_with fail
          refine (one_k HT.out (by omega) _).mono ?_
          rintro e w3 ⟨rfl, hm3⟩
          have hbld3 := bld_grown (bld_grown hbld ((Below.refl _ _).alloc (Nat.le_refl _) (.cells #[.int .i64 k, .string (ba b)] 32))) hm3
          have hcc0 : w3.cell? ⟨wr.heap.size, 0, none⟩ = some (.int .i64 k) := keep_cell hm3 (pair_new wr _ _ _).1
          have hb3 := (hb.alloc hbs (.cells #[.int .i64 k, .string (ba b)] 32)).trans (hm3.mono (by simp; omega))
          have hsz3 := hm3.size
          have hfar : ∀ v, w3.cell? ⟨w.heap.size, 1, none⟩ = some v → v.ownBlock ≠ some wr.heap.size := far_new hbld (((Below.refl _ _).alloc (Nat.le_refl _) _).trans (hm3.mono (by simp))) (Nat.le_refl _)
          rw [World.size_alloc] at hsz3
          clear hm3
          go_wp2_with fail
          refine (write_k rfl H2.out hbld3 HL.out hb3.size).mono ?_
          rintro e w4 ⟨rfl, h4, b4, f4⟩
          have hcc4 : w4.cell? ⟨wr.heap.size, 0, none⟩ = some (.int .i64 k) := (World.cell?_of_block (w := w3) (f4 wr.heap.size (by omega) (by have := bld_lt hbld; omega) hfar)).trans hcc0
          have hb4 := hb3.trans (b4.below (Nat.le_refl _) (Nat.le_refl _))
          clear b4 f4 hfar hbld3 hcc0
          go_wp2_with fail
          go_roundw
          case rel => exact ⟨j + 1, k, by go_num, rfl, by omega, HBN.out, h4, hb4⟩
          case measure => simp only [intOf]; omega
      · obtain rfl : j = l.length := by omega
        rw [List.drop_length] at hbad
        rw [List.take_length] at hbld
        have HB := Lib.hid hbad
        clear hbad
        go_wp2_with fail
        refine (string_c w.heap.size w.heap.size w.heap.size _ _ hbld (Nat.le_refl _) (Nat.le_refl _)).mono ?_
        rintro e w5 ⟨rfl, hm5⟩
        go_wp2_with fail
        go_ret2
        rw [HK.out]
        exact joinEnd_ok HV.out (by rw [← HZ.out, ← HB.out]; rfl) (hb.trans hm5)
end Go.Proofs.Ytcbkggjphoeceaa
