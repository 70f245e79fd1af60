/-
 A file's bytes are its head's and each move's, as they stand: a walk.
-/
import Derived.Test.YtojhenpaeedimaaYa
import Derived.Test.YtojhenpaeedimaaZx
import Derived.Test.YtojhenpaeedimaaCue
import Derived.Test.YtojhenpaeedimaaVj
namespace Go.Proofs.Ytojhenpaeedimaa
open Go.RowKit Go.IntWalk
open Pk Ck Rf Fl Wd
set_option maxRecDepth 100000
attribute [local go_sem] Oper.semAt_some
namespace rowsSizes
set_option maxHeartbeats 32000000 in
theorem walk (A : Option Addr) (cap : Nat) (l : List Mv) (hcap : l.length ≤ cap) (hl : l.length ≤ maxLen) (hm : Moves_ l) (w : World) (hc : At w w.heap.size A (mvs l)) :
  Calls Try.prog 6 #[.slice A l.length cap] w fun e w' => e = .returned (.bool true) ∧ Below w.heap.size w w' := by
 have HC := Lib.hid hc
 have HM := Lib.hid hm
 clear hc hm
 obtain ⟨q, hq⟩ : ∃ q, fewM l 40 = q := ⟨_, rfl⟩
 have HQ := Lib.hid hq
 clear hq
 obtain ⟨qm, hqm⟩ : ∃ q, mayM l = q := ⟨_, rfl⟩
 have HQM := Lib.hid hqm
 clear hqm
 go_enter Try.func6, Try.ntmps6
 go_wp2_with fail
 refine (few_z HQ.out rfl (by omega) hl HC.out).mono ?_
 rintro e w1 ⟨rfl, rfl⟩
 cases q with
 | false =>
  go_wp2_with fail
  refine (live21_c _).mono ?_
  rintro e w2 ⟨rfl, hb⟩
  go_wp2_with fail
  go_ret
  exact ⟨rfl, hb⟩
 | true =>
  have hl40 := (fewM_in HQ.out).1
  have HOK := Lib.hid (few_mok HQ.out HM.out)
  go_wp2_with fail
  refine (rmay_q HQM.out hl HM.out HC.out).mono ?_
  rintro e w2 ⟨rfl, hb⟩
  have HC2 := Lib.hid (HC.out.keep hb)
  have HB2 := Lib.hid hb
  clear hb
  cases qm with
  | false =>
   go_wp2_with fail
   refine (live21_c _).mono ?_
   rintro e w3 ⟨rfl, hb⟩
   have HZ := Lib.hid (HB2.out.trans (hb.mono HB2.out.size))
   go_wp2_with fail
   go_ret
   exact ⟨rfl, HZ.out⟩
  | true =>
   have hz : (ba [] : ByteArray) = ⟨#[]⟩ := rfl
   have HZ := Lib.hid hz
   clear hz
   go_wp2_with fail
   go_loopw [3, 4] (fun s i wr => ∃ k : Nat, i = .int .i64 (k : Int) ∧ s = .string (ba ((l.take k).flatMap oneB)) ∧ k ≤ l.length ∧ Below w.heap.size w wr) (fun _ i _ => l.length - (Go.RowKit.intOf i).toNat)
   case atStart => exact ⟨0, rfl, rfl, Nat.zero_le _, HB2.out⟩
   case round =>
    obtain ⟨k, rfl, rfl, hk, hb0⟩ := hrel
    have HB0 := Lib.hid hb0
    have HC0 := Lib.hid (HC.out.keep hb0)
    clear hb0
    obtain ⟨T, hT⟩ : ∃ T, ba ((l.take k).flatMap oneB) = T := ⟨_, rfl⟩
    obtain ⟨M, hM⟩ : ∃ M, ((l.take k).flatMap oneB).length = M := ⟨_, rfl⟩
    have hlen := flat_few (l := l.take k) (fun m hm => (fewM_in HQ.out).2 m (List.mem_of_mem_take hm))
    rw [hM, List.length_take] at hlen
    have hMb : M ≤ 10000 := by omega
    have hTs : T.size = M := by rw [← hT, ba_size, hM]
    rw [hT]
    have HT := Lib.hid hT
    have HMM := Lib.hid hM
    clear hT hM hlen
    by_cases hlt : k < l.length
    ·obtain ⟨m, hmk⟩ := some_at hlt
     have hki : (0 : Int) ≤ (k : Int) := by omega
     have hkl : (k : Int) < (l.length : Int) := by omega
     have hkc : (k : Int) ≤ (cap : Int) := by omega
     obtain ⟨b0, o0, rfl, -, d0, d1, d2, d3, d4, d5⟩ := move_cells HC0.out hmk
     have hmo := HOK.out m (List.mem_of_getElem? hmk)
     have hone := mayM_all HQM.out m (List.mem_of_getElem? hmk)
     have hol := one_len3 (oneM_facts hone).2.2.2.2.1
     have hmt := mayM_take k HQM.out
     have he := encT_may hmt
     have htl : (l.take k).length = k := by rw [List.length_take]; omega
     have hsix := encB_six (l := l.take k) (by omega)
     obtain ⟨S, hS⟩ : ∃ S, ba (encB (l.take k)) = S := ⟨_, rfl⟩
     obtain ⟨N, hN⟩ : ∃ N, (encB (l.take k)).length = N := ⟨_, rfl⟩
     have hNM : N = 6 + M := by rw [← hN, hsix.2, HMM.out]
     have hSs : S.size = N := by rw [← hS, ba_size, hN]
     have hex : S.extract 6 N = T := by rw [← hS, ← hN, ← HT.out, extract_drop, hsix.1]
     have hne : ((N : Int) != 6 + (M : Int)) = false := by simp; omega
     have h6 : (6 : Int) ≤ (N : Int) := by omega
     have hwr : IntKind.i64.wrap (6 + (M : Int)) = 6 + (M : Int) := IntWalk.i64_in _ (by omega)
     obtain ⟨O, hO⟩ : ∃ O, ba (oneB m) = O := ⟨_, rfl⟩
     obtain ⟨on, hon⟩ : ∃ n, (oneB m).length = n := ⟨_, rfl⟩
     have hOs : O.size = on := by rw [← hO, ba_size, hon]
     rw [hon] at hol
     have o1 : ¬ (on : Int) < 13 := by omega
     have o2 : ¬ (117 : Int) < (on : Int) := by omega
     have hadd : ∀ w : World, (Op.stringOp .add T O).run Try.prog w = .ok (.string (ba ((l.take (k + 1)).flatMap oneB))) w := fun w => by
      rw [← HT.out, ← hO, flat_take hmk]; exact hadd_v _ _ (by rw [HMM.out, hon]; omega) w
     have HE := Lib.hid (show ba (encT (l.take k)) = S by rw [he.1]; exact hS)
     have HX := Lib.hid he.2
     have HTL := Lib.hid htl
     have HTK := Lib.hid (show (l.take k).length ≤ 10000 by rw [htl]; omega)
     have HOT := Lib.hid (show Mok (l.take k) from fun x hx => HOK.out x (List.mem_of_mem_take hx))
     have HAT := Lib.hid (at_takeM HC0.out k)
     have HO := Lib.hid hO
     have HMO := Lib.hid hmo
     have HMK := Lib.hid hmk
     clear hmk hmo hone hmt he htl hsix hS hN hO hon hol hNM d0 d1 d2 d3 d4 d5
     go_wp2_with fail
     refine (pencode_v HTL.out HE.out HX.out HTK.out HOT.out HAT.out).mono ?_
     rintro e w3 ⟨rfl, hb⟩
     have HC3 := Lib.hid (HC0.out.keep hb)
     have HB3 := Lib.hid (HB0.out.trans (hb.mono HB0.out.size))
     clear hb
     obtain ⟨b9, o9, e9, -, d0, d1, d2, d3, d4, d5⟩ := move_cells HC3.out HMK.out
     cases e9
     go_wp2_with fail
     refine (pone_q HO.out HMO.out _).mono ?_
     rintro e w4 ⟨rfl, hb⟩
     have HB4 := Lib.hid (HB3.out.trans (hb.mono HB3.out.size))
     clear hb d0 d1 d2 d3 d4 d5
     go_wp2_with fail
     go_roundw
     case rel => exact ⟨k + 1, by go_num, rfl, by omega, HB4.out⟩
     case measure => simp only [Go.RowKit.intOf]; omega
    ·obtain rfl : k = l.length := by omega
     have he := encT_may HQM.out
     obtain ⟨S, hS⟩ : ∃ S, ba (encB l) = S := ⟨_, rfl⟩
     obtain ⟨kb, hkb⟩ : ∃ kb, kb = UInt8.ofNat l.length := ⟨_, rfl⟩
     have hkw : IntKind.u8.wrap (l.length : Int) = (kb.toNat : Int) := by rw [IntKind.wrap_u8, hkb]; simp
     have hcv : ∀ (W : World) (G : Nat), W.cell? ⟨G, 0, none⟩ = some (.int .u8 (kb.toNat : Int)) → (convert 42 9 (.slice (some ⟨G, 0, none⟩) 1 1)).run Try.prog W = .ok (.string (ba [kb])) W := fun W G h => conv1 h
     obtain ⟨S1, hS1⟩ : ∃ S, ba (startB ++ [kb]) = S := ⟨_, rfl⟩
     have ha1 : ∀ w : World, (Op.stringOp .add (⟨#[66, 78, 83, 73, 1]⟩ : ByteArray) (ba [kb])).run Try.prog w = .ok (.string S1) w := fun w => by
      rw [← hS1]; exact hadd_v startB [kb] (by simp [startB]) w
     have ha2 : ∀ w : World, (Op.stringOp .add S1 T).run Try.prog w = .ok (.string S) w := fun w => by
      have hfl : (l.flatMap oneB).length = M := by have h := HMM.out; rw [List.take_length] at h; exact h
      rw [← hS1, ← hS, ← HT.out, List.take_length, encB_head (by omega), hkb]
      exact hadd_v _ _ (by rw [hfl]; simp [startB]; omega) w
     have HS := Lib.hid hS
     have HE := Lib.hid (show ba (encT l) = S by rw [he.1]; exact hS)
     have HX := Lib.hid he.2
     have hln : l.length ≤ 10000 := by omega
     clear hS he hkb hS1
     go_wp2_with fail
     refine (pencode_v rfl HE.out HX.out hln HOK.out HC0.out).mono ?_
     rintro e w3 ⟨rfl, hb⟩
     have HB3 := Lib.hid (HB0.out.trans (hb.mono HB0.out.size))
     clear hb
     go_wp2_with fail
     refine (live21_c _).mono ?_
     rintro e w4 ⟨rfl, hb⟩
     have HZ4 := Lib.hid (((HB3.out.alloc HB3.out.size _).trans (hb.mono (by have := HB3.out.size; simp <;> omega))))
     clear hb
     go_wp2_with fail
     go_ret
     exact ⟨rfl, HZ4.out⟩
end rowsSizes
end Go.Proofs.Ytojhenpaeedimaa
