/-
 flags: one length laid; how many flags any lengths spread to.
 Spread of flags, the program's.
 Spread of flags, the document's.
 Decode of flags, the program's.
-/
import Derived.Test.YtojhenpaeedimaaGreatQg
import Derived.Test.YtojhenpaeedimaaGreatDg
import Derived.Test.YtojhenpaeedimaaGreatPi
import Derived.Sort.LoopGhostIn
section
namespace Go.Proofs.YtojhenpaeedimaaGreat
open Dl Ru
namespace Fg
open Go.RowKit Go.IntWalk
open Pk
set_option maxRecDepth 100000
attribute [local go_sem] Oper.semAt_some
theorem repB_snoc (v : Bool) (k : Nat) : List.replicate (k + 1) v = List.replicate k v ++ [v] := by rw [List.replicate_succ']
set_option maxHeartbeats 4000000 in
theorem layF_c (base g n cap m : Nat) (v : Bool) (xs : List Bool) (hm : m ≤ 100000) (_ : n ≤ 100000) (hcap : n + m ≤ cap) (w : World) (hown : w.ownsRow base 4 1 (.slice (some ⟨g, 0, none⟩) n cap) n (bvs xs)) :
  Calls Tryz.prog 188 #[.slice (some ⟨g, 0, none⟩) n cap, .bool v, .int .i64 (m : Int)] w fun e w' => e = .returned (.slice (some ⟨g, 0, none⟩) (n + m) cap) ∧
   w'.ownsRow base 4 1 (.slice (some ⟨g, 0, none⟩) (n + m) cap) (n + m) (bvs (xs ++ List.replicate m v)) ∧ w.grownBy w' (some g) := by
 obtain ⟨i0, hi, hz0, hz1, hz2⟩ := info_parts Tryz.info4
 go_enter Tryz.func188, Tryz.ntmps188
 go_wp2_with fail
 go_loopw [0, 8] (fun s i wr => ∃ k : Nat, s = .slice (some ⟨g, 0, none⟩) (n + k) cap ∧ i = .int .i64 (k : Int) ∧ k ≤ m ∧ wr.ownsRow base 4 1 (.slice (some ⟨g, 0, none⟩) (n + k) cap) (n + k) (bvs (xs ++ List.replicate k v)) ∧ w.grownBy wr (some g))
  (fun _ i _ => m - (Go.RowKit.intOf i).toNat)
 case atStart => exact ⟨0, rfl, rfl, Nat.zero_le _, by simpa using hown, ⟨rfl, rfl, rfl, Nat.le_refl _, fun _ _ _ => rfl⟩⟩
 case round =>
  clear hown
  obtain ⟨k, rfl, rfl, hk, hown, hgr⟩ := hrel
  by_cases hlt : k < m
  ·go_wp2_with (at_builtin; refine wpList_append_fits _ rfl _ _ 85 rfl base 4 i0 1 Tryz.underlying85 hi hz1 g (n + k) cap _ rfl (hown.alloc _) ⟨wr.heap.size, 0, none⟩ 1 1 [.bool v] rfl rfl (cell_one_new _ _ _) (by simp [Value.oneCell']) (by omega) ?_; intro w2 hown' hgrow)
   go_roundw
   case rel =>
    refine ⟨k + 1, rfl, by go_num, by omega, ?_, grown_tr (grown_tr hgr (World.grownBy_alloc _ _ _)) hgrow⟩
    rw [repB_snoc, ← List.append_assoc, bvs_snoc]
    exact hown'
   case measure => simp only [Go.RowKit.intOf]; omega
  ·obtain rfl : k = m := by omega
   go_wp2_with fail
   go_ret
   exact ⟨rfl, hown, hgr⟩
end Fg
end Go.Proofs.YtojhenpaeedimaaGreat
end
section
namespace Go.Proofs.YtojhenpaeedimaaGreat
open Dl Ru
namespace Fg
open Go.RowKit Go.IntWalk
open Pk
set_option maxRecDepth 100000
attribute [local go_sem] Oper.semAt_some
/-- a list of flags and one value more, as the answer of a call -/
def BEnd (l : List Bool) (t : Value) (w : World) (e : Ending) (w' : World) : Prop :=
 ∃ A cap, e = .returned (.tuple #[.slice A l.length cap, t]) ∧ l.length ≤ cap ∧ Fresh w.heap.size A ∧ At w' w'.heap.size A (bvs l) ∧ Below w.heap.size w w'
theorem bEnd_nil {t : Value} {w w' : World} (hb : Below w.heap.size w w') : BEnd [] t w (.returned (.tuple #[.slice none 0 0, t])) w' :=
 ⟨none, 0, rfl, Nat.le_refl _, fun a ha => (by cases ha), At.nil _ _ _, hb⟩
theorem own_one {w w' : World} {base g q size n k cap : Nat} {e : TypeId} {xs : List Value} (h : w.ownsRow base e size (.slice (some ⟨g, 0, none⟩) k cap) n xs) (ho : w.grownBy w' (some q)) (hq : g ≠ q) : w'.ownsRow base e size (.slice (some ⟨g, 0, none⟩) k cap) n xs :=
 h.kept ho (.inr (by simpa [Value.ownBlock] using hq))
end Fg
end Go.Proofs.YtojhenpaeedimaaGreat
end
section
namespace Go.Proofs.YtojhenpaeedimaaGreat
open Dl Ru
namespace Fg
open Go.RowKit Go.IntWalk
open Pk
set_option maxRecDepth 100000
attribute [local go_sem] Oper.semAt_some
end Fg
end Go.Proofs.YtojhenpaeedimaaGreat
end
section
namespace Go.Proofs.YtojhenpaeedimaaGreat
open Dl Ru
namespace Fg
open Go.RowKit Go.IntWalk
open Pk
set_option maxRecDepth 100000
attribute [local go_sem] Oper.semAt_some
theorem num1_len {ls : List UInt8} (h : (numS ⟨ls, 0⟩).e = 0) : (numS ⟨ls, 0⟩).l.length < ls.length := (num_zero h).2
theorem rdr_one {w w' : World} {q g : Nat} {s : St} (h : Rdr w q s) (hg : w.grownBy w' (some g)) (hne : q ≠ g) : Rdr w' q s :=
 (hg.block q (is_lt h) (fun e => hne (by injection e))).trans h
theorem layF_i (base g n cap m : Nat) (v : Bool) (xs : List Bool) (i : Int) (hi : i = (m : Int)) (hm : m ≤ 100000) (hn : n ≤ 100000) (hcap : n + m ≤ cap) (w : World) (hown : w.ownsRow base 4 1 (.slice (some ⟨g, 0, none⟩) n cap) n (bvs xs)) :
  Calls Tryz.prog 188 #[.slice (some ⟨g, 0, none⟩) n cap, .bool v, .int .i64 i] w fun e w' => e = .returned (.slice (some ⟨g, 0, none⟩) (n + m) cap) ∧
   w'.ownsRow base 4 1 (.slice (some ⟨g, 0, none⟩) (n + m) cap) (n + m) (bvs (xs ++ List.replicate m v)) ∧ w.grownBy w' (some g) := by
 subst hi; exact layF_c base g n cap m v xs hm hn hcap w hown
set_option maxHeartbeats 8000000 in
theorem fdecode_c (l : List UInt8) (n : Int) (hn1 : -9223372036854775808 ≤ n) (hn2 : n ≤ 9223372036854775807) (hl : l.length ≤ 100000) (w : World) :
  Calls Tryz.prog 141 #[.string (ba l), .int .i64 n] w (BEnd (decF l n).1 (.int .i64 (decF l n).2) w) := by
 have hs := ba_size l
 rcases Int.lt_or_le n 0 with hneg | hpos
 ·rw [decF_neg hneg]
  go_enter Tryz.func141, Tryz.ntmps141
  go_wp2_with fail
  go_ret2
  exact bEnd_nil (Below.refl _ _)
 rcases Int.lt_or_le 4096 n with hfar | hin
 ·rw [decF_big hfar]
  go_enter Tryz.func141, Tryz.ntmps141
  go_wp2_with fail
  go_ret2
  exact bEnd_nil (Below.refl _ _)
 obtain ⟨N, rfl⟩ := Int.eq_ofNat_of_zero_le hpos
 have hN : N ≤ 4096 := by omega
 obtain ⟨res, hres⟩ : ∃ res, res = decF l (N : Int) := ⟨_, rfl⟩
 have hr0 := hres
 rw [decF_in hN] at hr0
 have HR0 := Lib.hid hr0
 rw [← hres]
 obtain ⟨i0, hi, hz0, hz1, hz2⟩ := info_parts Tryz.info4
 have hbx : i0.bytes * N ≤ 281474976710656 := by rw [hz2]; omega
 have hmx : N ≤ maxLen := by unfold maxLen; omega
 have t1 : decide ((N : Int) < 0) = false := by simp
 have t2 : decide ((4096 : Int) < (N : Int)) = false := by simp; omega
 have hnot : ∀ (x : Bool) (w : World), (Op.unary .not (.bool x)).run Tryz.prog w = .ok (.bool (!x)) w := fun _ _ => rfl
 clear hres hr0 hpos hin hn1 hn2
 go_enter Tryz.func141, Tryz.ntmps141
 go_wp2_with (at_make; refine wpList_make_own _ rfl _ _ 85 rfl w.heap.size 4 i0 (.bool false) 1 Tryz.underlying85 hi hz0 hz1 .i64 .i64 _ N rfl rfl rfl hbx hmx (Nat.le_refl _) ?_; intro w1 hown1 hgrow1)
 have hb1 := (Below.refl w.heap.size w).grown hgrow1 (Nat.le_refl _) (fun k e => by cases e)
 have hgl := (hown1.lt w.heap.size rfl).2
 refine (turns_c w1).mono ?_
 rintro e w2 ⟨rfl, hw2⟩
 obtain ⟨q, hq⟩ : ∃ q, q = w1.heap.size := ⟨_, rfl⟩
 have his2 : Is w2 q 4 [.bool (!false)] := by rw [hw2, hq]; exact is_new w1 _ _
 have hown2 : w2.ownsRow w.heap.size 4 1 (.slice (some ⟨w.heap.size, 0, none⟩) 0 N) 0 [] := by rw [hw2]; exact hown1.alloc _
 have hb2 : Below w.heap.size w w2 := by rw [hw2]; exact hb1.alloc hb1.size _
 have hs2 : w2.heap.size = q + 1 := by rw [hw2, World.size_alloc, hq]
 have hgr2 : w.heap.size < q := by rw [hq]; exact hgl
 have hgq : w.heap.size ≠ q := by omega
 rw [← hq]
 clear hw2 hown1 hgrow1 hb1 hgl hbx hmx hq
 go_wp2_with fail
 refine (new_c l _).mono ?_
 rintro e w3 ⟨rfl, hr3, hw3⟩
 have hown3 : w3.ownsRow w.heap.size 4 1 (.slice (some ⟨w.heap.size, 0, none⟩) 0 N) 0 [] := by rw [hw3]; exact hown2.alloc _
 have hb3 : Below w.heap.size w w3 := by rw [hw3]; exact hb2.alloc hb2.size _
 have his3 : Is w3 q 4 [.bool (!false)] := by rw [hw3]; exact is_alloc his2 _
 rw [hs2] at hr3 ⊢
 have hgr : w.heap.size ≠ q + 1 := by omega
 clear hw3 hown2 his2 hb2
 go_wp2_with fail
 go_loopg [6, 9] l.length (fun m sl fi wr => ∃ (ls : List UInt8) (out : List Bool) (f : Nat) (fl first : Bool), ls.length ≤ m ∧ sl = .slice (some ⟨w.heap.size, 0, none⟩) out.length N ∧ fi = .bool first ∧ ls.length < f ∧ res = dcF f ⟨ls, 0⟩ fl first out N ∧ out.length ≤ N ∧ (first = false → 0 < l.length) ∧ (first = true → ls = l) ∧ Rdr wr (q + 1) ⟨ls, 0⟩ ∧ Is wr q 4 [.bool (!fl)] ∧ wr.ownsRow w.heap.size 4 1 (.slice (some ⟨w.heap.size, 0, none⟩) out.length N) out.length (bvs out) ∧ Below w.heap.size w wr ∧ ls.length ≤ 100000)
 case atStart => exact ⟨l, [], l.length + 1, false, true, Nat.le_refl _, rfl, rfl, Nat.lt_succ_self _, HR0.out, Nat.zero_le _, by simp, fun _ => rfl, hr3, his3, hown3, hb3, hl⟩
 case round =>
  clear hr3 hown3 hb3 his3
  obtain ⟨ls, out, f, fl, first, hm, rfl, rfl, hf, hres, hoN, hfst, hfst2, hr, his, hown, hb, hll⟩ := hrel
  obtain ⟨f, rfl⟩ : ∃ f', f = f' + 1 := ⟨f - 1, by omega⟩
  have HRES := Lib.hid hres
  have HFA := Lib.hid hfst
  have HFB := Lib.hid hfst2
  clear hres hfst hfst2
  have hb0 := hb.size
  by_cases hemp : ls.length = 0
  ·have he : ls = [] := List.eq_nil_of_length_eq_zero hemp
   subst he
   by_cases hlt : out.length < N
   ·have t3 : decide ((out.length : Int) < (N : Int)) = true := by simp [hlt]
    have HL := Lib.hid hlt
    go_wp2_with (go_at_call 53; refine (left_c (q + 1) ⟨[], 0⟩ _ hr).mono ?_; rintro e wz ⟨rfl, rfl⟩)
    go_ret2
    have hre := HRES.out
    rw [df_end rfl, if_pos (.inl HL.out)] at hre
    rw [hre]
    exact bEnd_nil hb
   ·have t3 : decide ((out.length : Int) < (N : Int)) = false := by simp; omega
    have HL := Lib.hid hlt
    have hoN2 : out.length = N := by omega
    have hem : (ba l).toList.isEmpty = l.isEmpty := by rw [ByteArray.toList_eq, ba_list]
    by_cases ho : out = []
    ·by_cases hf1 : first = false
     ·have hle : l.isEmpty = false := by
       cases l with
       | nil => have := HFA.out hf1; simp at this
       | cons a b => rfl
      rw [hle] at hem
      have HO := Lib.hid ho
      have HF1 := Lib.hid hf1
      have hres2 : res = ([], 5) := by
       have hre := HRES.out
       rw [df_end rfl, if_pos (.inr ⟨ho, hf1⟩)] at hre
       exact hre
      subst ho
      clear hf1 hle
      go_wp2_with (go_at_call 53; refine (left_c (q + 1) ⟨[], 0⟩ _ hr).mono ?_; rintro e wz ⟨rfl, rfl⟩)
      go_ret2
      rw [hres2]
      exact bEnd_nil hb
     ·have hf2 : first = true := by simpa using hf1
      have hle : l = [] := (HFB.out hf2).symm
      subst hf2
      have hem2 : (ba l).toList.isEmpty = true := by rw [hem, hle]; rfl
      have hres2 : res = ([], 0) := by
       have hre := HRES.out
       rw [df_end rfl, if_neg (by rintro (h | ⟨_, h⟩); exact HL.out h; simp at h), ho] at hre
       exact hre
      subst ho
      obtain ⟨A', cap', hA, ha, hfr, hcp⟩ := own_at hown
      cases hA
      have HLE := Lib.hid hle
      clear hle hem hown
      go_wp2_with (go_at_call 53; refine (left_c (q + 1) ⟨[], 0⟩ _ hr).mono ?_; rintro e wz ⟨rfl, rfl⟩)
      go_ret2
      rw [hres2]
      exact ⟨_, _, rfl, by first | exact hcp | exact Nat.le_refl _, hfr, ha, hb⟩
    ·have hres2 : res = (out, 0) := by
      have hre := HRES.out
      rw [df_end rfl, if_neg (by rintro (h | ⟨h, _⟩); exact HL.out h; exact ho h)] at hre
      exact hre
     obtain ⟨A', cap', hA, ha, hfr, hcp⟩ := own_at hown
     cases hA
     have ho2 : 0 < out.length := by
      have : out.length ≠ 0 := fun e => ho (List.eq_nil_of_length_eq_zero e)
      omega
     clear hem hown ho
     go_wp2_with (go_at_call 53; refine (left_c (q + 1) ⟨[], 0⟩ _ hr).mono ?_; rintro e wz ⟨rfl, rfl⟩)
     go_ret2
     rw [hres2]
     exact ⟨_, _, by simp only [hoN2]; rfl, hcp, hfr, ha, hb⟩
  ·have hlp : (0 : Int) < (ls.length : Int) := by omega
   have t3 : decide (0 < ls.length) = true := by simp; omega
   have hne : ls ≠ [] := fun e => hemp (by rw [e]; rfl)
   have hl0 : 0 < l.length := by
    cases first with
    | true => rw [← HFB.out rfl]; omega
    | false => exact HFA.out rfl
   have HNE := Lib.hid hne
   have HL0 := Lib.hid hl0
   clear hne hemp hl0
   go_wp2_with fail
   refine (left_c (q + 1) ⟨ls, 0⟩ _ hr).mono ?_
   rintro e wz ⟨rfl, rfl⟩
   go_wp2_with fail
   refine (num_m (q + 1) ⟨ls, 0⟩ _ hr).mono ?_
   rintro e w4 ⟨rfl, hr4, ho4⟩
   have hown4 := own_one hown ho4 hgr
   have his4 := is_grown his ho4 (fun e => by injection e with e; omega)
   have hb4 := below_only hb ho4 hb0 (by omega)
   have hb40 := hb4.size
   clear hr hown his hb ho4 hb0
   have hlen2 := @num1_len ls
   have hde := @df_err f N ⟨ls, 0⟩ fl first out HNE.out
   have hdb := @df_bad f N ⟨ls, 0⟩ fl first out HNE.out
   have hdn := @df_next f N ⟨ls, 0⟩ fl first out HNE.out
   obtain ⟨c, hc⟩ : ∃ c, c = numV ⟨ls, 0⟩ := ⟨_, rfl⟩
   obtain ⟨s2, hs2⟩ : ∃ s2, s2 = numS ⟨ls, 0⟩ := ⟨_, rfl⟩
   rw [← hc, ← hs2] at hdb hdn
   rw [← hs2] at hde hlen2 hr4
   rw [← hc]
   have HDE := Lib.hid hde
   have HDB := Lib.hid hdb
   have HDN := Lib.hid hdn
   have HLEN := Lib.hid hlen2
   clear hc hs2 hde hdb hdn hlen2
   go_wp2_with fail
   refine (err_c (q + 1) s2 _ hr4).mono ?_
   rintro e wz ⟨rfl, rfl⟩
   by_cases he : s2.e = 0
   ·have hee : (s2.e != 0) = false := by rw [he]; rfl
    have HE0 := Lib.hid he
    clear he
    have hdif : IntKind.u64.wrap ((N : Int) - (out.length : Int)) = (N : Int) - (out.length : Int) := by rw [IntKind.wrap_u64]; omega
    by_cases hfar : (N : Int) - (out.length : Int) < (c : Int)
    ·have t4 : decide ((N : Int) - (out.length : Int) < (c : Int)) = true := by simp [hfar]
     have HF := Lib.hid (show N - out.length < c by omega)
     clear hfar
     go_wp2_with fail
     go_ret2
     have hre := HRES.out
     rw [HDB.out HE0.out (.inl HF.out)] at hre
     rw [hre]
     exact bEnd_nil hb4
    ·have t4 : decide ((N : Int) - (out.length : Int) < (c : Int)) = false := by simp; omega
     have hcN : out.length + c ≤ N := by omega
     have HF := Lib.hid (show ¬ N - out.length < c by omega)
     clear hfar
     by_cases hbad : c = 0 ∧ first = false
     ·obtain ⟨hc0, hfi⟩ := hbad
      have hz : ((c : Int) == 0) = true := by rw [hc0]; rfl
      have HC0 := Lib.hid hc0
      have HFI := Lib.hid hfi
      subst hfi
      clear hc0
      go_wp2_with fail
      go_ret2
      have hre := HRES.out
      rw [HDB.out HE0.out (.inr ⟨HC0.out, by first | rfl | trivial⟩)] at hre
      rw [hre]
      exact bEnd_nil hb4
     ·have HBAD := Lib.hid hbad
      have hcw : IntKind.i64.wrap (c : Int) = (c : Int) := IntWalk.i64_in _ (by omega)
      by_cases hc0 : c = 0
      ·have hf1 : first = true := by
        cases first
        ·exact absurd ⟨hc0, rfl⟩ hbad
        ·rfl
       subst hf1
       obtain rfl := hc0
       have hz : (((0 : Nat) : Int) == 0) = true := rfl
       clear hbad hdif t4
       go_wp2_with fail
       refine (flip_c q (!fl) _ his4).mono ?_
       rintro e w5 ⟨rfl, his5, hg5⟩
       have hown5 := own_one hown4 hg5 hgq
       have hr5 := rdr_one hr4 hg5 (by omega)
       have hb5 := below_only hb4 hg5 hb40 (by omega)
       have hb50 := hb5.size
       rw [Bool.not_not] at his5 ⊢
       clear his4 hown4 hr4 hb4 hg5 hb40
       go_wp2_with fail
       have LB1 : (0 : Nat) ≤ 100000 := by omega
       have LB2 : out.length ≤ 100000 := by omega
       have LB3 : out.length + 0 ≤ N := by omega
       refine (layF_i w.heap.size w.heap.size out.length N 0 fl out 0 rfl LB1 LB2 LB3 _ hown5).mono ?_
       rintro e w6 ⟨rfl, hown6, hg6⟩
       have hr6 := rdr_one hr5 hg6 (by omega)
       have his6 := is_grown his5 hg6 (fun e => by injection e with e; omega)
       have hb6 := below_only hb5 hg6 hb50 (Nat.le_refl _)
       clear his5 hown5 hr5 hb5 hg6 hb50
       go_wp2_with fail
       go_roundg s2.l.length
       case measure => have := HLEN.out HE0.out; omega
       case rel =>
        have hl2 := HLEN.out HE0.out
        have hE0 := HE0.out
        have hss : s2 = ⟨s2.l, 0⟩ := by cases s2; simp only at hE0; subst hE0; rfl
        have hlen : (out ++ List.replicate 0 fl).length = out.length + 0 := by rw [List.length_append, List.length_replicate]
        have R1 : Value.slice (some ⟨w.heap.size, 0, none⟩) (out.length + 0) N = Value.slice (some ⟨w.heap.size, 0, none⟩) (out ++ List.replicate 0 fl).length N := by rw [hlen]
        have R2 : s2.l.length < f := by omega
        have R3 : res = dcF f ⟨s2.l, 0⟩ (!fl) false (out ++ List.replicate 0 fl) N := by
         rw [← hss, ← HDN.out HE0.out (by rintro (h | h); exact HF.out h; exact HBAD.out h)]
         exact HRES.out
        have R4 : (out ++ List.replicate 0 fl).length ≤ N := by rw [hlen]; exact hcN
        have R5 : false = true → s2.l = l := fun h => by cases h
        have R6 : Rdr w6 (q + 1) ⟨s2.l, 0⟩ := by rw [← hss]; exact hr6
        have R7 : Is w6 q 4 [.bool (!(!fl))] := by rw [Bool.not_not]; exact his6
        have R8 : w6.ownsRow w.heap.size 4 1 (.slice (some ⟨w.heap.size, 0, none⟩) (out ++ List.replicate 0 fl).length N) (out ++ List.replicate 0 fl).length (bvs (out ++ List.replicate 0 fl)) := by rw [hlen]; exact hown6
        have R9 : s2.l.length ≤ 100000 := by omega
        exact ⟨s2.l, out ++ List.replicate 0 fl, f, !fl, false, Nat.le_refl _, R1, rfl, R2, R3, R4, fun _ => HL0.out, R5, R6, R7, R8, hb6, R9⟩
      ·have hz : ((c : Int) == 0) = false := by simp; omega
       clear hbad
       go_wp2_with fail
       refine (flip_c q (!fl) _ his4).mono ?_
       rintro e w5 ⟨rfl, his5, hg5⟩
       have hown5 := own_one hown4 hg5 hgq
       have hr5 := rdr_one hr4 hg5 (by omega)
       have hb5 := below_only hb4 hg5 hb40 (by omega)
       have hb50 := hb5.size
       rw [Bool.not_not] at his5 ⊢
       clear his4 hown4 hr4 hb4 hg5 hb40
       go_wp2_with fail
       have LB1 : c ≤ 100000 := by omega
       have LB2 : out.length ≤ 100000 := by omega
       have LB3 : out.length + c ≤ N := by omega
       refine (layF_c w.heap.size w.heap.size out.length N c fl out LB1 LB2 LB3 _ hown5).mono ?_
       rintro e w6 ⟨rfl, hown6, hg6⟩
       have hr6 := rdr_one hr5 hg6 (by omega)
       have his6 := is_grown his5 hg6 (fun e => by injection e with e; omega)
       have hb6 := below_only hb5 hg6 hb50 (Nat.le_refl _)
       clear his5 hown5 hr5 hb5 hg6 hb50
       go_wp2_with fail
       go_roundg s2.l.length
       case measure => have := HLEN.out HE0.out; omega
       case rel =>
        have hl2 := HLEN.out HE0.out
        have hE0 := HE0.out
        have hss : s2 = ⟨s2.l, 0⟩ := by cases s2; simp only at hE0; subst hE0; rfl
        have hlen : (out ++ List.replicate c fl).length = out.length + c := by rw [List.length_append, List.length_replicate]
        have R1 : Value.slice (some ⟨w.heap.size, 0, none⟩) (out.length + c) N = Value.slice (some ⟨w.heap.size, 0, none⟩) (out ++ List.replicate c fl).length N := by rw [hlen]
        have R2 : s2.l.length < f := by omega
        have R3 : res = dcF f ⟨s2.l, 0⟩ (!fl) false (out ++ List.replicate c fl) N := by
         rw [← hss, ← HDN.out HE0.out (by rintro (h | h); exact HF.out h; exact HBAD.out h)]
         exact HRES.out
        have R4 : (out ++ List.replicate c fl).length ≤ N := by rw [hlen]; exact hcN
        have R5 : false = true → s2.l = l := fun h => by cases h
        have R6 : Rdr w6 (q + 1) ⟨s2.l, 0⟩ := by rw [← hss]; exact hr6
        have R7 : Is w6 q 4 [.bool (!(!fl))] := by rw [Bool.not_not]; exact his6
        have R8 : w6.ownsRow w.heap.size 4 1 (.slice (some ⟨w.heap.size, 0, none⟩) (out ++ List.replicate c fl).length N) (out ++ List.replicate c fl).length (bvs (out ++ List.replicate c fl)) := by rw [hlen]; exact hown6
        have R9 : s2.l.length ≤ 100000 := by omega
        exact ⟨s2.l, out ++ List.replicate c fl, f, !fl, false, Nat.le_refl _, R1, rfl, R2, R3, R4, fun _ => HL0.out, R5, R6, R7, R8, hb6, R9⟩
   ·have hee : (s2.e != 0) = true := by simpa using he
    have HE0 := Lib.hid he
    clear he
    go_wp2_with fail
    go_ret2
    have hre := HRES.out
    rw [HDE.out HE0.out] at hre
    rw [hre]
    exact bEnd_nil hb4
end Fg
end Go.Proofs.YtojhenpaeedimaaGreat
end
