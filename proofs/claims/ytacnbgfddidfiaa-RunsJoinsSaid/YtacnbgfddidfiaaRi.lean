/-
  slices.Collect; Decode; the document's Decode.
-/
import Derived.Test.YtacnbgfddidfiaaRh
import Derived.Test.YtacnbgfddidfiaaBk
import Derived.Test.YtacnbgfddidfiaaBs
namespace Go.Proofs.Ytacnbgfddidfiaa
open Go.RowKit Go.IntWalk
open Pk
set_option maxRecDepth 100000
attribute [local go_sem] Oper.semAt_some

set_option maxHeartbeats 1000000 in
theorem collect_c (Bn Br q n : Nat) (s0 : St) (hn : n ≤ 100000) (he0 : s0.e = 0) (hqr : Br ≠ q) (w : World) (hBn : Bn < w.heap.size) (hBr : Br < w.heap.size) (hq : q < w.heap.size)
    (hcn : w.cell? ⟨Bn, 0, none⟩ = some (.int .i64 (n : Int))) (hcr : w.cell? ⟨Br, 0, none⟩ = some (.pointer (some ⟨q, 0, none⟩))) (hr : Rdr w q s0) :
    Calls Try.prog 46 #[.func (.func 62) #[] #[.pointer (some ⟨Bn, 0, none⟩), .pointer (some ⟨Br, 0, none⟩)]] w fun e W' =>
      ∃ A cap ys, e = .returned (.slice A ys.length cap) ∧ At W' W'.heap.size A (ivs ys) ∧ Fresh w.heap.size A ∧ ys.length ≤ n ∧ IntsEnd q n s0 ys W' ∧ w.grownBy W' (some q) := by
  refine (callsIn_wide (n := 4)).1 ?_
  refine callsIn_of_wp Try.func46 rfl trivial ?_ rfl
  simp only [Try.ntmps46, List.size_toArray, List.length_cons, List.length_nil, Nat.reduceAdd, Nat.reduceSub, Array.replicate_succ, Array.replicate_zero, List.push_toArray, List.append_toArray, List.nil_append, List.cons_append]
  gi_wp2_with fail
  refine ⟨trivial, (appendSeq_in 3 (Nat.le_refl _) Bn Br q n s0 hn he0 hqr w hBn hBr hq hcn hcr hr).mono ?_⟩
  rintro e w1 ⟨v, ys, rfl, hown, hyn, hend, ho⟩
  obtain ⟨A, cap, rfl, ha, hfr, -⟩ := own_at hown
  clear hown
  gi_wp2
  go_ret
  exact ⟨A, cap, ys, rfl, ha, hfr, hyn, hend, ho⟩

/-- what Decode answers -/
def DecEnd (r : List Int × Int) (w : World) (e : Ending) (w' : World) : Prop :=
  ∃ A cap, e = .returned (.tuple #[.slice A r.1.length cap, .int .i64 r.2]) ∧ r.1.length ≤ cap ∧ Fresh w.heap.size A ∧ At w' w'.heap.size A (ivs r.1) ∧ Below w.heap.size w w'
theorem decEnd_nil {r : List Int × Int} {w w' : World} {x : Int} (h : r = ([], x)) (hb : Below w.heap.size w w') : DecEnd r w (.returned (.tuple #[.slice none 0 0, .int .i64 x])) w' := by
  subst h
  exact ⟨none, 0, rfl, Nat.le_refl _, fun a ha => (by cases ha), At.nil _ _ _, hb⟩

set_option maxHeartbeats 2000000 in
theorem decode_c (l : List UInt8) (n : Int) (hn1 : -9223372036854775808 ≤ n) (hn2 : n ≤ 9223372036854775807) (hl : l.length ≤ 100000) (w : World) :
    Calls Try.prog 23 #[.string (ba l), .int .i64 n] w (DecEnd (decV l n) w) := by
  have hs := ba_size l
  rcases Int.lt_or_le n 0 with hneg | hpos
  · have hd := decV_neg (l := l) hneg
    have HD := Lib.hid hd
    clear hd
    go_enter Try.func23, Try.ntmps23
    go_wp2_with fail
    go_ret2
    exact decEnd_nil HD.out (Below.refl _ _)
  rcases Int.lt_or_le (l.length : Int) n with hfar | hin
  · have hd := decV_far hfar
    have HD := Lib.hid hd
    clear hd
    go_enter Try.func23, Try.ntmps23
    go_wp2_with fail
    go_ret2
    exact decEnd_nil HD.out (Below.refl _ _)
  obtain ⟨k, rfl⟩ := Int.eq_ofNat_of_zero_le hpos
  have hk : k ≤ l.length := by omega
  have HBAD := Lib.hid (@decV_bad l k hk)
  have HOK := Lib.hid (@decV_ok l k hk)
  obtain ⟨r, hr⟩ : ∃ r, r = decV l (k : Int) := ⟨_, rfl⟩
  have HR := Lib.hid hr
  rw [← hr]
  clear hr
  go_enter Try.func23, Try.ntmps23
  go_wp2_with fail
  refine (new_c l _).mono ?_
  rintro e w1 ⟨rfl, hr1, hw1⟩
  have hsz1 : w1.heap.size = w.heap.size + 1 := by rw [hw1]; simp
  have hb1 : Below w.heap.size w w1 := by rw [hw1]; exact (Below.refl _ _).alloc (Nat.le_refl _) _
  clear hw1
  go_wp2_with fail
  refine ((callsIn_wide (n := 3)).1 (ints_in Fence.wide 3 trivial rfl ⟨w.heap.size, 0, none⟩ (k : Int) w1)).mono ?_
  rintro e w2 ⟨rfl, hw2⟩
  have hsz2 : w2.heap.size = w.heap.size + 3 := by rw [hw2]; simp [hsz1]
  have hb2 : Below w.heap.size w w2 := by rw [hw2]; exact (hb1.alloc hb1.size _).alloc (by simp; omega) _
  have hr2 : Rdr w2 w.heap.size ⟨l, 0⟩ := by rw [hw2]; exact is_alloc (is_alloc hr1 _) _
  have hcr : w2.cell? ⟨w1.heap.size, 0, none⟩ = some (.pointer (some ⟨w.heap.size, 0, none⟩)) := by
    rw [hw2]; exact ((Boxed.new w1 65 (.pointer (some ⟨w.heap.size, 0, none⟩))).alloc _).cell
  have hcn : w2.cell? ⟨w1.heap.size + 1, 0, none⟩ = some (.int .i64 (k : Int)) := by
    have := (Boxed.new (w1.alloc (.cells #[.pointer (some ⟨w.heap.size, 0, none⟩)] 65)) 3 (.int .i64 (k : Int))).cell
    rw [World.size_alloc] at this
    rw [hw2]; exact this
  rw [hsz1] at hcr hcn ⊢
  clear hw2 hr1 hb1
  go_wp2_with fail
  refine (collect_c _ _ w.heap.size k ⟨l, 0⟩ (by omega) rfl (by omega) w2 (by omega) (by omega) (by omega) hcn hcr hr2).mono ?_
  rintro e w3 ⟨A, cap, ys, rfl, hat, hfr, hyn, hend, ho⟩
  have hb3 : Below w.heap.size w w3 := hb2.trans ⟨ho.os, ho.tape, ho.output, ho.size, fun i hi => ho.block i (by omega) (fun e => by injection e with e; omega)⟩
  obtain ⟨hr3, hys⟩ := hend
  have HYS := Lib.hid hys
  have HAT := Lib.hid hat
  clear hcn hcr hr2 hb2 hys hat ho
  obtain ⟨st, hst⟩ : ∃ st, st = (rdn k ⟨l, 0⟩).2 := ⟨_, rfl⟩
  rw [← hst] at hr3 HYS
  have HST := Lib.hid hst
  clear hst
  go_wp2_with fail
  refine (done_c _ st _ hr3).mono ?_
  rintro e wz ⟨rfl, rfl⟩
  by_cases hd : doneV st = 0
  · have hdb : (doneV st != 0) = false := by rw [hd]; rfl
    have HDD := Lib.hid hd
    clear hd
    go_wp2_with fail
    refine (sums_c A cap ys (by omega) _ HAT.out).mono ?_
    rintro e w4 ⟨A', cap', rfl, hcp4, hfr4, hat4, hb4⟩
    go_wp2_with fail
    go_ret2
    have h0 := HYS.out (doneV_zero HDD.out).1
    have hdec := HOK.out (by rw [← HST.out]; exact HDD.out)
    rw [HR.out, hdec, ← h0]
    exact ⟨A', cap', by rw [sm_len]; rfl, by rw [sm_len]; exact hcp4, fun a ha => Nat.le_trans hb3.size (hfr4 a ha), hat4, hb3.trans (hb4.mono hb3.size)⟩
  · have hdb : (doneV st != 0) = true := by simpa using hd
    have HDD := Lib.hid hd
    clear hd
    go_wp2_with fail
    go_ret2
    refine decEnd_nil ?_ hb3
    rw [HR.out, HST.out]
    exact HBAD.out (by rw [← HST.out]; exact HDD.out)

theorem below_only {B g : Nat} {a w w' : World} (hb : Below B a w) (ho : w.grownBy w' (some g)) (hB : B ≤ w.heap.size) (hg : B ≤ g) : Below B a w' :=
  hb.grown ho hB (fun k hk => by injection hk with hk; omega)
theorem ref_drewN' {w : World} {q : Nat} {l : List UInt8} {s : St} (h : Ref w q l s) (n : Nat) : Ref (w.drewN n) q l s := h
theorem own_only {w w' : World} {B e size n q : Nat} {v : Value} {xs : List Value} (h : w.ownsRow B e size v n xs) (ho : w.grownBy w' (some q)) (hq : q < B) : w'.ownsRow B e size v n xs :=
  h.kept ho (by
    by_cases hb : v.ownBlock = none
    · exact .inl hb
    · exact .inr fun e => by have := (h.lt q e).1; omega)
theorem at_drewN {w : World} {A : Option Addr} {xs : List Value} (h : At w w.heap.size A xs) (n : Nat) : At (w.drewN n) (w.drewN n).heap.size A xs := h
theorem ref_new {w w2 : World} {q : Nat} {l : List UInt8} {s : St} {o : Obj} {B : Nat} {e : TypeId} {size n : Nat} {v : Value} {xs : List Value} (h : Ref w q l s) (hown : w.ownsRow B e size v n xs) (hg : (w.alloc o).grownBy w2 v.ownBlock) (hq : q < B) : Ref w2 q l s := by
  obtain ⟨k, hk, hd, hr⟩ := h
  exact ⟨k, hk, hd, is_grown (is_alloc hr o) hg (fun e => by have := (hown.lt q e.symm).1; omega)⟩

set_option maxHeartbeats 4000000 in
theorem rdecode_c (l : List UInt8) (n : Int) (hn1 : -9223372036854775808 ≤ n) (hn2 : n ≤ 9223372036854775807) (hl : l.length ≤ 100000) (w : World) :
    Calls Try.prog 24 #[.string (ba l), .int .i64 n] w (DecEnd (decV l n) w) := by
  have hs := ba_size l
  rcases Int.lt_or_le n 0 with hneg | hpos
  · have hd := decV_neg (l := l) hneg
    have HD := Lib.hid hd
    clear hd
    go_enter Try.func24, Try.ntmps24
    go_wp2_with fail
    go_ret2
    exact decEnd_nil HD.out (Below.refl _ _)
  rcases Int.lt_or_le (l.length : Int) n with hfar | hin
  · have hd := decV_far hfar
    have HD := Lib.hid hd
    clear hd
    go_enter Try.func24, Try.ntmps24
    go_wp2_with fail
    go_ret2
    exact decEnd_nil HD.out (Below.refl _ _)
  obtain ⟨n, rfl⟩ := Int.eq_ofNat_of_zero_le hpos
  have hk : n ≤ l.length := by omega
  have HBAD := Lib.hid (@decV_bad l n hk)
  have HOK := Lib.hid (@decV_ok l n hk)
  obtain ⟨r, hr⟩ : ∃ r, r = decV l (n : Int) := ⟨_, rfl⟩
  have HR := Lib.hid hr
  rw [← hr]
  clear hr
  obtain ⟨i0, hi, hz0, hz1, hz2⟩ := info_parts Try.info3
  have hbl1 : decide (l.length < n) = false := by simp; omega
  have hbl2 : decide ((n : Int) < 0) = false := by simp
  go_enter Try.func24, Try.ntmps24
  go_wp2_with fail
  have hr1 : Ref (w.alloc (.cells #[.string (ba l), .int .i64 0, .int .i64 0] 74)) w.heap.size l ⟨l, 0⟩ := ref_mk (Nat.zero_le _) rfl (is_new w 74 [.string (ba l), .int .i64 0, .int .i64 0])
  have hb1 : Below w.heap.size w (w.alloc (.cells #[.string (ba l), .int .i64 0, .int .i64 0] 74)) := (Below.refl _ _).alloc (Nat.le_refl _) _
  obtain ⟨w1, hw1⟩ : ∃ w1, w1 = w.alloc (.cells #[.string (ba l), .int .i64 0, .int .i64 0] 74) := ⟨_, rfl⟩
  have hsz1 : w1.heap.size = w.heap.size + 1 := by rw [hw1]; simp
  rw [← hw1] at hr1 hb1 ⊢
  clear hw1
  go_loopw [7, 8] (fun v i wr => ∃ (k j : Nat) (s : St) (out : List Int), i = .int .i64 (k : Int) ∧ k + j = n ∧ out.length = k ∧ out ++ (rdn j s).1 = (rdn n ⟨l, 0⟩).1 ∧ (rdn j s).2 = (rdn n ⟨l, 0⟩).2 ∧
      Ref wr w.heap.size l s ∧ wr.ownsRow w1.heap.size 3 1 v out.length (ivs out) ∧ Below w.heap.size w wr ∧ w1.heap.size ≤ wr.heap.size)
    (fun _ i _ => n - (intOf i).toNat)
  case atStart => exact ⟨0, n, ⟨l, 0⟩, [], rfl, by omega, rfl, rfl, rfl, hr1, World.ownsRow_nil _ _ _ _, hb1, Nat.le_refl _⟩
  case round =>
    clear hr1 hb1
    obtain ⟨k, j, s, out, rfl, hkj, hol, he1, he2, hr, hown, hb, hws⟩ := hrel
    have HE1 := Lib.hid he1
    have HE2 := Lib.hid he2
    have HOL := Lib.hid hol
    have hle : out.length ≤ 100000 := by omega
    clear he1 he2 hol
    by_cases hlt : k < n
    · obtain ⟨j, rfl⟩ : ∃ j', j = j' + 1 := ⟨j - 1, by omega⟩
      go_wp2_with fail
      refine (rint_m _ l s (by omega) _ hr).mono ?_
      rintro e w2 ⟨rfl, hr2, ho2⟩
      have hb2 := below_only hb ho2 hb.size (Nat.le_refl _)
      have hws2 := Nat.le_trans hws ho2.size
      have hown2 := own_only hown ho2 (by omega)
      clear hr hown ho2 hb
      obtain ⟨d, hd⟩ : ∃ d, d = zag (numV s) := ⟨_, rfl⟩
      rw [← hd]
      have HD := Lib.hid hd
      clear hd
      go_wp2_with (at_builtin; refine wpList_append_own _ rfl _ _ 22 rfl w1.heap.size 3 i0 (.int .i64 0) 1 8 Try.underlying22 hi hz0 hz1 hz2 rfl (by decide) _ _ _ rfl (hown2.alloc _) ⟨w2.heap.size, 0, none⟩ 1 1 [.int .i64 d] rfl rfl (cell_one_new _ _ _) (by simp [Value.oneCell']) (by unfold maxLen; omega) (by omega) (by simp; omega) ?_; intro v' w3 hown' hgrow _)
      have hr3 := ref_new hr2 hown2 hgrow (by omega)
      have hb3 := below_ownI hb2 hb2.size (ownsRow_lower hown2 (by omega)) hgrow
      have ho3 := own_snocI hown'
      have hws3 : w1.heap.size ≤ w3.heap.size := Nat.le_trans hws2 (by have := hgrow.size; rw [World.size_alloc] at this; omega)
      clear hown2 hown' hgrow hb2 hr2
      go_wp2
      go_roundw
      case rel => exact ⟨k + 1, j, numS s, out ++ [d], by go_num, by omega, by simp [HOL.out], by rw [← HE1.out, HD.out, rdn]; simp, by rw [← HE2.out, rdn], hr3, ho3, hb3, hws3⟩
      case measure => simp only [intOf]; omega
    · obtain rfl : j = 0 := by omega
      obtain ⟨A, cap, rfl, hat, hfr, -⟩ := own_at hown
      have HAT := Lib.hid hat
      have hwsz := hb.size
      clear hown hat
      go_wp2_with fail
      refine (rdone_m _ l s (by omega) _ hr).mono ?_
      rintro e w2 ⟨rfl, q1, rfl⟩
      have hb2 := below_drewN hb q1
      obtain ⟨st, hst⟩ : ∃ st, st = (rdn n ⟨l, 0⟩).2 := ⟨_, rfl⟩
      have hss : s = st := by rw [hst]; exact HE2.out
      subst hss
      have HST := Lib.hid hst
      clear hst
      by_cases hd : doneV s = 0
      · have hdb : (doneV s != 0) = false := by rw [hd]; rfl
        have HDD := Lib.hid hd
        clear hd
        have hoi : Ints out := by
          have h : out = (rdn n ⟨l, 0⟩).1 := by rw [← HE1.out]; simp [rdn]
          rw [h]; exact rdn_in _ _
        have HOI := Lib.hid hoi
        clear hoi
        go_wp2_with fail
        refine (rsums_c A cap out hle HOI.out _ (at_drewN HAT.out q1)).mono ?_
        rintro e w4 ⟨A', cap', rfl, hcp4, hfr4, hat4, hb4⟩
        go_wp2_with fail
        go_ret2
        have h0 : out = (rdn n ⟨l, 0⟩).1 := by rw [← HE1.out]; simp [rdn]
        have hdec := HOK.out (by rw [← HST.out]; exact HDD.out)
        rw [HR.out, hdec, ← h0]
        exact ⟨A', cap', by rw [sm_len]; rfl, by rw [sm_len]; exact hcp4, fun a ha => Nat.le_trans hb2.size (hfr4 a ha), hat4, hb2.trans (hb4.mono hb2.size)⟩
      · have hdb : (doneV s != 0) = true := by simpa using hd
        have HDD := Lib.hid hd
        clear hd
        go_wp2_with fail
        refine (rdone_m _ l s (by omega) _ (ref_drewN' hr q1)).mono ?_
        rintro e w3 ⟨rfl, q2, rfl⟩
        go_wp2_with fail
        go_ret2
        refine decEnd_nil ?_ (below_drewN hb _)
        rw [HR.out, HST.out]
        exact HBAD.out (by rw [← HST.out]; exact HDD.out)
end Go.Proofs.Ytacnbgfddidfiaa
