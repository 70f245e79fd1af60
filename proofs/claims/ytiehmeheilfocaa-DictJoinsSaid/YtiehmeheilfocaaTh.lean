/-
  Decode of texts, the program's.
-/
import Derived.Test.YtiehmeheilfocaaTg
namespace Go.Proofs.Ytiehmeheilfocaa
open Go.RowKit Go.IntWalk
open Pk Dc Wd
set_option maxRecDepth 100000
attribute [local go_sem] Oper.semAt_some

theorem enc4_mem {V : List Tx} {t : Tx} (h : t ∈ V) : t.length ≤ (enc4 V).length := by
  induction V with
  | nil => simp at h
  | cons x V ih =>
    rw [enc4, List.length_append, List.length_append]
    rcases List.mem_cons.1 h with rfl | h
    · omega
    · have := ih h; omega
/-- what is taken: no more than there is -/
theorem tkW_ok {l : List UInt8} {n : Nat} {most to : Int} {W : List Tx} (h : tkW l n most = (W, to, 0)) : W.length ≤ n ∧ (∀ t ∈ W, t.length ≤ l.length) ∧ ∃ u : Nat, to = (u : Int) ∧ u ≤ l.length := by
  unfold tkW at h
  split at h
  · rename_i d; simp only [Prod.mk.injEq] at h; exact absurd h.2.2 d
  · split at h
    · simp at h
    · rename_i d1 d2
      obtain ⟨V, u, b1, b2, b3, b4, b5, _⟩ := tks_dec _ _ _ _ _ (by omega) h
      rw [List.nil_append] at b1
      subst b1
      refine ⟨by omega, fun t ht => ?_, u, b3, b4⟩
      have h1 := enc4_mem ht
      have h2 := congrArg List.length b5
      rw [List.length_append, List.length_drop] at h2
      omega
theorem tks_zero (l : List UInt8) (most to : Int) (out : List Tx) : tks l most 0 to out = (out, to, 0) := rfl
theorem tks_err {l : List UInt8} {most to e : Int} {c : Nat} {out : List Tx} (h : tk l to most = ([], 0, e)) (he : e ≠ 0) : tks l most (c + 1) to out = ([], 0, e) := by rw [tks, h, if_pos he]
theorem tks_next {l : List UInt8} {most to u : Int} {t : Tx} {c : Nat} {out : List Tx} (h : tk l to most = (t, u, 0)) : tks l most (c + 1) to out = tks l most c u (out ++ [t]) := by rw [tks, h, if_neg (by simp)]

theorem wtake_k {l : List UInt8} {k most : Int} (t : Tx) (u e : Int) (h : tk l k most = (t, u, e)) (hl : l.length ≤ 140737488351232) (hm : most ≤ 9223372036854775807) (w : World) :
    Calls Try.prog 70 #[.string (ba l), .int .i64 k, .int .i64 most] w fun e' w' => e' = .returned (.tuple #[.string (ba t), .int .i64 u, .int .i64 e]) ∧ Below w.heap.size w w' := by
  refine (take_w l hl k most hm w).mono ?_
  rintro e' w' ⟨hT, hb⟩
  unfold Tk at hT
  rw [h] at hT
  exact ⟨hT, hb⟩
theorem rwtake_k {l : List UInt8} {k most : Int} (t : Tx) (u e : Int) (h : tk l k most = (t, u, e)) (hl : l.length ≤ 140737488351232) (hm : most ≤ 9223372036854775807) (w : World) :
    Calls Try.prog 61 #[.string (ba l), .int .i64 k, .int .i64 most] w fun e' w' => e' = .returned (.tuple #[.string (ba t), .int .i64 u, .int .i64 e]) ∧ Below w.heap.size w w' := by
  refine (rtake_w l hl k most hm w).mono ?_
  rintro e' w' ⟨hT, hb⟩
  unfold Tk at hT
  rw [h] at hT
  exact ⟨hT, hb⟩

def TEnd (r : List Tx × Int × Int) (w : World) (e : Ending) (w' : World) : Prop :=
  ∃ A cap, e = .returned (.tuple #[.slice A r.1.length cap, .int .i64 r.2.1, .int .i64 r.2.2]) ∧ At w' w'.heap.size A (svs r.1) ∧ Below w.heap.size w w'
theorem tEnd_nil {x y : Int} {w w' : World} (hb : Below w.heap.size w w') : TEnd ([], x, y) w (.returned (.tuple #[.slice none 0 0, .int .i64 x, .int .i64 y])) w' :=
  ⟨none, 0, rfl, At.nil _ _ _, hb⟩

set_option maxHeartbeats 8000000 in
theorem dtake_c (l : List UInt8) (N : Nat) (most : Int) (hN : N ≤ 4096) (hm : most ≤ 9223372036854775807) (hl : l.length ≤ 100000) (w : World) :
    Calls Try.prog 59 #[.string (ba l), .int .i64 (N : Int), .int .i64 most] w (TEnd (tkW l N most) w) := by
  have hs := ba_size l
  obtain ⟨i0, hi, hz0, hz1, hz2⟩ := info_parts Try.info9
  obtain ⟨res, hres⟩ : ∃ res, res = tkW l N most := ⟨_, rfl⟩
  have hr0 := hres
  unfold tkW at hr0
  rw [← hres]
  obtain ⟨v, hv⟩ : ∃ v, v = numV ⟨l, 0⟩ := ⟨_, rfl⟩
  obtain ⟨s, hss⟩ : ∃ s, s = numS ⟨l, 0⟩ := ⟨_, rfl⟩
  have hsl := numS_len ⟨l, 0⟩
  rw [← hss] at hsl
  rw [← hv, ← hss] at hr0
  have HR0 := Lib.hid hr0
  have HV := Lib.hid hv
  have HS := Lib.hid hss
  simp only at hsl
  clear hres hr0 hv hss
  go_enter Try.func59, Try.ntmps59
  go_wp2_with fail
  refine (new_c l _).mono ?_
  rintro e w1 ⟨rfl, hr1, hw1⟩
  have hb1 : Below w.heap.size w w1 := by rw [hw1]; exact (Below.refl _ _).alloc (Nat.le_refl _) _
  clear hw1
  go_wp2_with fail
  refine (num_m _ ⟨l, 0⟩ _ hr1).mono ?_
  rintro e w2 ⟨rfl, hr2, ho2⟩
  rw [← HV.out]
  rw [← HS.out] at hr2
  have hb2 := below_only hb1 ho2 hb1.size (Nat.le_refl _)
  clear hr1 hb1 ho2
  go_wp2_with fail
  refine (err_c _ s _ hr2).mono ?_
  rintro e wz ⟨rfl, rfl⟩
  by_cases he : s.e = 0
  · have hee : (s.e != 0) = false := by rw [he]; rfl
    have HE0 := Lib.hid he
    have hwu : IntKind.u64.wrap (N : Int) = (N : Int) := by rw [IntKind.wrap_u64]; omega
    clear he
    by_cases hfar : N < v
    · have hfar2 : (N : Int) < (v : Int) := by omega
      have hres2 : res = ([], 0, 10) := by
        have := HR0.out
        rw [if_neg (by rw [HE0.out]; simp), if_pos hfar] at this
        exact this
      have HRES := Lib.hid hres2
      clear hres2
      go_wp2_with fail
      go_ret3
      rw [HRES.out]
      exact tEnd_nil hb2
    · have hfar2 : ¬ (N : Int) < (v : Int) := by omega
      have hres2 : tks l most v ((l.length - s.l.length : Nat) : Int) [] = res := by
        have := HR0.out
        rw [if_neg (by rw [HE0.out]; simp), if_neg hfar] at this
        exact this.symm
      have HRES := Lib.hid hres2
      have hvN : v ≤ 4096 := by omega
      have hbx : i0.bytes * v ≤ 281474976710656 := by rw [hz2]; omega
      have hmx : v ≤ maxLen := by unfold maxLen; omega
      have hb20 := hb2.size
      clear hres2 hfar
      go_wp2_with (at_make; refine wpList_make_own _ rfl _ _ 39 rfl w.heap.size 9 i0 (.string ByteArray.empty) 1 Try.underlying39 hi hz0 hz1 .i64 .u64 _ v rfl rfl rfl hbx hmx hb20 ?_; intro w3 hown3 hgrow3)
      have hgl := (hown3.lt w2.heap.size rfl).2
      have hb3 := hb2.grown hgrow3 hb20 (fun k hk => by cases hk)
      have hr3 : Rdr w3 w.heap.size s := (hgrow3.block _ (is_lt hr2) (by simp)).trans hr2
      obtain ⟨g, hg⟩ : ∃ g, g = w2.heap.size := ⟨_, rfl⟩
      rw [← hg] at hown3 hgl ⊢
      have hgb : w.heap.size ≤ g := by omega
      clear hg hr2 hb2 hb20 hgrow3 hbx hmx
      refine (left_c _ s _ hr3).mono ?_
      rintro e w3 ⟨rfl, rfl⟩
      have hend : (l.length : Int) - (s.l.length : Int) = ((l.length - s.l.length : Nat) : Int) := by omega
      obtain ⟨K0, hK0⟩ : ∃ K0, K0 = l.length - s.l.length := ⟨_, rfl⟩
      rw [← hK0] at hend HRES
      have hK0l : K0 ≤ l.length := by omega
      clear hK0 hsl hr3
      go_wp2_with fail
      go_loopw [12, 13, 38] (fun sl to i wr => ∃ (i' K : Nat) (out : List Tx), i = .int .u64 (i' : Int) ∧ i' ≤ v ∧ sl = .slice (some ⟨g, 0, none⟩) i' v ∧ out.length = i' ∧ to = .int .i64 (K : Int) ∧ K ≤ l.length ∧ tks l most (v - i') (K : Int) out = res ∧ wr.ownsRow w.heap.size 9 1 (.slice (some ⟨g, 0, none⟩) i' v) i' (svs out) ∧ Below w.heap.size w wr)
        (fun _ _ i _ => v - (intOf i).toNat)
      case atStart => exact ⟨0, K0, [], rfl, Nat.zero_le _, rfl, rfl, by rw [← hend], hK0l, HRES.out, hown3, hb3⟩
      case round =>
        clear hown3 hb3 hend hK0l
        obtain ⟨i', K, out, rfl, hiv, rfl, hol, rfl, hK, htk, hown, hb⟩ := hrel
        have hb0 := hb.size
        have HTK := Lib.hid htk
        have HOL := Lib.hid hol
        have hgw := (hown.lt g rfl).2
        clear htk hol
        by_cases hlt : i' < v
        · obtain ⟨c, hc⟩ : ∃ c, v - i' = c + 1 := ⟨v - i' - 1, by omega⟩
          have HC := Lib.hid hc
          rcases tk_two l K most hK with ⟨er, he, h1⟩ | ⟨t, u, h1, hu, -, -, -, -⟩
          · have hres2 : res = ([], 0, er) := by rw [← HTK.out, hc, tks_err h1 he]
            have HRES2 := Lib.hid hres2
            have hee : (er != 0) = true := by simpa using he
            have H1 := Lib.hid h1
            clear hres2 he h1 hc
            go_wp2_with fail
            refine (wtake_k [] 0 er H1.out (by omega) hm _).mono ?_
            rintro e w5 ⟨rfl, hm5⟩
            go_wp2_with fail
            go_ret3
            rw [HRES2.out]
            exact tEnd_nil (hb.trans (hm5.mono hb0))
          · have hres2 : tks l most (v - (i' + 1)) (u : Int) (out ++ [t]) = res := by rw [← HTK.out, hc, tks_next h1, show v - (i' + 1) = c by omega]
            have HRES2 := Lib.hid hres2
            have H1 := Lib.hid h1
            have hic : i' + 1 ≤ v := by omega
            clear hres2 h1 hc
            go_wp2_with fail
            refine (wtake_k t (u : Int) 0 H1.out (by omega) hm _).mono ?_
            rintro e w5 ⟨rfl, hm5⟩
            have hown5 : w5.ownsRow w.heap.size 9 1 (.slice (some ⟨g, 0, none⟩) i' v) i' (svs out) := hown.kept (row := none) ⟨hm5.os, hm5.tape, hm5.output, hm5.size, fun k hk _ => hm5.block k hk⟩ (.inr (by simp [Value.ownBlock]))
            have hb5 := hb.trans (hm5.mono hb0)
            have hb50 := hb5.size
            clear hown hb hm5 hb0
            go_wp2_with (at_builtin; refine wpList_append_fits _ rfl _ _ 39 rfl w.heap.size 9 i0 1 Try.underlying39 hi hz1 g i' v _ rfl (hown5.alloc _) ⟨w5.heap.size, 0, none⟩ 1 1 [.string (ba t)] rfl rfl (cell_one_new _ _ _) (by simp [Value.oneCell']) hic ?_; intro w6 hown6 hgrow6)
            have hb6 := below_ownI hb5 hb50 hown5 hgrow6
            clear hown5 hb5 hgrow6
            go_roundw
            case rel => exact ⟨i' + 1, u, out ++ [t], by go_num, by omega, rfl, by rw [List.length_append, HOL.out]; rfl, rfl, hu, HRES2.out, by rw [svs_snoc]; exact hown6, hb6⟩
            case measure => simp only [intOf]; omega
        · obtain rfl : i' = v := by omega
          have hres2 : res = (out, (K : Int), 0) := by rw [← HTK.out, Nat.sub_self, tks_zero]
          have HRES2 := Lib.hid hres2
          obtain ⟨A3, c3, hA3, hat3, -, -⟩ := own_at hown
          cases hA3
          clear hres2 hown
          go_wp2_with fail
          go_ret3
          rw [HRES2.out]
          have ho := HOL.out
          exact ⟨_, _, by rw [show ((out, (K : Int), (0 : Int)) : List Tx × Int × Int).1.length = i' from ho]; rfl, hat3, hb⟩
  · have hee : (s.e != 0) = true := by simpa using he
    have hres2 : res = ([], 0, s.e) := by
      have := HR0.out
      rw [if_pos he] at this
      exact this
    have HRES := Lib.hid hres2
    clear hres2 he
    go_wp2_with fail
    go_ret3
    rw [HRES.out]
    exact tEnd_nil hb2
end Go.Proofs.Ytiehmeheilfocaa
