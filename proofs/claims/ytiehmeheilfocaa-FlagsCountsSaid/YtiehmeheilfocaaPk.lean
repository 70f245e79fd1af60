/-
  Decode of flags, the document's.
-/
import Derived.Test.YtiehmeheilfocaaPh
import Derived.Test.YtiehmeheilfocaaPj
namespace Go.Proofs.Ytiehmeheilfocaa
open Go.RowKit Go.IntWalk
open Pk
set_option maxRecDepth 100000
attribute [local go_sem] Oper.semAt_some

/-- numbers as ints -/
def ints (l : List Nat) : List Int := l.map fun (n : Nat) => (n : Int)
theorem ints_len (l : List Nat) : (ints l).length = l.length := by simp [ints]
theorem ints_snoc (l : List Nat) (c : Nat) : ivs (ints (l ++ [c])) = ivs (ints l) ++ [.int .i64 (c : Int)] := by simp [ints, ivs]
theorem par_app (L : List Nat) (c : Nat) : sprB false (L ++ [c]) = sprB false L ++ List.replicate c (par L.length) := by
  rw [sprB_app]
  congr 1
  rw [sprB_cons, sprB_nil, List.append_nil]
  congr 1

set_option maxHeartbeats 8000000 in
theorem frdecode_c (l : List UInt8) (n : Int) (hn1 : -9223372036854775808 ≤ n) (hn2 : n ≤ 9223372036854775807) (hl : l.length ≤ 90000) (w : World) :
    Calls Try.prog 25 #[.string (ba l), .int .i64 n] w (BEnd (decF l n).1 (.int .i64 (decF l n).2) w) := by
  have hs := ba_size l
  rcases Int.lt_or_le n 0 with hneg | hpos
  · rw [decF_neg hneg]
    go_enter Try.func25, Try.ntmps25
    go_wp2_with fail
    go_ret2
    exact bEnd_nil (Below.refl _ _)
  rcases Int.lt_or_le 4096 n with hfar | hin
  · rw [decF_big hfar]
    go_enter Try.func25, Try.ntmps25
    go_wp2_with fail
    go_ret2
    exact bEnd_nil (Below.refl _ _)
  obtain ⟨N, rfl⟩ := Int.eq_ofNat_of_zero_le hpos
  have hN : N ≤ 4096 := by omega
  obtain ⟨res, hres⟩ : ∃ res, res = decF l (N : Int) := ⟨_, rfl⟩
  have hr0 := hres
  rw [decF_in hN] at hr0
  have HR0 := Lib.hid hr0
  rw [← hres]
  obtain ⟨i0, hi, hz0, hz1, hz2⟩ := info_parts Try.info3
  have t1 : decide ((N : Int) < 0) = false := by simp
  have t2 : decide ((4096 : Int) < (N : Int)) = false := by simp; omega
  have hnot : ∀ (x : Bool) (w : World), (Op.unary .not (.bool x)).run Try.prog w = .ok (.bool (!x)) w := fun _ _ => rfl
  clear hres hr0 hpos hin hn1 hn2
  go_enter Try.func25, Try.ntmps25
  go_wp2_with fail
  have hr1 : Ref (w.alloc (.cells #[.string (ba l), .int .i64 0, .int .i64 0] 79)) w.heap.size l ⟨l, 0⟩ := ref_mk (Nat.zero_le _) rfl (is_new w 79 [.string (ba l), .int .i64 0, .int .i64 0])
  have hb1 : Below w.heap.size w (w.alloc (.cells #[.string (ba l), .int .i64 0, .int .i64 0] 79)) := (Below.refl _ _).alloc (Nat.le_refl _) _
  obtain ⟨w1, hw1⟩ : ∃ w1, w1 = w.alloc (.cells #[.string (ba l), .int .i64 0, .int .i64 0] 79) := ⟨_, rfl⟩
  have hsz1 : w1.heap.size = w.heap.size + 1 := by rw [hw1]; simp
  rw [← hw1] at hr1 hb1 ⊢
  clear hw1
  go_loopg [7, 8] l.length (fun m sl lf wr => ∃ (ls : List UInt8) (L : List Nat) (f : Nat), ls.length ≤ m ∧ (∃ A cap, sl = .slice A L.length cap) ∧ lf = .int .i64 ((N : Int) - (L.sum : Int)) ∧ L.length + ls.length ≤ l.length ∧ ls.length < f ∧ res = dcF f ⟨ls, 0⟩ (par L.length) (decide (L = [])) (sprB false L) N ∧ L.sum ≤ N ∧ posN L.tail ∧ Ref wr w.heap.size l ⟨ls, 0⟩ ∧ wr.ownsRow w1.heap.size 3 1 sl L.length (ivs (ints L)) ∧ Below w.heap.size w wr ∧ w1.heap.size ≤ wr.heap.size)
  case atStart => exact ⟨l, [], l.length + 1, Nat.le_refl _, ⟨none, 0, rfl⟩, by simp, by simp, Nat.lt_succ_self _, HR0.out, Nat.zero_le _, by intro x hx; simp at hx, hr1, World.ownsRow_nil _ _ _ _, hb1, Nat.le_refl _⟩
  case round =>
    clear hr1 hb1
    obtain ⟨ls, L, f, hm, ⟨A, cap, rfl⟩, rfl, hLl, hf, hres, hLN, hpos, hr, hown, hb, hws⟩ := hrel
    obtain ⟨f, rfl⟩ : ∃ f', f = f' + 1 := ⟨f - 1, by omega⟩
    have HRES := Lib.hid hres
    have HPOS := Lib.hid hpos
    have HOUT := Lib.hid (sprB_len L false)
    clear hres hpos
    have hb0 := hb.size
    by_cases hemp : ls.length = 0
    · have he : ls = [] := List.eq_nil_of_length_eq_zero hemp
      subst he
      have HSF := Lib.hid (sprF_nat HPOS.out hLN)
      have HNIL := Lib.hid (sprB_none HPOS.out)
      obtain ⟨A', cap', hA, ha, hfr, hcp⟩ := own_at hown
      cases hA
      have hbL : ∀ x ∈ ints L, In64 x := fun x hx => by
        unfold ints at hx
        obtain ⟨y, hy, rfl⟩ := List.mem_map.1 hx
        have : y ≤ L.sum := by
          have h2 : ∀ r : List Nat, y ∈ r → y ≤ r.sum := by
            intro r
            induction r with
            | nil => intro h; simp at h
            | cons z r ih =>
              intro h
              rw [List.sum_cons]
              rcases List.mem_cons.1 h with rfl | h
              · omega
              · have := ih h; omega
          exact h2 L hy
        unfold In64; omega
      have HBL := Lib.hid hbL
      have HA := Lib.hid ha
      clear hown ha hbL
      go_wp2_with fail
      refine (rleft_m _ l ⟨[], 0⟩ (by omega) _ hr).mono ?_
      rintro e w2 ⟨rfl, q1, hw2⟩
      have hb2 : Below w.heap.size w w2 := by rw [hw2]; exact below_drewN hb q1
      have HA2 : At w2 w2.heap.size A (ivs (ints L)) := by rw [hw2]; exact HA.out
      clear hr hb hw2
      go_wp2_with fail
      have hrs := rspreadF_c A cap (ints L) (N : Int) (by rw [ints_len]; omega) (by omega) (by omega) HBL.out w2 HA2
      rw [ints_len, show sprF (ints L) (N : Int) = _ from HSF.out] at hrs
      by_cases h0 : L = [0]
      · rw [if_pos h0] at hrs
        have hres2 : res = ([], 5) := by
          have hre := HRES.out
          rw [df_end rfl, if_pos (.inr ⟨by rw [h0]; rfl, by rw [h0]; rfl⟩)] at hre
          exact hre
        have HRES2 := Lib.hid hres2
        clear h0 hres2
        refine hrs.mono ?_
        rintro e w3 ⟨A3, c3, rfl, -, -, -, hm3⟩
        have hb3 := hb2.trans (hm3.mono hb2.size)
        clear hrs hm3 hb2
        go_wp2_with fail
        go_ret2
        rw [HRES2.out]
        exact bEnd_nil hb3
      · rw [if_neg h0] at hrs
        by_cases hlt : L.sum < N
        · have t3 : decide (0 < (N : Int) - (L.sum : Int)) = true := by simp; omega
          have hres2 : res = ([], 5) := by
            have hre := HRES.out
            rw [df_end rfl, if_pos (.inl (by rw [HOUT.out]; exact hlt))] at hre
            exact hre
          have HRES2 := Lib.hid hres2
          clear h0 hres2
          refine hrs.mono ?_
          rintro e w3 ⟨A3, c3, rfl, -, -, -, hm3⟩
          have hb3 := hb2.trans (hm3.mono hb2.size)
          clear hrs hm3 hb2
          go_wp2_with fail
          go_ret2
          rw [HRES2.out]
          exact bEnd_nil hb3
        · have t3 : decide (0 < (N : Int) - (L.sum : Int)) = false := by simp; omega
          have hres2 : res = (sprB false L, 0) := by
            have hre := HRES.out
            rw [df_end rfl, if_neg] at hre
            · exact hre
            · rintro (h | ⟨h, h2⟩)
              · rw [HOUT.out] at h; exact hlt h
              · rcases HNIL.out.1 h with h | h
                · simp [h] at h2
                · exact h0 h
          have HRES2 := Lib.hid hres2
          obtain ⟨S, hS⟩ : ∃ S, S = sprB false L := ⟨_, rfl⟩
          rw [← hS] at hrs HRES2
          clear h0 hres2 hS
          refine hrs.mono ?_
          rintro e w3 ⟨A3, c3, rfl, hcp3, hfr3, hat3, hm3⟩
          have hb3 := hb2.trans (hm3.mono hb2.size)
          have HF3 := Lib.hid hfr3
          have HAT3 := Lib.hid hat3
          have HB2 := Lib.hid hb2.size
          clear hrs hm3 hb2 hfr3 hat3
          go_wp2_with fail
          go_ret2
          rw [HRES2.out]
          exact ⟨_, _, rfl, hcp3, fun a h => Nat.le_trans HB2.out (HF3.out a h), HAT3.out, hb3⟩
    · have hlp : (0 : Int) < (ls.length : Int) := by omega
      have t3 : decide (0 < ls.length) = true := by simp; omega
      have hne : ls ≠ [] := fun e => hemp (by rw [e]; rfl)
      have HNE := Lib.hid hne
      clear hne hemp
      go_wp2_with fail
      refine (rleft_m _ l ⟨ls, 0⟩ (by omega) _ hr).mono ?_
      rintro e w2 ⟨rfl, q1, hw2⟩
      have hr2 : Ref w2 w.heap.size l ⟨ls, 0⟩ := by rw [hw2]; exact ref_drewN' hr q1
      have hown2 : w2.ownsRow w1.heap.size 3 1 (.slice A L.length cap) L.length (ivs (ints L)) := by rw [hw2]; exact hown
      have hb2 : Below w.heap.size w w2 := by rw [hw2]; exact below_drewN hb q1
      have hws2 : w1.heap.size ≤ w2.heap.size := by rw [hw2]; exact hws
      clear hr hown hb hws hb0 hw2
      go_wp2_with fail
      refine (rnum_m _ l ⟨ls, 0⟩ (by omega) _ hr2).mono ?_
      rintro e w3 ⟨rfl, hr3, ho3⟩
      have hown3 := own_only hown2 ho3 (by omega)
      have hb3 := below_only hb2 ho3 hb2.size (Nat.le_refl _)
      have hws3 := Nat.le_trans hws2 ho3.size
      clear hr2 hown2 hb2 ho3 hws2
      have hb30 := hb3.size
      have hlen2 := @num1_len ls
      have hde := @df_err f N ⟨ls, 0⟩ (par L.length) (decide (L = [])) (sprB false L) HNE.out
      have hdb := @df_bad f N ⟨ls, 0⟩ (par L.length) (decide (L = [])) (sprB false L) HNE.out
      have hdn := @df_next f N ⟨ls, 0⟩ (par L.length) (decide (L = [])) (sprB false L) HNE.out
      obtain ⟨c, hc⟩ : ∃ c, c = numV ⟨ls, 0⟩ := ⟨_, rfl⟩
      obtain ⟨s2, hs2⟩ : ∃ s2, s2 = numS ⟨ls, 0⟩ := ⟨_, rfl⟩
      rw [← hc, ← hs2, HOUT.out] at hdb hdn
      rw [← hs2] at hde hlen2 hr3
      rw [← hc]
      have HDE := Lib.hid hde
      have HDB := Lib.hid hdb
      have HDN := Lib.hid hdn
      have HLEN := Lib.hid hlen2
      have hr4' := hr3
      obtain ⟨k4, -, -, hra⟩ := hr4'
      have hce := ref_e hra
      clear hc hs2 hde hdb hdn hlen2 hra
      by_cases he : s2.e = 0
      · have hee : (s2.e != 0) = false := by rw [he]; rfl
        have HE0 := Lib.hid he
        clear he
        have hdif : IntKind.u64.wrap ((N : Int) - (L.sum : Int)) = (N : Int) - (L.sum : Int) := by rw [IntKind.wrap_u64]; omega
        by_cases hfar : (N : Int) - (L.sum : Int) < (c : Int)
        · have t4 : decide ((N : Int) - (L.sum : Int) < (c : Int)) = true := by simp [hfar]
          have HF := Lib.hid (show N - L.sum < c by omega)
          clear hfar
          go_wp2_with fail
          go_ret2
          have hre := HRES.out
          rw [HDB.out HE0.out (.inl HF.out)] at hre
          rw [hre]
          exact bEnd_nil hb3
        · have t4 : decide ((N : Int) - (L.sum : Int) < (c : Int)) = false := by simp; omega
          have hcN : L.sum + c ≤ N := by omega
          have HF := Lib.hid (show ¬ N - L.sum < c by omega)
          clear hfar
          by_cases hbad : c = 0 ∧ L ≠ []
          · obtain ⟨hc0, hL0⟩ := hbad
            have hz : ((c : Int) == 0) = true := by rw [hc0]; rfl
            have hll : 0 < L.length := by
              cases L with
              | nil => exact absurd rfl hL0
              | cons a b => simp
            have hbd := HDB.out HE0.out (.inr ⟨hc0, by simp [hL0]⟩)
            have HBD := Lib.hid hbd
            clear hc0 hL0 hbd
            go_wp2_with fail
            go_ret2
            have hre := HRES.out
            rw [HBD.out] at hre
            rw [hre]
            exact bEnd_nil hb3
          · have hcw : IntKind.i64.wrap (c : Int) = (c : Int) := IntWalk.i64_in _ (by omega)
            have HBAD := Lib.hid hbad
            have hLlen : L.length ≤ 90000 := by omega
            have hsp : (((c : Int) == 0) = true ∧ decide ((0 : Int) < (L.length : Int)) = false ∧ decide (0 < L.length) = false ∧ ¬ 0 < L.length) ∨ ((c : Int) == 0) = false := by
              by_cases h : c = 0
              · have h2 : L = [] := Classical.byContradiction fun h2 => hbad ⟨h, h2⟩
                refine .inl ⟨by simp [h], ?_, ?_, ?_⟩ <;> rw [h2] <;> simp
              · exact .inr (by simp; omega)
            clear hbad
            rcases hsp with ⟨hz, t6, t7, t8⟩ | hz
            all_goals
              have hLn := ints_len L
              go_wp2_with (at_builtin; refine wpList_append_own _ rfl _ _ 23 rfl w1.heap.size 3 i0 (.int .i64 0) 1 8 Try.underlying23 hi hz0 hz1 hz2 rfl (by decide) _ _ _ rfl (hown3.alloc _) ⟨w3.heap.size, 0, none⟩ 1 1 [.int .i64 (c : Int)] rfl rfl (cell_one_new _ _ _) (by simp [Value.oneCell']) (by unfold maxLen; omega) (by omega) (by simp; omega) ?_; intro v' w4 hown' hgrow _)
              have hb4 := below_ownI hb3 hb30 (ownsRow_lower hown3 (by omega)) hgrow
              have hr4 := ref_new hr3 hown3 hgrow (by omega)
              have hws4 : w1.heap.size ≤ w4.heap.size := Nat.le_trans hws3 (by have := hgrow.size; rw [World.size_alloc] at this; omega)
              obtain ⟨g', cap', rfl⟩ := ownsRow_succ hown'
              go_roundg s2.l.length
              case measure => have := HLEN.out HE0.out; omega
              case rel =>
                have hl2 := HLEN.out HE0.out
                have hE0 := HE0.out
                have hss : s2 = ⟨s2.l, 0⟩ := by cases s2; simp only at hE0; subst hE0; rfl
                have hlen : (L ++ [c]).length = L.length + 1 := by simp
                have hsum : (L ++ [c]).sum = L.sum + c := by simp
                have R1 : Value.slice (some ⟨g', 0, none⟩) (L.length + 1) cap' = Value.slice (some ⟨g', 0, none⟩) (L ++ [c]).length cap' := by rw [hlen]
                have R2 : Value.int IntKind.i64 ((N : Int) - (L.sum : Int) - (c : Int)) = Value.int IntKind.i64 ((N : Int) - ((L ++ [c]).sum : Int)) := by
                  rw [hsum, show (N : Int) - (L.sum : Int) - (c : Int) = (N : Int) - ((L.sum + c : Nat) : Int) by omega]
                have R3 : (L ++ [c]).length + s2.l.length ≤ l.length := by rw [hlen]; omega
                have R4 : s2.l.length < f := by omega
                have R5 : res = dcF f ⟨s2.l, 0⟩ (par (L ++ [c]).length) (decide (L ++ [c] = [])) (sprB false (L ++ [c])) N := by
                  rw [par_app, hlen, par_succ, show decide (L ++ [c] = []) = false by simp, ← hss, ← HDN.out HE0.out (by
                    rintro (h | ⟨h1, h2⟩)
                    · exact HF.out h
                    · exact HBAD.out ⟨h1, by simpa using h2⟩)]
                  exact HRES.out
                have R6 : (L ++ [c]).sum ≤ N := by rw [hsum]; exact hcN
                have R7 : posN (L ++ [c]).tail := by
                  have hp := HPOS.out
                  have hbd := HBAD.out
                  intro x hx
                  cases L with
                  | nil => simp at hx
                  | cons a b =>
                    rw [List.cons_append, List.tail_cons, List.mem_append] at hx
                    rcases hx with hx | hx
                    · exact hp x (by simpa using hx)
                    · simp at hx
                      subst hx
                      have : ¬ x = 0 := fun e => hbd ⟨e, by simp⟩
                      omega
                have R8 : Ref w4 w.heap.size l ⟨s2.l, 0⟩ := by rw [← hss]; exact hr4
                have R9 : w4.ownsRow w1.heap.size 3 1 (.slice (some ⟨g', 0, none⟩) (L.length + 1) cap') (L ++ [c]).length (ivs (ints (L ++ [c]))) := by
                  rw [hlen, ints_snoc]; exact hown'
                exact ⟨s2.l, L ++ [c], f, Nat.le_refl _, ⟨_, _, R1⟩, R2, R3, R4, R5, R6, R7, R8, R9, hb4, hws4⟩
      · have hee : (s2.e != 0) = true := by simpa using he
        have HE0 := Lib.hid he
        clear he
        go_wp2_with fail
        go_quiet (fail)
        go_wp2_with fail
        go_ret2
        have hre := HRES.out
        rw [HDE.out HE0.out] at hre
        rw [hre]
        exact bEnd_nil (below_drewN hb3 _)
end Go.Proofs.Ytiehmeheilfocaa
