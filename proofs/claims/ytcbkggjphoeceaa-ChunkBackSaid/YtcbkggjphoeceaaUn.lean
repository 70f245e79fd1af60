/-
  The walk of ChunkBack.
-/
import Derived.Test.YtcbkggjphoeceaaUo
namespace Go.Proofs.Ytcbkggjphoeceaa
open Go.RowKit Go.IntWalk
open Pk Cr Ck
set_option maxRecDepth 100000
attribute [local go_sem] Oper.semAt_some

theorem made2 (B : Nat) (W : World) (h : B ≤ W.heap.size) : (W.alloc (.cells #[] 32)).ownsRow B 32 2 (.slice (some ⟨W.heap.size, 0, none⟩) 0 0) 0 [] :=
  World.ownsRow_made (base := B) (e := 32) (size := 2) W #[] 0 h (by unfold maxLen; omega) rfl
theorem own_head2 {w : World} {B : Nat} {e : TypeId} {v : Value} {n m : Nat} {xs ys : List Value} (h : w.ownsRow B e 2 v n xs) (hn : n = m) (hx : xs = ys) : w.ownsRow B e 2 v m ys := by subst hn; subst hx; exact h
theorem below_own2 {B : Nat} {w w1 w2 : World} {v : Value} {e : TypeId} {size n : Nat} {xs : List Value} (hb : Below B w w1) (hB : w.heap.size ≤ w1.heap.size) (hown : w1.ownsRow B e size v n xs) (hg : w1.grownBy w2 v.ownBlock) (hBw : B ≤ w.heap.size := by exact Nat.le_refl _) : Below B w w2 :=
  hb.grown hg (Nat.le_trans hBw hB) (fun k hk => (hown.lt k hk).1)
theorem cvs_one (l : List Chk) : ∀ u ∈ cvs l, u.oneCell' = true := by
  intro u hu
  simp only [cvs, List.mem_flatMap] at hu
  obtain ⟨x, _, hx⟩ := hu
  simp only [List.mem_cons, List.not_mem_nil, or_false] at hx
  rcases hx with rfl | rfl <;> rfl
theorem cvs_take (l : List Chk) : ∀ j, cvs (l.take j) = (cvs l).take (j * 2) := by
  induction l with
  | nil => intro j; simp [cvs]
  | cons c l ih =>
    intro j
    cases j with
    | zero => simp [cvs]
    | succ j =>
      rw [List.take_succ_cons, show cvs (c :: l.take j) = .int .i64 c.1 :: .string (ba c.2) :: cvs (l.take j) from rfl, ih, show cvs (c :: l) = .int .i64 c.1 :: .string (ba c.2) :: cvs l from rfl, show (j + 1) * 2 = j * 2 + 1 + 1 by omega, List.take_succ_cons, List.take_succ_cons]
theorem cvs_drop (l : List Chk) : ∀ j, cvs (l.drop j) = (cvs l).drop (j * 2) := by
  induction l with
  | nil => intro j; simp [cvs]
  | cons c l ih =>
    intro j
    cases j with
    | zero => simp [cvs]
    | succ j =>
      rw [List.drop_succ_cons, ih, show cvs (c :: l) = .int .i64 c.1 :: .string (ba c.2) :: cvs l from rfl, show (j + 1) * 2 = j * 2 + 1 + 1 by omega, List.drop_succ_cons, List.drop_succ_cons]
theorem at_news {w : World} {B b o : Nat} {xs : List Value} (h : At w B (some ⟨b, o, none⟩) xs) : ∀ j u, xs[j]? = some u → w.cell? ((⟨b, o, none⟩ : Addr).add j) = some u := by
  intro j u hu
  obtain ⟨b', o', e, _, hc⟩ := h j u hu
  cases e
  rw [Go.WideShapes.add_plain]
  exact hc
theorem news_take {w : World} {B b o : Nat} {l : List Chk} (h : At w B (some ⟨b, o, none⟩) (cvs l)) (j : Nat) : ∀ i u, (cvs (l.take j))[i]? = some u → w.cell? ((⟨b, o, none⟩ : Addr).add i) = some u := by
  rw [cvs_take]; exact at_news (h.take _)
theorem news_drop {w : World} {B b o : Nat} {l : List Chk} (h : At w B (some ⟨b, o, none⟩) (cvs l)) (j : Nat) : ∀ i u, (cvs (l.drop j))[i]? = some u → w.cell? ((⟨b, o + j * 2, none⟩ : Addr).add i) = some u := by
  rw [cvs_drop]; exact at_news (h.drop _)
theorem split_s (s : List UInt8) (hl : s.length ≤ 100000) (w : World) :
    Calls Try.prog 16 #[.string (ba s)] w fun e w' => ∃ A cap, e = .returned (.tuple #[.int .i64 (splitV s), .slice A (splitP s).1.length cap, .int .i64 (splitP s).2]) ∧ At w' w'.heap.size A (cvs (splitP s).1) ∧ Below w.heap.size w w' := split_c s hl w

namespace chunkBack
set_option maxHeartbeats 16000000 in
theorem walk (v : Int) (A : Option Addr) (cap : Nat) (l : List Chk) (s : List UInt8) (_hv : (Lit.int .i64 v).wf = true) (_hn : A = none → cap = 0) (hcap : l.length ≤ cap) (hl : l.length ≤ maxLen) (hz : s.length ≤ maxLen) (w : World) (hc : At w w.heap.size A (cvs l)) :
    Calls Try.prog 5 #[.int .i64 v, .slice A l.length cap, .string (ba s)] w fun e w' => e = .returned (.bool true) ∧ Below w.heap.size w w' := by
  have hss := ba_size s
  have hz2 : s.length ≤ 9223372036854775807 := by unfold maxLen at hz; omega
  clear hz
  cases hf : few l
  · go_enter Try.func5, Try.ntmps5
    go_wp2_with fail
    refine (few_k false hf hl hc).mono ?_
    rintro e w1 ⟨rfl, rfl⟩
    go_wp2_with fail
    refine (live11_c _).mono ?_
    rintro e w1 ⟨rfl, hb1⟩
    go_wp2_with fail
    go_ret
    exact ⟨rfl, hb1⟩
  · by_cases h2 : 2000 < s.length
    · go_enter Try.func5, Try.ntmps5
      go_wp2_with fail
      refine (few_k true hf hl hc).mono ?_
      rintro e w1 ⟨rfl, rfl⟩
      go_wp2_with fail
      refine (live11_c _).mono ?_
      rintro e w1 ⟨rfl, hb1⟩
      go_wp2_with fail
      go_ret
      exact ⟨rfl, hb1⟩
    · obtain ⟨hl20, hlb⟩ := few_in hf
      obtain ⟨i0, hi, hz0, hz1, hz2'⟩ := info_parts Try.info32
      have hz2 := hz2'
      clear hz2'
      have hfl := few_flat hlb
      have hF : (flat l).length ≤ 100000 := by omega
      have HLB := Lib.hid hlb
      have HFW := Lib.hid hf
      clear hlb hf
      by_cases he : joinE v l = 0
      · obtain ⟨q1, q2, q3, q4, _, _⟩ := join_split he
        have hjl := join_size he
        obtain ⟨S, hS⟩ : ∃ S, ba (joinT v l) = S := ⟨_, rfl⟩
        have hS0 : (!(S.toList == [])) = true := by
          rw [← hS, q3, ByteArray.toList_eq, ba_list]; rfl
        have HS := Lib.hid hS
        have HE := Lib.hid he
        have Q1 := Lib.hid q1
        have Q2 := Lib.hid q2
        have HJL := Lib.hid hjl
        clear he q1 q2 q3 q4 hjl hS
        go_enter Try.func5, Try.ntmps5
        go_wp2_with fail
        refine (few_k true HFW.out hl hc).mono ?_
        rintro e w1 ⟨rfl, rfl⟩
        go_wp2_with fail
        refine (join_kk S 0 HS.out HE.out hF hl hc).mono ?_
        rintro e w1 ⟨rfl, hb1⟩
        have C1 := hc.keep hb1
        go_wp2_with fail
        refine (split_k (joinT v l) l v 0 HS.out.symm Q1.out Q2.out (by rw [HJL.out]; omega) _).mono ?_
        rintro e w2 ⟨AM, cM, rfl, hM, hm⟩
        have hb2 := hb1.trans (hm.mono hb1.size)
        have C2 := C1.keep hm
        clear hm hb1 C1
        go_wp2_with fail
        refine (same11_k l l true rfl rfl (decide_eq_true rfl) (by omega) (by omega) hM C2).mono ?_
        rintro e w3 ⟨rfl, hm⟩
        have hb3 := hb2.trans (hm.mono hb2.size)
        have HC := Lib.hid hc
        clear hm hb2 hM C2 hc
        go_wp2_with fail
        go_loopw [12] (fun i wr => ∃ j : Nat, i = .int .i64 (j : Int) ∧ j ≤ l.length ∧ Below w.heap.size w wr) (fun i _ => l.length - (intOf i).toNat)
        case atStart => exact ⟨0, rfl, Nat.zero_le _, hb3⟩
        case round =>
          clear hb3
          obtain ⟨j, rfl, hj, hb⟩ := hrel
          have hbs := hb.size
          by_cases hlt : j < l.length
          · obtain ⟨c, hcj⟩ := some_at hlt
            have hcb := HLB.out c (mem_at hcj)
            obtain ⟨ck, cb⟩ := c
            obtain ⟨b0, o0, rfl, hb0, -, -⟩ := chunk_cells HC.out hcj
            simp only at hcb
            obtain ⟨T, hT⟩ : ∃ T, one (ck, cb) = T := ⟨_, rfl⟩
            have HT := Lib.hid hT
            have HJ := Lib.hid hcj
            have hTl : T.length ≤ 300 := by
              rw [← hT, one_len]
              have := put_len10 (n := cb.length) (by omega)
              simp only
              omega
            have hji : (0 : Int) ≤ (j : Int) := by omega
            have hjl : (j : Int) < (l.length : Int) := by omega
            have hjc : (j : Int) ≤ (cap : Int) := by omega
            have hjw : IntKind.i64.wrap ((j : Int) + 1) = (j : Int) + 1 := IntWalk.i64_in _ (by omega)
            have hj1 : (j : Int) + 1 ≤ (l.length : Int) := by omega
            have hj2 : (0 : Int) ≤ (j : Int) + 1 := by omega
            have hj3 : (j : Int) ≤ (j : Int) + 1 := by omega
            have hb0' : Below w.heap.size w (wr.alloc (.cells #[] 32)).drew := (hb.alloc hbs _).drew
            clear hcj hT hb0
            by_cases hcj : cap = j + 1
            · subst hcj
              go_wp2_with fail
              go_region_law (first
                | (refine step_append_own rfl _ _ 22 rfl w.heap.size 32 i0 (.agg #[.int .i64 0, .string ByteArray.empty]) 2 24 Try.underlying22 hi hz0 hz1 hz2 rfl (by decide) (.slice (some ⟨wr.heap.size, 0, none⟩) 0 0) 0 [] rfl (own_drew (made2 w.heap.size wr hbs)) ⟨b0, o0, none⟩ j _ (cvs (l.take j)) rfl (by rw [cvs_len, List.length_take]; omega) (news_take (HC.out.below hb0') j) (cvs_one _) (by unfold maxLen; omega) (by omega) (by simp; omega) ?_; intro v1 w1 hown1 hgrow1; have hb1 := below_own2 hb0' hb0'.size (own_drew (made2 w.heap.size wr hbs)) hgrow1)
                | (refine step_append_own rfl _ _ 22 rfl w.heap.size 32 i0 (.agg #[.int .i64 0, .string ByteArray.empty]) 2 24 Try.underlying22 hi hz0 hz1 hz2 rfl (by decide) _ _ _ rfl hown1 _ _ _ [] rfl (by simp) (fun j hj => by simp) (fun u hu => by simp at hu) (by unfold maxLen; omega) (by omega) hb1.size ?_; intro v2 w2 hown2 hgrow2; have hb2 := below_own2 hb1 hb1.size hown1 hgrow2))
              all_goals
                have hle : (l.take j ++ l.drop (j + 1)).length = l.length - 1 := by rw [List.length_append, List.length_take, List.length_drop]; omega
                have hown := own_head2 (m := l.length - 1) (ys := cvs (l.take j ++ l.drop (j + 1))) hown2 (by omega) (by rw [cvs_append]; first | done | (rw [List.drop_of_length_le (by omega)]; rfl))
                obtain ⟨A3, c3, rfl, hat3, -, -⟩ := own_at hown
                obtain ⟨l', hl'⟩ : ∃ l', l.take j ++ l.drop (j + 1) = l' := ⟨_, rfl⟩
                rw [hl'] at hat3 hle
                have hl1 : l'.length ≤ 20 := by omega
                obtain ⟨j1, j2, j3⟩ := join_less HE.out HJ.out
                rw [hl'] at j1 j2 j3
                have hfl' : (flat l').length ≤ 4300 := by
                  have e1 := join_size j1
                  have e2 := join_size HE.out
                  omega
                have hjs := join_size j1
                obtain ⟨S', hS'⟩ : ∃ S', ba (joinT v l') = S' := ⟨_, rfl⟩
                have hsz' : S'.size = (joinT v l').length := by rw [← hS', ba_size]
                have hsz0 : S.size = (joinT v l).length := by rw [← HS.out, ba_size]
                obtain ⟨n1, hn1⟩ : ∃ n1, (joinT v l').length = n1 := ⟨_, rfl⟩
                rw [hn1] at hsz' j3 hjs
                rw [HT.out] at j3
                have hTs := ba_size T
                rw [j3] at hsz0
                have hsv := (join_split j1).2.1
                have J1 := Lib.hid j1
                have J2 := Lib.hid j2
                have HN1 := Lib.hid hn1
                have HSV := Lib.hid hsv
                have HSP := Lib.hid hS'
                have HA3 := Lib.hid hat3
                have HB2 := Lib.hid hb2
                have hn3 : n1 + T.length ≤ 8600 := by omega
                rw [← hle]
                clear hown hown1 hown2 hgrow1 hgrow2 hat3 hb1 hb2 hb0' hl' j1 j2 j3 hS' hn1 hsv hb hle
                go_wp2_with fail
                refine (join_kk S' 0 HSP.out J1.out (by omega) (by unfold maxLen; omega) (HA3.out)).mono ?_
                rintro e w4 ⟨rfl, hm⟩
                have hb4 := HB2.out.trans (hm.mono HB2.out.size)
                have a4 := HA3.out.keep hm
                clear hm
                go_wp2_with fail
                refine (split_k (joinT v l') l' v 0 HSP.out.symm J2.out HSV.out (by rw [HN1.out]; omega) _).mono ?_
                rintro e w5 ⟨A5, k5, rfl, a5, hm⟩
                have hb5 := hb4.trans (hm.mono hb4.size)
                have a4 := a4.keep hm
                clear hm hb4
                go_wp2_with fail
                refine (same11_k l' l' true rfl rfl (decide_eq_true rfl) (by omega) (by omega) a5 a4).mono ?_
                rintro e w6 ⟨rfl, hm⟩
                have hb6 := hb5.trans (hm.mono hb5.size)
                clear hm hb5 a4 a5
                obtain ⟨b6, o6, e6, _, c0, c1⟩ := chunk_cells (HC.out.below hb6) HJ.out
                cases e6
                simp only at c0 c1
                go_wp2_with fail
                refine (one_k HT.out (by omega) _).mono ?_
                rintro e w7 ⟨rfl, hm⟩
                have hb7 := hb6.trans (hm.mono hb6.size)
                clear hm hb6 c0 c1
                go_wp2_with fail
                go_roundw
                case rel => exact ⟨j + 1, by go_num, by omega, hb7⟩
                case measure => simp only [intOf]; omega
            · have hc0 : ¬ cap = j + 1 := hcj
              clear hcj
              go_wp2_with fail
              go_region_law (first
                | (refine step_append_own rfl _ _ 22 rfl w.heap.size 32 i0 (.agg #[.int .i64 0, .string ByteArray.empty]) 2 24 Try.underlying22 hi hz0 hz1 hz2 rfl (by decide) (.slice (some ⟨wr.heap.size, 0, none⟩) 0 0) 0 [] rfl (own_drew (made2 w.heap.size wr hbs)) ⟨b0, o0, none⟩ j _ (cvs (l.take j)) rfl (by rw [cvs_len, List.length_take]; omega) (news_take (HC.out.below hb0') j) (cvs_one _) (by unfold maxLen; omega) (by omega) (by simp; omega) ?_; intro v1 w1 hown1 hgrow1; have hb1 := below_own2 hb0' hb0'.size (own_drew (made2 w.heap.size wr hbs)) hgrow1)
                | (refine step_append_own rfl _ _ 22 rfl w.heap.size 32 i0 (.agg #[.int .i64 0, .string ByteArray.empty]) 2 24 Try.underlying22 hi hz0 hz1 hz2 rfl (by decide) _ _ _ rfl hown1 ⟨b0, o0 + (j + 1) * 2, none⟩ _ _ (cvs (l.drop (j + 1))) rfl (by rw [cvs_len, List.length_drop]) (news_drop (HC.out.below hb1) (j + 1)) (cvs_one _) (by unfold maxLen; omega) (by omega) hb1.size ?_; intro v2 w2 hown2 hgrow2; have hb2 := below_own2 hb1 hb1.size hown1 hgrow2))
              all_goals
                have hle : (l.take j ++ l.drop (j + 1)).length = l.length - 1 := by rw [List.length_append, List.length_take, List.length_drop]; omega
                have hown := own_head2 (m := l.length - 1) (ys := cvs (l.take j ++ l.drop (j + 1))) hown2 (by omega) (by rw [cvs_append]; first | done | (rfl))
                obtain ⟨A3, c3, rfl, hat3, -, -⟩ := own_at hown
                obtain ⟨l', hl'⟩ : ∃ l', l.take j ++ l.drop (j + 1) = l' := ⟨_, rfl⟩
                rw [hl'] at hat3 hle
                have hl1 : l'.length ≤ 20 := by omega
                obtain ⟨j1, j2, j3⟩ := join_less HE.out HJ.out
                rw [hl'] at j1 j2 j3
                have hfl' : (flat l').length ≤ 4300 := by
                  have e1 := join_size j1
                  have e2 := join_size HE.out
                  omega
                have hjs := join_size j1
                obtain ⟨S', hS'⟩ : ∃ S', ba (joinT v l') = S' := ⟨_, rfl⟩
                have hsz' : S'.size = (joinT v l').length := by rw [← hS', ba_size]
                have hsz0 : S.size = (joinT v l).length := by rw [← HS.out, ba_size]
                obtain ⟨n1, hn1⟩ : ∃ n1, (joinT v l').length = n1 := ⟨_, rfl⟩
                rw [hn1] at hsz' j3 hjs
                rw [HT.out] at j3
                have hTs := ba_size T
                rw [j3] at hsz0
                have hsv := (join_split j1).2.1
                have J1 := Lib.hid j1
                have J2 := Lib.hid j2
                have HN1 := Lib.hid hn1
                have HSV := Lib.hid hsv
                have HSP := Lib.hid hS'
                have HA3 := Lib.hid hat3
                have HB2 := Lib.hid hb2
                have hn3 : n1 + T.length ≤ 8600 := by omega
                rw [← hle]
                clear hown hown1 hown2 hgrow1 hgrow2 hat3 hb1 hb2 hb0' hl' j1 j2 j3 hS' hn1 hsv hb hle
                go_wp2_with fail
                refine (join_kk S' 0 HSP.out J1.out (by omega) (by unfold maxLen; omega) (HA3.out)).mono ?_
                rintro e w4 ⟨rfl, hm⟩
                have hb4 := HB2.out.trans (hm.mono HB2.out.size)
                have a4 := HA3.out.keep hm
                clear hm
                go_wp2_with fail
                refine (split_k (joinT v l') l' v 0 HSP.out.symm J2.out HSV.out (by rw [HN1.out]; omega) _).mono ?_
                rintro e w5 ⟨A5, k5, rfl, a5, hm⟩
                have hb5 := hb4.trans (hm.mono hb4.size)
                have a4 := a4.keep hm
                clear hm hb4
                go_wp2_with fail
                refine (same11_k l' l' true rfl rfl (decide_eq_true rfl) (by omega) (by omega) a5 a4).mono ?_
                rintro e w6 ⟨rfl, hm⟩
                have hb6 := hb5.trans (hm.mono hb5.size)
                clear hm hb5 a4 a5
                obtain ⟨b6, o6, e6, _, c0, c1⟩ := chunk_cells (HC.out.below hb6) HJ.out
                cases e6
                simp only at c0 c1
                go_wp2_with fail
                refine (one_k HT.out (by omega) _).mono ?_
                rintro e w7 ⟨rfl, hm⟩
                have hb7 := hb6.trans (hm.mono hb6.size)
                clear hm hb6 c0 c1
                go_wp2_with fail
                go_roundw
                case rel => exact ⟨j + 1, by go_num, by omega, hb7⟩
                case measure => simp only [intOf]; omega
          · obtain rfl : j = l.length := by omega
            have hbT := hb
            go_wp2_with fail
            refine (split_s s (by omega) _).mono ?_
            rintro e w20 ⟨A20, k20, rfl, a20, hm⟩
            have hb20 := hbT.trans (hm.mono hbT.size)
            clear hm hbT
            by_cases hd : (splitP s).2 = 0
            · obtain ⟨q1, q2⟩ := split_join hd
              have hfs : (flat (splitP s).1).length ≤ 2000 := by
                have := join_size q1
                rw [q2] at this
                omega
              have hcnt := flat_count (splitP s).1
              have hqt : ba (joinT (splitV s) (splitP s).1) = ba s := by rw [q2]
              rw [hd]
              obtain ⟨m, hm⟩ : ∃ m, (splitP s).1 = m := ⟨_, rfl⟩
              obtain ⟨x, hx⟩ : ∃ x, splitV s = x := ⟨_, rfl⟩
              rw [hm, hx] at q1 hqt
              rw [hm] at a20 hfs hcnt ⊢
              rw [hx]
              have Q1 := Lib.hid q1
              have QT := Lib.hid hqt
              clear q1 q2 hqt hm hx hd
              go_wp2_with fail
              refine (join_kk (ba s) 0 QT.out Q1.out (by omega) (by unfold maxLen; omega) a20).mono ?_
              rintro e w21 ⟨rfl, hm⟩
              have hb21 := hb20.trans (hm.mono hb20.size)
              clear hm hb20 a20
              go_wp2_with fail
              refine (live11_c _).mono ?_
              rintro e w22 ⟨rfl, hm⟩
              have hb22 := hb21.trans (hm.mono hb21.size)
              go_wp2_with fail
              go_ret
              exact ⟨rfl, hb22⟩
            · obtain ⟨q1, q2⟩ := split_err hd
              rw [q1, q2]
              obtain ⟨x, hx⟩ : ∃ x, (splitP s).2 = x := ⟨_, rfl⟩
              rw [hx] at hd ⊢
              have hxn : (x != 0) = true := by simpa using hd
              clear q1 q2 hx hd a20
              go_wp2_with fail
              refine (live11_c _).mono ?_
              rintro e w22 ⟨rfl, hm⟩
              have hb22 := hb20.trans (hm.mono hb20.size)
              go_wp2_with fail
              go_ret
              exact ⟨rfl, hb22⟩
      · obtain ⟨x, hx⟩ : ∃ x, joinE v l = x := ⟨_, rfl⟩
        have hxn : (x == 0) = false := by rw [← hx]; simpa using he
        have hjt : ba (joinT v l) = ⟨#[]⟩ := by rw [join_err he]; rfl
        have HX := Lib.hid hx
        have HJ := Lib.hid hjt
        clear he hx hjt
        go_enter Try.func5, Try.ntmps5
        go_wp2_with fail
        refine (few_k true HFW.out hl hc).mono ?_
        rintro e w1 ⟨rfl, rfl⟩
        go_wp2_with fail
        refine (join_kk ⟨#[]⟩ x HJ.out HX.out hF hl hc).mono ?_
        rintro e w1 ⟨rfl, hbT⟩
        go_wp2_with fail
        refine (split_s s (by omega) _).mono ?_
        rintro e w20 ⟨A20, k20, rfl, a20, hm⟩
        have hb20 := hbT.trans (hm.mono hbT.size)
        clear hm hbT
        by_cases hd : (splitP s).2 = 0
        · obtain ⟨q1, q2⟩ := split_join hd
          have hfs : (flat (splitP s).1).length ≤ 2000 := by
            have := join_size q1
            rw [q2] at this
            omega
          have hcnt := flat_count (splitP s).1
          have hqt : ba (joinT (splitV s) (splitP s).1) = ba s := by rw [q2]
          rw [hd]
          obtain ⟨m, hm⟩ : ∃ m, (splitP s).1 = m := ⟨_, rfl⟩
          obtain ⟨x, hx⟩ : ∃ x, splitV s = x := ⟨_, rfl⟩
          rw [hm, hx] at q1 hqt
          rw [hm] at a20 hfs hcnt ⊢
          rw [hx]
          have Q1 := Lib.hid q1
          have QT := Lib.hid hqt
          clear q1 q2 hqt hm hx hd
          go_wp2_with fail
          refine (join_kk (ba s) 0 QT.out Q1.out (by omega) (by unfold maxLen; omega) a20).mono ?_
          rintro e w21 ⟨rfl, hm⟩
          have hb21 := hb20.trans (hm.mono hb20.size)
          clear hm hb20 a20
          go_wp2_with fail
          refine (live11_c _).mono ?_
          rintro e w22 ⟨rfl, hm⟩
          have hb22 := hb21.trans (hm.mono hb21.size)
          go_wp2_with fail
          go_ret
          exact ⟨rfl, hb22⟩
        · obtain ⟨q1, q2⟩ := split_err hd
          rw [q1, q2]
          obtain ⟨x, hx⟩ : ∃ x, (splitP s).2 = x := ⟨_, rfl⟩
          rw [hx] at hd ⊢
          have hxn : (x != 0) = true := by simpa using hd
          clear q1 q2 hx hd a20
          go_wp2_with fail
          refine (live11_c _).mono ?_
          rintro e w22 ⟨rfl, hm⟩
          have hb22 := hb20.trans (hm.mono hb20.size)
          go_wp2_with fail
          go_ret
          exact ⟨rfl, hb22⟩
end chunkBack
end Go.Proofs.Ytcbkggjphoeceaa
