/-
  A file split into its chunks: the document's.
-/
import Derived.Test.YtcbkggjphoeceaaUi
namespace Go.Proofs.Ytcbkggjphoeceaa
open Go.RowKit Go.IntWalk
open Pk Cr Ck
set_option maxRecDepth 100000
attribute [local go_sem] Oper.semAt_some

theorem rversion_k {s : List UInt8} (e v : Int) (he : verE s = e) (hv : verV s = v) (hs : s.length ≤ 9223372036854775807) (w : World) :
    Calls Try.prog 19 #[.string (ba s)] w fun e' w' => e' = .returned (.tuple #[.int .i64 v, .int .i64 e]) ∧ w = w' := by
  subst he hv
  exact rversion_c s hs w
theorem ref_drewE {w w' : World} {g : Nat} {s : List UInt8} {st : St} (h : Ref w g s st) (hq : ∃ n, w' = w.drewN n) : Ref w' g s st ∧ w.grownBy w' (some g) := by
  obtain ⟨n, rfl⟩ := hq
  obtain ⟨k, hk, hd, hr⟩ := h
  exact ⟨⟨k, hk, hd, ref_drewN hr n⟩, only_drewN (World.grownBy.refl _ _) n⟩
theorem rtake_k {g : Nat} {n : Int} {s : List UInt8} {st : St} (V : List UInt8) (s' : St) (hV : takeV n st = V) (hs : takeS n st = s') (hl : s.length ≤ 140737488351232) {w : World} (h : Ref w g s st) :
    Calls Try.prog 33 #[.pointer (some ⟨g, 0, none⟩), .int .i64 n] w fun e w' => e = .returned (.string (ba V)) ∧ Ref w' g s s' ∧ w.grownBy w' (some g) := by
  subst hV hs
  exact rtake_m g n s st hl w h
theorem rnum_k {g : Nat} {s : List UInt8} {st : St} (n : Nat) (s' : St) (hV : numV st = n) (hs : numS st = s') (hl : s.length ≤ 140737488351232) {w : World} (h : Ref w g s st) :
    Calls Try.prog 34 #[.pointer (some ⟨g, 0, none⟩)] w fun e w' => e = .returned (.int .u64 (n : Int)) ∧ Ref w' g s s' ∧ w.grownBy w' (some g) := by
  subst hV hs
  exact rnum_m g s st hl w h
/-- what stands between a chunk's begin and its sum -/
theorem span {s : List UInt8} {k0 k1 : Nat} {k : UInt8} {r rest : List UInt8} (h0 : s.drop k0 = k :: r) (h0l : k0 ≤ s.length) (h1 : s.drop k1 = rest) (h1l : k1 ≤ s.length) (he : (numS ⟨r, 0⟩).e = 0) (hfull : ¬ (numS ⟨r, 0⟩).l.length < numV ⟨r, 0⟩ + 4)
    (hrest : rest = (numS ⟨r, 0⟩).l.drop (numV ⟨r, 0⟩ + 4)) : k0 ≤ k1 - 4 ∧ 4 ≤ k1 ∧ k1 - 4 ≤ s.length ∧ (ba s).extract k0 (k1 - 4) = ba (front ((k.toNat : Int), (numS ⟨r, 0⟩).l.take (numV ⟨r, 0⟩)) ++ (numS ⟨r, 0⟩).l.take (numV ⟨r, 0⟩)) := by
  obtain ⟨n, hn⟩ : ∃ n, n = numV ⟨r, 0⟩ := ⟨_, rfl⟩
  obtain ⟨l, hl⟩ : ∃ l, l = (numS ⟨r, 0⟩).l := ⟨_, rfl⟩
  have hp := put_num he
  rw [← hn, ← hl] at hfull hrest hp ⊢
  have hkl := congrArg List.length h0
  rw [List.length_drop, List.length_cons, ← hp, List.length_append] at hkl
  have hrl := congrArg List.length (h1.trans hrest)
  rw [List.length_drop, List.length_drop] at hrl
  have hfl : (front ((k.toNat : Int), l.take n) ++ l.take n).length = 1 + (put n).length + n := by
    rw [List.length_append, front_len, List.length_take, Nat.min_eq_left (by omega)]
  have hk1 : k1 - 4 = k0 + (1 + (put n).length + n) := by omega
  refine ⟨by omega, by omega, by omega, ?_⟩
  have hlt : (l.take n).length = n := by rw [List.length_take]; omega
  have hcl : (k :: put n).length = 1 + (put n).length := by rw [List.length_cons]; omega
  rw [extract_mid, List.drop_take, h0, hk1, Nat.add_sub_cancel_left, ← hp, show k :: (put n ++ l) = (k :: put n) ++ l from rfl, List.take_append, List.take_of_length_le (by omega), hcl, Nat.add_sub_cancel_left]
  unfold front
  simp only [hlt, byt8_of]

theorem unalloc {w w' : World} {o : Obj} {r : Option Nat} (h : (w.alloc o).grownBy w' r) : w.grownBy w' r :=
  ⟨h.os, h.tape, h.output, Nat.le_trans (by simp) h.size, fun i hi hne => (h.block i (by simp; omega) hne).trans (heap_alloc_old w o hi)⟩
set_option maxHeartbeats 16000000 in
theorem rsplit_c (s : List UInt8) (hl : s.length ≤ 100000) (w : World) :
    Calls Try.prog 17 #[.string (ba s)] w (SplitEnd s w) := by
  have hz := ba_size s
  obtain ⟨i0, hi, hz0, hz1, hz2⟩ := info_parts Try.info32
  obtain ⟨v, hv⟩ : ∃ v, verV s = v := ⟨_, rfl⟩
  have hver : verE s = 7 ∨ verE s = 2 ∨ verE s = 0 := by
    unfold verE
    split
    · exact .inl rfl
    · split
      · exact .inr (.inl rfl)
      · exact .inr (.inr rfl)
  have HV := Lib.hid hv
  have hl2 : s.length ≤ 140737488351232 := by omega
  clear hv
  by_cases h0 : verE s = 0
  · have h5 : 5 ≤ s.length := by
      have := (ver_back h0).1
      have := congrArg List.length this
      simp only [List.length_append, List.length_cons, magic, List.length_nil] at this
      omega
    obtain ⟨R, hR⟩ : ∃ R, R = splitP s := ⟨_, rfl⟩
    have hspl := split_in h0
    rw [← hR] at hspl
    have H0 := Lib.hid h0
    have HR := Lib.hid hR
    have HS := Lib.hid hspl
    have hr1 : Ref (w.alloc (.cells #[.string (ba s), .int .i64 5, .int .i64 0] 65)) w.heap.size s ⟨s.drop 5, 0⟩ := ⟨5, h5, rfl, is_new w 65 [.string (ba s), .int .i64 5, .int .i64 0]⟩
    have hb1 : Below w.heap.size w (w.alloc (.cells #[.string (ba s), .int .i64 5, .int .i64 0] 65)) := (Below.refl _ _).alloc (Nat.le_refl _) _
    clear hver h0 hR hspl
    go_enter Try.func17, Try.ntmps17
    go_wp2_with fail
    refine (rversion_k 0 v H0.out HV.out (by omega) _).mono ?_
    rintro e w1 ⟨rfl, rfl⟩
    go_wp2_with fail
    go_loopg [8, 9] (s.length) (fun g a sl wr => ∃ (x : Int) (f : Nat) (A : Option Addr) (cap : Nat) (out : List Chk) (rest : List UInt8), a = .int .i64 x ∧ sl = .slice A out.length cap ∧ rest.length ≤ g ∧ cuts f x out rest = R ∧ rest.length ≤ f ∧ out.length + rest.length ≤ s.length ∧ Ref wr w.heap.size s ⟨rest, 0⟩ ∧ wr.ownsRow (w.heap.size + 1) 32 2 (.slice A out.length cap) out.length (cvs out) ∧ Below w.heap.size w wr ∧ w.heap.size + 1 ≤ wr.heap.size)
    case atStart => exact ⟨0, s.length, none, 0, [], s.drop 5, rfl, rfl, by rw [List.length_drop]; omega, HS.out.symm, by rw [List.length_drop]; omega, by rw [List.length_drop]; simp, hr1, World.ownsRow_nil _ _ _ _, hb1, by simp⟩
    case round =>
      clear hr1 hb1
      obtain ⟨x, f, A, cap, out, rest, rfl, rfl, hg, hsp, hrf, hor, hr, hown, hb, hsz⟩ := hrel
      have HSP := Lib.hid hsp
      clear hsp
      go_wp2_with fail
      refine (rleft_m _ _ _ hl2 _ hr).mono ?_
      rintro e w2 ⟨rfl, hdr⟩
      obtain ⟨hr2, hg2⟩ := ref_drewE hr hdr
      clear hdr hr
      cases rest with
      | nil =>
        have hout : splitP s = (out, 0) := by rw [← HR.out, ← HSP.out, cuts_nil]
        obtain ⟨A', cap', hv', hat, -, -⟩ := own_at (hown.kept hg2 (Or.inr fun e => by have := (hown.lt _ e).1; omega))
        cases hv'
        have hb2 := below_only hb hg2 hb.size (Nat.le_refl _)
        have HO := Lib.hid hout
        have HAT := Lib.hid hat
        clear hout hat hown hr2
        rw [← HV.out]
        go_wp2_with fail
        go_ret3
        exact splitEnd_ok HO.out rfl HAT.out hb2
      | cons k r =>
        obtain ⟨q1, q2, q3⟩ := cuts_step HSP.out hrf
        have hlen0 : (0 : Int) < ((k :: r).length : Int) := by simp only [List.length_cons]; omega
        obtain ⟨ce, hce⟩ : ∃ ce, cutE k r = ce := ⟨_, rfl⟩
        have hce0 := hce
        unfold cutE at hce0
        rw [hce] at q1 q2 q3
        have Q1 := Lib.hid q1
        have Q2 := Lib.hid q2
        have Q3 := Lib.hid q3
        have HCE0 := Lib.hid hce0
        have hg' := hg
        have hk := k.toNat_lt
        have hidx := index_ba (l := [k]) (k := 0) (b := k) rfl 0 rfl
        obtain ⟨k0, hk0, hd0, hra⟩ := hr2
        have c1 := ref_at hra
        simp only at hd0
        have hr2 : Ref w2 w.heap.size s ⟨k :: r, 0⟩ := ⟨k0, hk0, hd0, hra⟩
        have HD0 := Lib.hid hd0
        have ht1 : takeV 1 ⟨k :: r, 0⟩ = [k] ∧ takeS 1 ⟨k :: r, 0⟩ = ⟨r, 0⟩ := take_ok rfl (by simp; omega)
        obtain ⟨t1, t2⟩ := ht1
        obtain ⟨n, hn⟩ : ∃ n, numV ⟨r, 0⟩ = n := ⟨_, rfl⟩
        obtain ⟨st, hst⟩ : ∃ st, numS ⟨r, 0⟩ = st := ⟨_, rfl⟩
        have HN := Lib.hid hn
        have HST := Lib.hid hst
        have T1 := Lib.hid t1
        have T2 := Lib.hid t2
        have HCE := Lib.hid hce
        have hsl := numS_len ⟨r, 0⟩
        rw [hst] at hsl
        simp only at hsl
        clear q1 q2 q3 hce0 hra hd0 hn hst t1 t2 hce
        go_wp2_with fail
        refine (rtake_k [k] ⟨r, 0⟩ T1.out T2.out hl2 hr2).mono ?_
        rintro e w3 ⟨rfl, hr3, hg3⟩
        have hg3 := only_trans hg2 hg3
        clear hr2 hg2 c1
        go_wp2_with fail
        refine (rnum_k n st HN.out HST.out hl2 hr3).mono ?_
        rintro e w4 ⟨rfl, hr4, hg4⟩
        have hg4 := only_trans hg3 hg4
        have hb4 := below_only hb hg4 hb.size (Nat.le_refl _)
        have hb_ := hb
        clear hr3 hg3 hidx
        obtain ⟨k4, hk4, hd4, hra4⟩ := hr4
        have c2 := ref_e hra4
        have hr4 : Ref w4 w.heap.size s st := ⟨k4, hk4, hd4, hra4⟩
        clear hra4 hd4 hk4
        by_cases he : st.e = 0
        · have hee : (st.e != 0) = false := by rw [he]; rfl
          by_cases hbig : 1048576 < n
          · have hc : ce = 10 := by
              have := HCE0.out
              rw [HST.out, HN.out, if_neg (by simp [he]), if_pos hbig] at this
              exact this.symm
            have HC := Lib.hid hc
            have hbi : (1048576 : Int) < (n : Int) := by omega
            clear hc he
            go_wp2_with fail
            go_ret3
            exact splitEnd_err (by rw [← HR.out, ← HC.out]; exact Q1.out (by rw [HC.out]; decide)) (by decide) hb4
          · obtain ⟨b, hb⟩ : ∃ b, takeV (n : Int) st = b := ⟨_, rfl⟩
            obtain ⟨s3, hs3⟩ : ∃ s3, takeS (n : Int) st = s3 := ⟨_, rfl⟩
            obtain ⟨u, hu⟩ : ∃ u, takeV 4 s3 = u := ⟨_, rfl⟩
            obtain ⟨s4, hs4⟩ : ∃ s4, takeS 4 s3 = s4 := ⟨_, rfl⟩
            obtain ⟨T, hT⟩ : ∃ T, stamp ((k.toNat : Int), b) = T := ⟨_, rfl⟩
            have hn1 : (n : Int) ≤ 1048576 := by omega
            have hway : (s4.e = 2 ∧ ce = 2) ∨ (s4.e = 0 ∧ ¬ st.l.length < n + 4 ∧ b = st.l.take n ∧ s4.l = st.l.drop (n + 4) ∧ ((u ≠ T ∧ ce = 6) ∨ (u = T ∧ ce = 0))) := by
              have hx := HCE0.out
              rw [HST.out, HN.out, if_neg (by simp [he]), if_neg hbig] at hx
              by_cases hsh : st.l.length < n + 4
              · rw [if_pos hsh] at hx
                exact .inl ⟨by rw [← hs4, ← hs3]; exact cut_short he hsh, hx.symm⟩
              · obtain ⟨g1, g2, g3⟩ := cut_full he hsh
                rw [hb] at g1
                rw [hs3, hs4] at g2
                rw [hs3, hu] at g3
                rw [if_neg hsh, ← g1, hT, ← g3] at hx
                refine .inr ⟨by rw [g2], hsh, g1, by rw [g2], ?_⟩
                by_cases hy : u = T
                · rw [if_neg (by simp [hy])] at hx; exact .inr ⟨hy, hx.symm⟩
                · rw [if_pos hy] at hx; exact .inl ⟨hy, hx.symm⟩
            have HB := Lib.hid hb
            have HS3 := Lib.hid hs3
            have HU := Lib.hid hu
            have HS4 := Lib.hid hs4
            have HT := Lib.hid hT
            have HW := Lib.hid hway
            have HE := Lib.hid he
            clear hb hs3 hu hs4 hT hway he
            go_wp2_with fail
            refine (rtake_k b s3 HB.out HS3.out hl2 hr4).mono ?_
            rintro e w5 ⟨rfl, hr5, hg5⟩
            have hg5 := only_trans hg4 hg5
            clear hr4 hg4 c2
            go_wp2_with fail
            refine (rtake_k u s4 HU.out HS4.out hl2 hr5).mono ?_
            rintro e w6 ⟨rfl, hr6, hg6⟩
            have hg6 := only_trans hg5 hg6
            clear hr5 hg5
            have hb6 := below_only hb_ hg6 hb_.size (Nat.le_refl _)
            obtain ⟨k6, hk6, hd6, hra6⟩ := hr6
            have c2 := ref_e hra6
            have c3 := ref_at hra6
            rcases HW.out with ⟨he4, hc⟩ | ⟨he4, hfull, hbt, hs4l, hcase⟩
            · have hee4 : (s4.e != 0) = true := by rw [he4]; rfl
              have HC := Lib.hid hc
              have HE4 := Lib.hid he4
              clear hc he4 hra6 hd6
              go_wp2_with fail
              go_quiet (fail)
              go_wp2_with fail
              go_ret3
              rw [HE4.out]
              exact splitEnd_err (by rw [← HR.out, ← HC.out]; exact Q1.out (by rw [HC.out]; decide)) (by decide) (below_drewN hb6 _)
            · have hee4 : (s4.e != 0) = false := by rw [he4]; rfl
              obtain ⟨p1, p2, p3, p4⟩ := span HD0.out hk0 hd6 hk6 (by rw [HST.out]; exact HE.out) (by rw [HST.out, HN.out]; exact hfull) (by rw [HST.out, HN.out]; exact hs4l)
              rw [HST.out, HN.out, ← hbt] at p4
              obtain ⟨j, rfl⟩ : ∃ j, k6 = j + 4 := ⟨k6 - 4, by omega⟩
              rw [Nat.add_sub_cancel] at p1 p3 p4
              obtain ⟨F, hF⟩ : ∃ F, front ((k.toNat : Int), b) ++ b = F := ⟨_, rfl⟩
              rw [hF] at p4
              have hFl : F.length ≤ 9223372036854775807 := by
                have := congrArg ByteArray.size p4
                rw [ba_size] at this
                simp only [ByteArray.size_extract] at this
                omega
              obtain ⟨m, hm⟩ : ∃ m, more 0 (bn F) = m := ⟨_, rfl⟩
              have hm2 : m < 4294967296 := by rw [← hm]; exact more_lt (by decide) (bn_lt F)
              have hwm : IntKind.u64.wrap (m : Int) = (m : Int) := by rw [IntKind.wrap_u64]; omega
              have hmT : fixed 4 m = T := by rw [← HT.out, ← hm, ← hF]; rfl
              have hx4 := ext4 m
              rw [hmT] at hx4
              have hsz8 : (ba (fixed 8 m)).size = 8 := by rw [ba_size, fixed_len]
              have hsub : IntKind.i64.wrap ((j : Int) + 4 - 4) = (j : Int) := IntWalk.i64_in _ (by omega) |>.trans (by omega)
              have hji : (k0 : Int) ≤ (j : Int) := by omega
              have hjl : (j : Int) ≤ (s.length : Int) := by omega
              have HM := Lib.hid hm
              have HS4L := Lib.hid hs4l
              have HBT := Lib.hid hbt
              have HD6 := Lib.hid hd6
              have HRA := Lib.hid hra6
              have HCS := Lib.hid hcase
              clear hF hm hmT hs4l hbt hcase p1 p2 p3 hd6 hra6 hfull he4
              go_wp2_with fail
              refine (rsum_c F hFl _).mono ?_
              rintro e w7 ⟨rfl, rfl⟩
              rw [HM.out]
              go_wp2_with fail
              refine (rFixed_c m (by omega) _).mono ?_
              rintro e w7 ⟨rfl, hb7⟩
              have hg7 := only_trans hg6 (only_below hb7 w.heap.size)
              have hb7' := below_only hb_ hg7 hb_.size (Nat.le_refl _)
              have hr7 : Ref w7 w.heap.size s s4 := ⟨j + 4, hk6, HD6.out, is_below HRA.out hb7 (is_lt HRA.out)⟩
              clear hg6 hb6 hb7 c2 c3 p4 hsub
              rcases HCS.out with ⟨hne, hc⟩ | ⟨heq, hc⟩
              · have hstr : (!((ba T).toList == (ba u).toList)) = true := by rw [ba_beq, decide_eq_false (fun e => hne e.symm)]; rfl
                have HC := Lib.hid hc
                clear hne hc
                go_wp2_with fail
                go_ret3
                exact splitEnd_err (by rw [← HR.out, ← HC.out]; exact Q1.out (by rw [HC.out]; decide)) (by decide) hb7'
              · have hstr : (!((ba T).toList == (ba u).toList)) = false := by rw [ba_beq, decide_eq_true heq.symm]; rfl
                have HC := Lib.hid hc
                clear heq hc
                by_cases hord : (k.toNat : Int) ≤ x
                · have HORD := Lib.hid hord
                  go_wp2_with fail
                  go_ret3
                  exact splitEnd_err (by rw [← HR.out]; exact Q2.out HC.out HORD.out) (by decide) hb7'
                · have HORD := Lib.hid hord
                  have hown7 : w7.ownsRow (w.heap.size + 1) 32 2 (.slice A out.length cap) out.length (cvs out) := hown.kept hg7 (Or.inr fun e => by have := (hown.lt _ e).1; omega)
                  have hs7 : w.heap.size + 1 ≤ w7.heap.size := Nat.le_trans hsz hg7.size
                  have hol : out.length ≤ 100000 := by omega
                  have hne1 : some w.heap.size ≠ (Value.slice A out.length cap).ownBlock := fun e => by have := (hown7.lt _ e.symm).1; omega
                  go_wp2_with (at_builtin; refine wpList_append_own _ rfl _ _ 22 rfl (w.heap.size + 1) 32 i0 (.agg #[.int .i64 0, .string ByteArray.empty]) 2 24 Try.underlying22 hi hz0 hz1 hz2 rfl (by decide) _ _ _ rfl (hown7.alloc _) ⟨w7.heap.size, 0, none⟩ 1 1 [.int .i64 (k.toNat : Int), .string (ba b)] rfl rfl (cells_new w7 _ [_, _]) (by simp [Value.oneCell']) ?c3 ?c4 ?c5 ?_)
                  case c3 => unfold maxLen; omega
                  case c4 => omega
                  case c5 => simp; omega
                  intro v' w8 hown' hgrow _
                  have hg8 : w7.grownBy w8 (Value.slice A out.length cap).ownBlock := unalloc hgrow
                  have hb8 := hb7'.grown hg8 hb7'.size (fun j hj => by have := (hown7.lt _ hj).1; omega)
                  have hr8 : Ref w8 w.heap.size s s4 := by
                    obtain ⟨kk, e1, e2, e3⟩ := hr7
                    exact ⟨kk, e1, e2, is_grown e3 hg8 hne1⟩
                  have hs8 : w.heap.size + 1 ≤ w8.heap.size := Nat.le_trans hs7 hg8.size
                  obtain ⟨A', cap', hv', -, -, -⟩ := own_at hown'
                  subst hv'
                  have hcc : cutC k r = ((k.toNat : Int), b) := Prod.ext rfl (by unfold cutC; rw [HST.out, HN.out]; exact HBT.out.symm)
                  have hcr : s4 = ⟨cutR r, 0⟩ := by
                    have h1 : s4.l = cutR r := by unfold cutR; rw [HST.out, HN.out]; exact HS4L.out
                    have h2 : s4.e = 0 := by rcases HW.out with ⟨_, h⟩ | ⟨h, _⟩; · rw [HC.out] at h; cases h
                                             · exact h
                    cases s4; simp only at h1 h2; rw [h1, h2]
                  rw [hcr] at hr8
                  have hown6 : w8.ownsRow (w.heap.size + 1) 32 2 (.slice A' (out.length + 1) cap') (out ++ [cutC k r]).length (cvs (out ++ [cutC k r])) := by
                    rw [hcc, cvs_snoc, List.length_append, List.length_singleton]
                    exact hown'
                  have hq3 : cuts (f - 1) (k.toNat : Int) (out ++ [cutC k r]) (cutR r) = R := Q3.out HC.out HORD.out
                  have hcl := cutR_len r
                  have H6 := Lib.hid hown6
                  have H3 := Lib.hid hq3
                  clear hown hown' hown6 hown7 hgrow hg8 hr7 hcc hq3 hb_ hb7' hg7 hb hb4 hcr
                  go_wp2_with fail
                  go_roundg (gk - 1)
                  case measure => simp only [List.length_cons] at hg; omega
                  case rel =>
                    refine ⟨(k.toNat : Int), f - 1, A', cap', out ++ [cutC k r], cutR r, rfl, ?_, ?_, H3.out, ?_, ?_, hr8, ?_, hb8, hs8⟩
                    · rw [List.length_append, List.length_singleton]
                    · simp only [List.length_cons] at hg; omega
                    · simp only [List.length_cons] at hrf; omega
                    · simp only [List.length_append, List.length_cons, List.length_nil] at hor ⊢; omega
                    · have := H6.out
                      rw [List.length_append, List.length_singleton] at this ⊢
                      exact this
        · have hee : (st.e != 0) = true := by simpa using he
          have hc : ce = st.e := by
            have := HCE0.out
            rw [HST.out, if_pos he] at this
            exact this.symm
          have HC := Lib.hid hc
          have HE := Lib.hid he
          clear hc he
          go_wp2_with fail
          go_quiet (fail)
          go_wp2_with fail
          go_ret3
          exact splitEnd_err (by rw [← HR.out, ← HC.out]; exact Q1.out (by rw [HC.out]; exact HE.out)) HE.out (below_drewN hb4 _)
  · have hx : verE s = 7 ∨ verE s = 2 := by rcases hver with h | h | h <;> simp_all
    clear hver
    obtain ⟨x, hxe⟩ : ∃ x, verE s = x := ⟨_, rfl⟩
    have hxn : (x != 0) = true := by rw [← hxe]; simpa using h0
    have hsp : splitP s = ([], x) := by unfold splitP; rw [if_pos h0, hxe]
    have hx0 : x ≠ 0 := by rw [← hxe]; exact h0
    have HXE := Lib.hid hxe
    have HSP := Lib.hid hsp
    have HX0 := Lib.hid hx0
    clear hx h0 hsp hx0 hxe
    go_enter Try.func17, Try.ntmps17
    go_wp2_with fail
    refine (rversion_k x v HXE.out HV.out (by omega) _).mono ?_
    rintro e w1 ⟨rfl, rfl⟩
    go_wp2_with fail
    go_ret3
    exact splitEnd_err HSP.out HX0.out (Below.refl _ _)
end Go.Proofs.Ytcbkggjphoeceaa
