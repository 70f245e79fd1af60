/-
  The walk of ChunkFinds.
-/
import Derived.Test.YtcbkggjphoeceaaUm
namespace Go.Proofs.Ytcbkggjphoeceaa
open Go.RowKit Go.IntWalk
open Pk Cr Ck
set_option maxRecDepth 100000
attribute [local go_sem] Oper.semAt_some

theorem join_kk {v : Int} {A : Option Addr} {cap : Nat} {l : List Chk} (S : ByteArray) (x : Int) (hT : ba (joinT v l) = S) (hE : joinE v l = x) (hF : (flat l).length ≤ 100000) (hl : l.length ≤ maxLen) {w : World} (hc : At w w.heap.size A (cvs l)) :
    Calls Try.prog 10 #[.int .i64 v, .slice A l.length cap] w fun e w' => e = .returned (.tuple #[.string S, .int .i64 x]) ∧ Below w.heap.size w w' := by
  subst hT hE
  exact join_c v A cap l hF hl w hc
theorem find_kk {A : Option Addr} {cap : Nat} {l : List Chk} (k : Int) (S : ByteArray) (b : Bool) (hS : ba ((find l k).getD []) = S) (hb : (find l k).isSome = b) (hl : l.length ≤ maxLen) {w : World} (hc : At w w.heap.size A (cvs l)) :
    Calls Try.prog 12 #[.slice A l.length cap, .int .i64 k] w fun e w' => e = .returned (.tuple #[.string S, .bool b]) ∧ Below w.heap.size w w' := by
  subst hS hb
  exact find_c A cap l k hl w hc
theorem any_next {l : List Chk} {j : Nat} {c : Chk} (k : Int) (h : l[j]? = some c) : ((l.take (j + 1)).any fun c => c.1 == k) = (((l.take j).any fun c => c.1 == k) || (c.1 == k)) := by
  rw [List.take_add_one, h, List.any_append, Option.toList_some]; simp
theorem flat_next {l : List Chk} {j : Nat} {c : Chk} (h : l[j]? = some c) : (flat (l.take (j + 1))).length = (flat (l.take j)).length + (one c).length := by rw [flat_take h, List.length_append]
theorem join_size {v : Int} {l : List Chk} (h : joinE v l = 0) : (joinT v l).length = 5 + (flat l).length := by
  rw [(join_split h).2.2.1]
  simp only [magic, List.length_append, List.length_cons, List.length_nil]
  omega

namespace chunkFinds
set_option maxHeartbeats 8000000 in
theorem walk (A : Option Addr) (cap : Nat) (l : List Chk) (k : Int) (hl : l.length ≤ maxLen) (_hk : (Lit.int .i64 k).wf = true) (w : World) (hc : At w w.heap.size A (cvs l)) :
    Calls Try.prog 7 #[.slice A l.length cap, .int .i64 k] w fun e w' => e = .returned (.bool true) ∧ Below w.heap.size w w' := by
  cases hf : few l
  · go_enter Try.func7, Try.ntmps7
    go_wp2_with fail
    refine (few_k false hf hl hc).mono ?_
    rintro e w1 ⟨rfl, rfl⟩
    go_wp2_with fail
    refine (live11_c _).mono ?_
    rintro e w1 ⟨rfl, hb1⟩
    go_wp2_with fail
    go_ret
    exact ⟨rfl, hb1⟩
  · obtain ⟨hl20, hlb⟩ := few_in hf
    have hfl := few_flat hlb
    have hF : (flat l).length ≤ 100000 := by omega
    have HLB := Lib.hid hlb
    have HFW := Lib.hid hf
    clear hlb hf
    by_cases he : joinE 7 l = 0
    · obtain ⟨q1, q2, q3, q4, _, _⟩ := join_split he
      have hjl := join_size he
      obtain ⟨S, hS⟩ : ∃ S, ba (joinT 7 l) = S := ⟨_, rfl⟩
      have hsz : S.size = 5 + (flat l).length := by rw [← hS, ba_size, hjl]
      have HS := Lib.hid hS
      have HE := Lib.hid he
      have Q1 := Lib.hid q1
      have Q2 := Lib.hid q2
      have Q4 := Lib.hid q4
      have HJL := Lib.hid hjl
      clear he q1 q2 q3 q4 hjl hS
      go_enter Try.func7, Try.ntmps7
      go_wp2_with fail
      refine (few_k true HFW.out hl hc).mono ?_
      rintro e w1 ⟨rfl, rfl⟩
      go_wp2_with fail
      refine (join_kk S 0 HS.out HE.out hF hl hc).mono ?_
      rintro e w1 ⟨rfl, hb1⟩
      go_wp2_with fail
      refine (split_k (joinT 7 l) l 7 0 HS.out.symm Q1.out Q2.out (by rw [HJL.out]; omega) _).mono ?_
      rintro e w2 ⟨AM, cM, rfl, hM, hm⟩
      have hb2 := hb1.trans (hm.mono hb1.size)
      have C2 := (hc.keep hb1).keep hm
      clear hm hb1
      have HC := Lib.hid C2
      have HM := Lib.hid hM
      clear hc C2 hM
      go_wp2_with fail
      go_loopw [10, 11, 12] (fun am sz i wr => ∃ j : Nat, i = .int .i64 (j : Int) ∧ j ≤ l.length ∧ am = .bool ((l.take j).any fun c => c.1 == k) ∧ sz = .int .i64 (((5 + (flat (l.take j)).length : Nat)) : Int) ∧ Below w2.heap.size w2 wr) (fun _ _ i _ => l.length - (intOf i).toNat)
      case atStart => exact ⟨0, rfl, Nat.zero_le _, rfl, rfl, Below.refl _ _⟩
      case round =>
        obtain ⟨j, rfl, hj, rfl, rfl, hb⟩ := hrel
        have hbs := hb.size
        by_cases hlt : j < l.length
        · obtain ⟨c, hcj⟩ := some_at hlt
          have hcb := HLB.out c (mem_at hcj)
          have hfind := find_at l 0 j c Q4.out hcj
          have hany := any_next k hcj
          have hflat := flat_next hcj
          have hpre := flat_pre l (j + 1)
          obtain ⟨ck, cb⟩ := c
          obtain ⟨b0, o0, rfl, hb0, c0, c1⟩ := chunk_cells (HC.out.below hb) hcj
          simp only at hcb c0 c1 hfind hany
          obtain ⟨T, hT⟩ : ∃ T, one (ck, cb) = T := ⟨_, rfl⟩
          rw [hT] at hflat
          have hTs := ba_size T
          obtain ⟨n0, hn0⟩ : ∃ n0, (flat (l.take j)).length = n0 := ⟨_, rfl⟩
          rw [hn0] at hflat ⊢
          obtain ⟨am, ham⟩ : ∃ am, ((l.take j).any fun c => c.1 == k) = am := ⟨_, rfl⟩
          rw [ham] at hany ⊢
          obtain ⟨q, hq⟩ : ∃ q, (ck == k) = q := ⟨_, rfl⟩
          rw [hq] at hany
          have HT := Lib.hid hT
          have HFI := Lib.hid hfind
          have HAN := Lib.hid hany
          have HFL := Lib.hid hflat
          have hji : (0 : Int) ≤ (j : Int) := by omega
          have hjl : (j : Int) < (l.length : Int) := by omega
          have hn1 : n0 + T.length ≤ 4300 := by omega
          clear hcj hT hfind hany hflat ham hn0 hpre
          cases am
          all_goals
            go_wp2_with fail
            refine (find_kk ck (ba cb) true (by rw [HFI.out]; rfl) (by rw [HFI.out]; rfl) hl ((HM.out.below hb).mono hbs)).mono ?_
            rintro e w3 ⟨rfl, hm⟩
            have hb3 := hb.trans (hm.mono hbs)
            have c0 := keep_cell hm c0
            have c1 := keep_cell hm c1
            clear hm
            go_wp2_with fail
            refine (one_k HT.out (by omega) _).mono ?_
            rintro e w4 ⟨rfl, hm⟩
            have hb4 := hb3.trans (hm.mono hb3.size)
            clear hm hb3
            go_wp2_with fail
            go_roundw
            case rel => exact ⟨j + 1, by go_num, by omega, by rw [HAN.out]; rfl, by rw [HFL.out]; go_num, hb4⟩
            case measure => simp only [intOf]; omega
        · obtain rfl : j = l.length := by omega
          rw [List.take_length]
          obtain ⟨am, ham⟩ : ∃ am, (l.any fun c => c.1 == k) = am := ⟨_, rfl⟩
          rw [ham]
          have hse := find_among l k
          rw [ham] at hse
          obtain ⟨fb, hfb⟩ : ∃ fb, ba ((find l k).getD []) = fb := ⟨_, rfl⟩
          have HSE := Lib.hid hse
          have HFB := Lib.hid hfb
          clear ham hse hfb
          go_wp2_with fail
          refine (find_kk k fb am HFB.out HSE.out hl ((HM.out.below hb).mono hbs)).mono ?_
          rintro e w3 ⟨rfl, hm⟩
          have hb3 := (hb2.trans (hb.mono hb2.size)).trans (hm.mono (Nat.le_trans hb2.size hbs))
          clear hm
          have hs5 : ((5 : Int) + ((flat l).length : Int) == (S.size : Int)) = true := by rw [hsz]; simp
          go_wp2_with fail
          refine (live11_c _).mono ?_
          rintro e w4 ⟨rfl, hm⟩
          have hb4 := hb3.trans (hm.mono hb3.size)
          go_wp2_with fail
          go_ret
          exact ⟨rfl, hb4⟩
    · obtain ⟨x, hx⟩ : ∃ x, joinE 7 l = x := ⟨_, rfl⟩
      have hxn : (x != 0) = true := by rw [← hx]; simpa using he
      have hjt : ba (joinT 7 l) = ⟨#[]⟩ := by rw [join_err he]; rfl
      have HX := Lib.hid hx
      have HJ := Lib.hid hjt
      clear he hx hjt
      go_enter Try.func7, Try.ntmps7
      go_wp2_with fail
      refine (few_k true HFW.out hl hc).mono ?_
      rintro e w1 ⟨rfl, rfl⟩
      go_wp2_with fail
      refine (join_kk ⟨#[]⟩ x HJ.out HX.out hF hl hc).mono ?_
      rintro e w1 ⟨rfl, hb1⟩
      go_wp2_with fail
      refine (live11_c _).mono ?_
      rintro e w4 ⟨rfl, hm⟩
      have hb4 := hb1.trans (hm.mono hb1.size)
      go_wp2_with fail
      go_ret
      exact ⟨rfl, hb4⟩
end chunkFinds
end Go.Proofs.Ytcbkggjphoeceaa
