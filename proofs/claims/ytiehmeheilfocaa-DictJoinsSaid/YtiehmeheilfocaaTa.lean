/-
  Lists of texts as cells; two of them held against each other; where a text stands in one.
-/
import Derived.Test.YtiehmeheilfocaaMt
import Derived.Test.YtiehmeheilfocaaRb
import Derived.Test.YtiehmeheilfocaaQj
import Derived.Maps.OwnSet
namespace Go.Proofs.Ytiehmeheilfocaa
open Go.RowKit Go.IntWalk
open Pk Dc
set_option maxRecDepth 100000
attribute [local go_sem] Oper.semAt_some

def tv (t : Tx) : Value := .string (ba t)
def svs (l : List Tx) : List Value := l.map tv
theorem svs_at {l : List Tx} {k : Nat} {x : Tx} (h : l[k]? = some x) : (svs l)[k]? = some (.string (ba x)) := by simp [svs, tv, h]
theorem svs_len (l : List Tx) : (svs l).length = l.length := by simp [svs]
theorem svs_snoc (l : List Tx) (x : Tx) : svs (l ++ [x]) = svs l ++ [.string (ba x)] := by simp [svs, tv]
theorem svs_one (l : List Tx) : ∀ u ∈ svs l, u.oneCell' = true := by
  intro u hu
  simp only [svs, List.mem_map] at hu
  obtain ⟨b, _, rfl⟩ := hu
  rfl
theorem Try.info9 : (Try.prog.info? 9).map (fun i => (i.zero, i.size, i.bytes)) = some (some (.string ByteArray.empty), 1, 16) := by kernel_rfl
theorem ba_inj {a b : Tx} : ba a = ba b ↔ a = b := ⟨fun h => by have := congrArg (fun x : ByteArray => x.data.toList) h; simpa [ba] using this, fun h => by rw [h]⟩
theorem ba_beq (a b : Tx) : ((ba a).toList == (ba b).toList) = decide (a = b) := by
  rw [ByteArray.toList_eq, ByteArray.toList_eq, ba_list, ba_list]
  by_cases h : a = b <;> simp [h]

theorem same4_q (A1 A2 : Option Addr) (c1 c2 : Nat) (xs ys : List Tx) (hx : xs.length ≤ maxLen) (hy : ys.length ≤ maxLen) (w : World) (h1 : At w w.heap.size A1 (svs xs)) (h2 : At w w.heap.size A2 (svs ys)) :
    Calls Try.prog 32 #[.slice A1 xs.length c1, .slice A2 ys.length c2] w fun e w' => e = .returned (.bool (decide (xs = ys))) ∧ ∃ q, w' = w.drewN q := by
  unfold maxLen at hx hy
  have H1 := Lib.hid h1
  have H2 := Lib.hid h2
  clear h1 h2
  by_cases hl : xs.length = ys.length
  · obtain ⟨n, hn⟩ : ∃ n, n = ys.length := ⟨_, rfl⟩
    have hn1 : xs.length = n := by omega
    rw [← hn, hn1]
    rw [hn1] at hx hl
    rw [← hn] at hy hl
    have HN := Lib.hid hn
    have HN1 := Lib.hid hn1
    clear hn hn1
    go_enter Try.func32, Try.ntmps32
    go_wp2_with fail
    go_loopw [5] (fun i wr => ∃ k : Nat, i = .int .i64 (k : Int) ∧ k ≤ n ∧ xs.take k = ys.take k ∧ ∃ q, wr = w.drewN q) (fun i _ => n - (intOf i).toNat)
    case atStart => exact ⟨0, rfl, Nat.zero_le _, rfl, 0, rfl⟩
    case round =>
      obtain ⟨k, rfl, hk, heq, hq⟩ := hrel
      have HQ := Lib.hid hq
      clear hq
      have HEQ := Lib.hid heq
      clear heq
      by_cases hlt : k < n
      · obtain ⟨x, hxk⟩ := some_at (show k < xs.length by rw [HN1.out]; exact hlt)
        obtain ⟨y, hyk⟩ := some_at (show k < ys.length by rw [← HN.out]; exact hlt)
        obtain ⟨b1, o1, rfl, _, hc1⟩ := (at_drewE H1.out HQ.out) k _ (svs_at hxk)
        obtain ⟨b2, o2, rfl, _, hc2⟩ := (at_drewE H2.out HQ.out) k _ (svs_at hyk)
        have HE := Lib.hid (ext_take HEQ.out hxk hyk)
        have HX := Lib.hid hxk
        have HY := Lib.hid hyk
        clear hxk hyk
        by_cases hxy : x = y
        · have ht : (!((ba x).toList == (ba y).toList)) = false := by rw [ba_beq]; simp [hxy]
          have HT := Lib.hid hxy
          clear hxy
          go_wp2_with fail
          go_quiet (fail)
          go_wp2
          go_roundw
          case rel => exact ⟨k + 1, by go_num, by omega, HE.out.2 HT.out, drewE HQ.out _⟩
          case measure => simp only [intOf]; omega
        · have ht : (!((ba x).toList == (ba y).toList)) = true := by rw [ba_beq]; simp [hxy]
          have HT := Lib.hid hxy
          clear hxy
          go_wp2_with fail
          go_quiet (fail)
          go_wp2
          go_ret
          refine ⟨ret_bool ?_, drewE HQ.out _⟩
          have : ¬ xs = ys := fun e => HT.out (HE.out.1 (by rw [e]))
          simp [this]
      · obtain rfl : k = n := by omega
        go_wp2_with fail
        go_ret
        refine ⟨ret_bool ?_, HQ.out⟩
        have h := HEQ.out
        rw [List.take_of_length_le (by rw [HN1.out]; exact Nat.le_refl _), List.take_of_length_le (by rw [← HN.out]; exact Nat.le_refl _)] at h
        simp [h]
  · have HL := Lib.hid hl
    have ht : ((xs.length : Int) != (ys.length : Int)) = true := by simp only [bne_iff_ne, ne_eq]; omega
    clear hl
    go_enter Try.func32, Try.ntmps32
    go_wp2_with fail
    go_ret
    refine ⟨ret_bool ?_, 0, rfl⟩
    have : ¬ xs = ys := fun e => HL.out (by rw [e])
    simp [this]
theorem same4_k {A1 A2 : Option Addr} {c1 c2 n m : Nat} (xs ys : List Tx) (hn : xs.length = n) (hm : ys.length = m) (hx : n ≤ 100000) (hy : m ≤ 100000) {w : World} (h1 : At w w.heap.size A1 (svs xs)) (h2 : At w w.heap.size A2 (svs ys)) :
    Calls Try.prog 32 #[.slice A1 n c1, .slice A2 m c2] w fun e w' => e = .returned (.bool (decide (xs = ys))) ∧ Below w.heap.size w w' := by
  subst hn; subst hm
  refine (same4_q A1 A2 c1 c2 xs ys (by unfold maxLen; omega) (by unfold maxLen; omega) w h1 h2).mono ?_
  rintro e w' ⟨rfl, q, rfl⟩
  exact ⟨rfl, below_drewN (Below.refl _ _) q⟩

theorem place_c (A : Option Addr) (cap : Nat) (l : List Tx) (t : Tx) (hx : l.length ≤ 100000) (w : World) (hc : At w w.heap.size A (svs l)) :
    Calls Try.prog 54 #[.slice A l.length cap, .string (ba t)] w fun e w' => e = .returned (.int .i64 (ix t l : Int)) ∧ w' = w := by
  have HC := Lib.hid hc
  clear hc
  go_enter Try.func54, Try.ntmps54
  go_wp2_with fail
  go_loopw [5] (fun i wr => ∃ k : Nat, i = .int .i64 (k : Int) ∧ k ≤ l.length ∧ k + ix t (l.drop k) = ix t l ∧ wr = w) (fun i _ => l.length - (intOf i).toNat)
  case atStart => exact ⟨0, rfl, Nat.zero_le _, by simp, rfl⟩
  case round =>
    obtain ⟨k, rfl, hk, hix, rfl⟩ := hrel
    have HIX := Lib.hid hix
    clear hix
    by_cases hlt : k < l.length
    · obtain ⟨x, hxk⟩ := some_at hlt
      obtain ⟨b, off, rfl, _, hcell⟩ := HC.out k _ (svs_at hxk)
      have HX := Lib.hid hxk
      clear hxk
      by_cases hxt : x = t
      · have ht : ((ba x).toList == (ba t).toList) = true := by rw [ba_beq]; simp [hxt]
        have HT := Lib.hid hxt
        clear hxt
        go_wp2_with fail
        go_ret
        have hxx := HX.out
        rw [HT.out] at hxx
        exact ⟨ret_int (by rw [← ix_here hxx HIX.out]), rfl⟩
      · have ht : ((ba x).toList == (ba t).toList) = false := by rw [ba_beq]; simp [hxt]
        have HT := Lib.hid hxt
        clear hxt
        go_wp2_with fail
        go_roundw
        case rel => exact ⟨k + 1, by go_num, by omega, ix_step HX.out HT.out HIX.out, by first | rfl | trivial⟩
        case measure => simp only [intOf]; omega
    · obtain rfl : k = l.length := by omega
      go_wp2_with fail
      go_ret
      have h := HIX.out
      rw [List.drop_length] at h
      exact ⟨ret_int (by rw [← h]; simp [ix]), rfl⟩

theorem rows_ne {w : World} {B1 B2 : Nat} {e1 e2 : TypeId} {v1 v2 : Value} {n1 n2 : Nat} {xs1 xs2 : List Value} (hne : e2 ≠ e1) (h1 : w.ownsRow B1 e1 1 v1 n1 xs1) (h2 : w.ownsRow B2 e2 1 v2 n2 xs2) {g : Nat} (hg : v2.ownBlock = some g) : v1.ownBlock ≠ some g := by
  rcases h2.2 with ⟨rfl, _⟩ | ⟨g', cap, cur, rfl, _, hh, _⟩
  · simp [Value.ownBlock] at hg
  · simp only [Value.ownBlock, Option.some.injEq] at hg
    subst hg
    exact Lib.ownBlock_ne h1 hh hne
theorem row_beside {w w2 : World} {B1 B2 : Nat} {e1 e2 : TypeId} {v1 v2 : Value} {n1 n2 : Nat} {xs1 xs2 : List Value} {o : Obj} (hne : e2 ≠ e1) (h1 : w.ownsRow B1 e1 1 v1 n1 xs1) (h2 : w.ownsRow B2 e2 1 v2 n2 xs2) (hg : (w.alloc o).grownBy w2 v2.ownBlock) : w2.ownsRow B1 e1 1 v1 n1 xs1 := by
  refine (h1.alloc o).kept hg ?_
  rcases h : v1.ownBlock with _ | g
  · exact .inl rfl
  · refine .inr fun e => ?_
    exact rows_ne hne h1 h2 e.symm h
theorem own_apart {w w' : World} {base g q size n k cap : Nat} {e : TypeId} {xs : List Value} (h : w.ownsRow base e size (.slice (some ⟨g, 0, none⟩) k cap) n xs) (ho : w.grownBy w' (some q)) (hq : g ≠ q) : w'.ownsRow base e size (.slice (some ⟨g, 0, none⟩) k cap) n xs :=
  h.kept ho (.inr (by simpa [Value.ownBlock] using hq))
end Go.Proofs.Ytiehmeheilfocaa
