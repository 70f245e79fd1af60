/-
  The document's Deltas; rising lists.
-/
import Derived.Test.YtacnbgfddidfiaaRd
import Derived.Deep.RegionLaw
namespace Go.Proofs.Ytacnbgfddidfiaa
open Go.RowKit Go.IntWalk
open Pk
set_option maxRecDepth 100000

/-- append to a row of the call's own, as one step of a region that draws -/
theorem step_append_own {P : Program} {ops : Array Oper} {o : Oper} {a : Act} {w : World} {K : Act → World → Prop} {Q : Exit → Act → World → Prop} {E : Prop} (hgd : o.guard = none) (s x : Operand) (t : TypeId)
    (ho : o.op = .call { callee := .builtin .append, args := #[s, x], argTypes := #[t, t] })
    (base : Nat) (e : TypeId) (i : TypeInfo) (z : Value) (size bytes : Nat) (ht : P.underlying t = some (.slice e)) (hi : P.info? e = some i) (hz : i.zero = some z)
    (hsize : i.size = size) (hby : i.bytes = bytes) (hzs : z.cells.size = size) (hsz : 0 < size)
    (v : Value) (n : Nat) (xs : List Value) (hs : a.eval s = v) (hown : w.ownsRow base e size v n xs)
    (ad : Addr) (m c : Nat) (news : List Value) (hx : a.eval x = .slice (some ad) m c) (hl : news.length = m * size) (hnews : ∀ j u, news[j]? = some u → w.cell? (ad.add j) = some u) (h1 : ∀ u ∈ news, u.oneCell' = true)
    (h63 : n + m ≤ maxLen) (hbytes : (n + m) * bytes ≤ 140737488355328) (hbase : base ≤ w.heap.size)
    (h : ∀ v' w', w'.ownsRow base e size v' (n + m) (xs ++ news) → w.grownBy w' v.ownBlock → K (a.put o.dst v') w') :
    if Region.wanted o (yielded ops a.tmps) = true then Oper.wp P o a w K Q else E := by
  have hw : Region.wanted o (yielded ops a.tmps) = true := by simp [Region.wanted, hgd]
  rw [if_pos hw]
  exact wp_append_own w s x t ho base e i z size bytes ht hi hz hsize hby hzs hsz v n xs hs hown ad m c news hx hl hnews h1 h63 hbytes hbase fun v' w' h2 h3 _ => h v' w' h2 h3

theorem own_drew {w : World} {base : Nat} {e : TypeId} {size : Nat} {v : Value} {n : Nat} {xs : List Value} (h : w.ownsRow base e size v n xs) : w.drew.ownsRow base e size v n xs := h
/-- a difference on the unsigned side -/
theorem udiff (x a : Int) : wrap64 (IntKind.u64.wrap (IntKind.u64.wrap x - IntKind.u64.wrap a)) = w64 (x - a) := by
  rw [IntKind.wrap_u64, IntKind.wrap_u64, IntKind.wrap_u64]
  unfold wrap64 w64
  omega

set_option maxHeartbeats 4000000 in
theorem rdeltas_c (A : Option Addr) (cap : Nat) (xs : List Int) (hx : xs.length ≤ 100000) (hxi : Ints xs) (w : World) (hc : At w w.heap.size A (ivs xs)) :
    Calls Try.prog 16 #[.slice A xs.length cap] w fun e w' => ∃ A' cap', e = .returned (.slice A' xs.length cap') ∧ xs.length ≤ cap' ∧ Fresh w.heap.size A' ∧ At w' w'.heap.size A' (ivs (dl 0 xs)) ∧ Below w.heap.size w w' := by
  obtain ⟨i0, hi, hz0, hz1, hz2⟩ := info_parts Try.info3
  have HC := Lib.hid hc
  have HI := Lib.hid hxi
  clear hc hxi
  go_enter Try.func16, Try.ntmps16
  go_wp2
  go_loopw [3, 4] (fun v i wr => ∃ (k : Nat) (ahead : Int) (out : List Int), i = .int .i64 (k : Int) ∧ k ≤ xs.length ∧ out.length = k ∧ out ++ dl ahead (xs.drop k) = dl 0 xs ∧ (k = 0 → ahead = 0) ∧ (0 < k → xs[k - 1]? = some ahead) ∧ wr.ownsRow w.heap.size 3 1 v out.length (ivs out) ∧ Below w.heap.size w wr)
    (fun _ i _ => xs.length - (intOf i).toNat)
  case atStart => exact ⟨0, 0, [], rfl, Nat.zero_le _, rfl, rfl, fun _ => rfl, fun h => by omega, World.ownsRow_nil _ _ _ _, Below.refl _ _⟩
  case round =>
    obtain ⟨k, ahead, out, rfl, hk, hol, heq, hz, hp, hown, hb⟩ := hrel
    have HE := Lib.hid heq
    have HOL := Lib.hid hol
    have hb0 := hb.size
    have hle : out.length ≤ 100000 := by omega
    clear heq hol
    by_cases hlt : k < xs.length
    · obtain ⟨x, hxk⟩ := some_at hlt
      have HX := Lib.hid hxk
      by_cases h0 : k = 0
      · subst h0
        have ha0 : ahead = 0 := hz rfl
        have hxid := w64_id (HI.out x (mem_at hxk))
        obtain ⟨b, off, rfl, hbl, hcell⟩ := (HC.out.below hb) 0 _ (ivs_at hxk)
        rw [Nat.add_zero] at hcell
        have HW := Lib.hid hxid
        have HA := Lib.hid ha0
        clear hxk hxid ha0 hz hp
        go_wp2_with (at_builtin; refine wpList_append_own _ rfl _ _ 22 rfl w.heap.size 3 i0 (.int .i64 0) 1 8 Try.underlying22 hi hz0 hz1 hz2 rfl (by decide) _ _ _ rfl (hown.alloc _) ⟨wr.heap.size, 0, none⟩ 1 1 [.int .i64 x] rfl rfl (cell_one_new _ _ _) (by simp [Value.oneCell']) (by unfold maxLen; omega) (by omega) (by simp; omega) ?_; intro v' w2 hown' hgrow _)
        have hb2 := below_ownI hb hb0 hown hgrow
        have ho2 := own_snocI hown'
        clear hown hown' hgrow hb
        go_wp2
        go_roundw
        case rel => exact ⟨1, x, out ++ [x], by go_num, by omega, by simp [HOL.out], by rw [← HE.out, drop_at_cons HX.out, HA.out, dl_cons, Int.sub_zero, HW.out]; simp, fun h => by omega, fun _ => HX.out, ho2, hb2⟩
        case measure => simp only [intOf]; omega
      · have hpk := hp (by omega)
        have hxw := udiff x ahead
        have hbd := hb.drew
        obtain ⟨b, off, rfl, hbl, hcell⟩ := (HC.out.below hb) k _ (ivs_at hxk)
        obtain ⟨b', off', hbe, _, hcell2⟩ := (HC.out.below hb) (k - 1) _ (ivs_at hpk)
        cases hbe
        obtain ⟨j, hj⟩ : ∃ j, k = j + 1 := ⟨k - 1, by omega⟩
        subst hj
        have hjs : (0 : Int) ≤ (j : Int) + 1 := by omega
        have hjl : j < xs.length := by omega
        have hjw : IntKind.i64.wrap (j : Int) = (j : Int) := by rw [i64_left]; exact wrap64_in _ (by omega)
        rw [Nat.add_sub_cancel] at hcell2 hpk
        have HWR := Lib.hid hxw
        clear hz hp hpk hxw hxk h0
        go_wp2
        have hown2 := own_drew hown
        go_region_law (refine step_append_own rfl _ _ 22 rfl w.heap.size 3 i0 (.int .i64 0) 1 8 Try.underlying22 hi hz0 hz1 hz2 rfl (by decide) _ _ _ rfl (hown2.alloc _) ⟨wr.heap.size, 0, none⟩ 1 1 [.int .i64 (IntKind.i64.wrap (IntKind.u64.wrap (IntKind.u64.wrap x - IntKind.u64.wrap ahead)))] rfl rfl (cell_one_new wr.drew _ _) (by simp [Value.oneCell']) (by unfold maxLen; omega) (by omega) (by simp; omega) ?_; intro v' w2 hown' hgrow)
        all_goals
          have hb2 := below_ownI hb.drew (B := w.heap.size) (by simp; omega) hown2 hgrow
          have ho2 := own_snocI hown'
          rw [i64_left, HWR.out] at ho2
          clear hown hown' hgrow hb hown2 hbd
          go_wp2
          go_roundw
          case rel => exact ⟨j + 1 + 1, x, out ++ [w64 (x - ahead)], by go_num, by omega, by simp [HOL.out], by rw [← HE.out, drop_at_cons HX.out]; simp [dl_cons], fun h => by omega, fun _ => HX.out, ho2, hb2⟩
          case measure => simp only [intOf]; omega
    · obtain rfl : k = xs.length := by omega
      obtain ⟨A', cap', rfl, ha, hfr, hcp⟩ := own_at hown
      have hfin : out = dl 0 xs := by rw [← HE.out, List.drop_length]; simp [dl, prs]
      rw [HOL.out]
      clear hz hp
      go_wp2
      go_ret
      rw [← hfin]
      exact ⟨_, _, rfl, by have := HOL.out; omega, hfr, ha, hb⟩
end Go.Proofs.Ytacnbgfddidfiaa
