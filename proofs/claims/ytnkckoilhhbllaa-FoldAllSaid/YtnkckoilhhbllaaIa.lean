/-
  A whole number put among others, once; all nodes: the document's.
-/
import Derived.Test.YtnkckoilhhbllaaQc
import Derived.Test.YtnkckoilhhbllaaHc
import Derived.Deep.RegionHeld3
namespace Go.Proofs.Ytnkckoilhhbllaa
open Go.RowKit Go.IntWalk
set_option maxRecDepth 100000
attribute [local go_sem] Oper.semAt_some

def ToldI (l : List Int) (w : World) (e : Ending) (w' : World) : Prop :=
  ∃ A cap, e = .returned (.slice A l.length cap) ∧ At w' w'.heap.size A (ivs l) ∧ (A = none → cap = 0) ∧ l.length ≤ cap ∧ Below w.heap.size w w'
theorem at_i0 {w : World} {N k : Nat} {B : Option Addr} {S : List Int} (h : S.length ≤ k) : At w N B (ivs (S.drop k)) := by rw [List.drop_of_length_le h]; exact At.nil _ _ _
theorem at_i1 {w : World} {N k : Nat} {B : Option Addr} {S : List Int} (h : At w N B (ivs S)) : At w N (Option.map (fun x => x.add k) B) (ivs (S.drop k)) := by
  rw [ivs_drop]
  intro i v hv
  rw [List.getElem?_drop] at hv
  obtain ⟨b, off, rfl, hlt, hc⟩ := h _ v hv
  exact ⟨b, off + k, by show some ((⟨b, off, none⟩ : Addr).add k) = _; rw [Go.WideShapes.add_plain], hlt, by rw [Nat.add_assoc]; exact hc⟩

theorem at_i2 {w : World} {N k b off : Nat} {S : List Int} (h : At w N (some ⟨b, off, none⟩) (ivs S)) : At w N (some ⟨b, off + k, none⟩) (ivs (S.drop k)) := by
  have := at_i1 (k := k) h
  rwa [show Option.map (fun x : Addr => x.add k) (some ⟨b, off, none⟩) = some ⟨b, off + k, none⟩ from congrArg some (Go.WideShapes.add_plain ..)] at this
theorem own_toldI {w w' : World} {B n : Nat} {l R : List Int} {v : Value} (h : w'.ownsRow B 3 1 v n (ivs l)) (e : l = R) (hn : n = R.length) (hb : Below w.heap.size w w') : ToldI R w (.returned v) w' := by
  subst e hn
  obtain ⟨A, cap, rfl, ha, hf, hc⟩ := own_at h
  refine ⟨A, cap, rfl, ha, fun hA => ?_, hc, hb⟩
  subst hA
  rcases h.2 with ⟨hz, _⟩ | ⟨g, c2, cur, hv, _⟩
  · exact (Value.slice.inj hz).2.2
  · cases hv

set_option maxHeartbeats 8000000 in
theorem rput_c (A : Option Addr) (cap : Nat) (o : List Int) (x : Int) (hl : o.length ≤ 50000) (hA : A = none → cap = 0) (hcap : o.length ≤ cap) (w : World) (hc : At w w.heap.size A (ivs o)) :
    Calls Try.prog 74 #[.slice A o.length cap, .int .i64 x] w (ToldI (insI o x) w) := by
  have HC := Lib.hid hc
  have HA := Lib.hid hA
  obtain ⟨R, hR⟩ : ∃ R, insI o x = R := ⟨_, rfl⟩
  rw [hR]
  have HR := Lib.hid hR
  clear hc hA hR
  go_enter Try.func74, Try.ntmps74
  go_wp2_with fail
  go_loopw [5] (fun i wr => ∃ j : Nat, i = .int .i64 (j : Int) ∧ j ≤ o.length ∧ (∀ y ∈ o.take j, y < x) ∧ wr = w) (fun i _ => o.length - (intOf i).toNat)
  case atStart => exact ⟨0, rfl, Nat.zero_le _, fun y hy => by simp at hy, rfl⟩
  case round =>
    obtain ⟨j, rfl, hj, hlo, hwr⟩ := hrel
    have hwr2 := hwr.symm
    subst hwr2
    clear hwr
    have HLO := Lib.hid hlo
    clear hlo
    have hj0 : (0 : Int) ≤ (j : Int) := by omega
    have hjc : (j : Int) ≤ (cap : Int) := by omega
    have hjl : (j : Int) ≤ (o.length : Int) := by omega
    by_cases hlt : j < o.length
    · obtain ⟨y, hy⟩ := some_at hlt
      obtain ⟨b0, o0, rfl, -, hcell⟩ := HC.out j _ (ivs_at hy)
      have hd : decide (j < o.length) = true := decide_eq_true hlt
      have hdz : decide ((j : Int) < (o.length : Int)) = true := decide_eq_true (by omega)
      have hlz : (j : Int) < (o.length : Int) := by omega
      have HY := Lib.hid hy
      clear hy
      by_cases hyx : y < x
      · have hyd : decide (y < x) = true := decide_eq_true hyx
        go_wp2_with fail
        go_roundw
        case rel =>
          refine ⟨j + 1, by go_num, by omega, fun z hz => ?_, by first | rfl | trivial⟩
          rw [List.take_add_one, HY.out] at hz
          rcases List.mem_append.1 hz with h | h
          · exact HLO.out z h
          · simp at h; rw [h]; exact hyx
        case measure => simp only [intOf]; omega
      · have hyd : decide (y < x) = false := decide_eq_false hyx
        have hin := insI_at (x := x) (o := o) hj HLO.out (.inr ⟨y, HY.out, hyx⟩)
        by_cases hye : y = x
        · have hyb : (y == x) = true := by simpa using hye
          rw [if_pos (by rw [HY.out, hye]), HR.out] at hin
          subst hin
          clear hye
          go_wp2_with fail
          go_ret
          exact ⟨some ⟨b0, o0, none⟩, cap, rfl, HC.out, (fun h => by cases h), hcap, Below.refl _ _⟩
        · have hyb : (y == x) = false := by simpa using hye
          rw [if_neg (by rw [HY.out]; simpa using hye), HR.out] at hin
          have HIN := Lib.hid hin
          have htk : (o.take j).length = j := by rw [List.length_take]; omega
          have HTK := Lib.hid htk
          have HDL := Lib.hid (show (o.drop j).length = o.length - j by rw [List.length_drop])
          clear hin hye htk hyx
          have hb0 : Below w.heap.size w (w.alloc (.cells #[] 3)) := (Below.refl _ _).alloc (Nat.le_refl _) _
          go_wp2_with (at_builtin; refine append_optI _ rfl _ _ rfl w.heap.size (w.heap.size + 1) _ 0 [] rfl (made_i w.heap.size w (Nat.le_refl _)) (some ⟨b0, o0, none⟩) cap (o.take j) j HTK.out.symm rfl (fun h => by cases h) (by omega) (((by rw [ivs_take]; exact HC.out.take _ : At w w.heap.size (some ⟨b0, o0, none⟩) (ivs (o.take j))).keep hb0).mono (by simp)) (by omega) (by simp) ?_)
          intro v2 w2 hown2 hgrow2
          have hb2 := below_own hb0 (by simp) (made_i w.heap.size w (Nat.le_refl _)) hgrow2
          obtain ⟨Av, cv, rfl, -, -, -⟩ := own_at hown2
          have HO2 := Lib.hid hown2
          have HB2 := Lib.hid hb2
          have hbs2 := hb2.size
          clear hown2 hgrow2 hb2 hb0
          go_wp2_with (at_builtin; refine append_optI _ rfl _ _ rfl w.heap.size (w2.heap.size + 1) _ _ _ rfl (HO2.out.alloc (.cells #[.int .i64 x] 3)) (some ⟨w2.heap.size, 0, none⟩) 1 [x] 1 rfl rfl (fun h => by cases h) (by omega) (at_oneI w2 x) (by omega) (by simp; omega) ?_)
          intro v3 w3 hown3 hgrow3
          have hb3 := below_own (HB2.out.alloc hbs2 (.cells #[.int .i64 x] 3)) (by simp; omega) (HO2.out.alloc (.cells #[.int .i64 x] 3)) hgrow3
          obtain ⟨Aw, cw, rfl, -, -, -⟩ := own_at hown3
          have HO3 := Lib.hid hown3
          have HB3 := Lib.hid hb3
          have hbs3 := hb3.size
          clear hown3 hgrow3 hb3
          have hc0 : ¬ cap = j := by omega
          go_wp2_with (at_builtin; refine append_optI _ rfl _ _ rfl w.heap.size _ _ _ _ rfl HO3.out (some ⟨b0, o0 + j, none⟩) (cap - j) (o.drop j) (o.length - j) HDL.out.symm (by first | rfl | simp) (fun h => by cases h) (by omega) (at_i2 (HC.out.keep HB3.out)) (by omega) hbs3 ?_)
          intro v4 w4 hown4 hgrow4
          have hb4 := below_own HB3.out hbs3 HO3.out hgrow4
          have HO4 := Lib.hid hown4
          have HB4 := Lib.hid hb4
          obtain ⟨Ax, cx, rfl, -, -, -⟩ := own_at hown4
          clear hown4 hgrow4 hb4
          go_wp2_with fail
          go_ret
          exact own_toldI HO4.out (by simp [HIN.out]) (by simp [HIN.out] <;> omega) HB4.out
    · obtain rfl : j = o.length := by omega
      have hd : decide (o.length < o.length) = false := decide_eq_false (by omega)
      have hdz : decide ((o.length : Int) < (o.length : Int)) = false := decide_eq_false (by omega)
      have hlz : ¬ (o.length : Int) < (o.length : Int) := by omega
      have hin := insI_at (x := x) (o := o) hj HLO.out (.inl rfl)
      rw [if_neg (by rw [List.getElem?_eq_none (Nat.le_refl _)]; simp), HR.out] at hin
      have HIN := Lib.hid hin
      obtain ⟨j, hjj⟩ : ∃ j, o.length = j := ⟨_, rfl⟩
      have htk : (o.take o.length).length = o.length := by rw [List.take_length]
      have HTK := Lib.hid htk
      have HDL := Lib.hid (show (o.drop o.length).length = o.length - o.length by rw [List.length_drop])
      clear hin htk hjj
      have hb0 : Below w.heap.size w (w.alloc (.cells #[] 3)) := (Below.refl _ _).alloc (Nat.le_refl _) _
      go_wp2_with (at_builtin; refine append_optI _ rfl _ _ rfl w.heap.size (w.heap.size + 1) _ 0 [] rfl (made_i w.heap.size w (Nat.le_refl _)) A cap (o.take o.length) o.length HTK.out.symm rfl HA.out (by omega) (((by rw [ivs_take]; exact HC.out.take _ : At w w.heap.size A (ivs (o.take o.length))).keep hb0).mono (by simp)) (by omega) (by simp) ?_)
      intro v2 w2 hown2 hgrow2
      have hb2 := below_own hb0 (by simp) (made_i w.heap.size w (Nat.le_refl _)) hgrow2
      obtain ⟨Av, cv, rfl, -, -, -⟩ := own_at hown2
      have HO2 := Lib.hid hown2
      have HB2 := Lib.hid hb2
      have hbs2 := hb2.size
      clear hown2 hgrow2 hb2 hb0
      go_wp2_with (at_builtin; refine append_optI _ rfl _ _ rfl w.heap.size (w2.heap.size + 1) _ _ _ rfl (HO2.out.alloc (.cells #[.int .i64 x] 3)) (some ⟨w2.heap.size, 0, none⟩) 1 [x] 1 rfl rfl (fun h => by cases h) (by omega) (at_oneI w2 x) (by omega) (by simp; omega) ?_)
      intro v3 w3 hown3 hgrow3
      have hb3 := below_own (HB2.out.alloc hbs2 (.cells #[.int .i64 x] 3)) (by simp; omega) (HO2.out.alloc (.cells #[.int .i64 x] 3)) hgrow3
      obtain ⟨Aw, cw, rfl, -, -, -⟩ := own_at hown3
      have HO3 := Lib.hid hown3
      have HB3 := Lib.hid hb3
      have hbs3 := hb3.size
      clear hown3 hgrow3 hb3
      by_cases hcj : cap = o.length
      · obtain rfl := hcj
        have HDZ := Lib.hid (show (o.drop o.length) = [] by simp)
        go_wp2_with (at_builtin; refine append_optI _ rfl _ _ rfl w.heap.size _ _ _ _ rfl HO3.out A 0 [] 0 rfl (by first | rfl | simp) (fun _ => rfl) (by omega) (At.nil w3 w3.heap.size A) (by omega) hbs3 ?_)
        intro v4 w4 hown4 hgrow4
        have hb4 := below_own HB3.out hbs3 HO3.out hgrow4
        have HO4 := Lib.hid hown4
        have HB4 := Lib.hid hb4
        obtain ⟨Ax, cx, rfl, -, -, -⟩ := own_at hown4
        clear hown4 hgrow4 hb4
        go_wp2_with fail
        go_ret
        exact own_toldI HO4.out (by simp [HIN.out]) (by simp [HIN.out] <;> omega) HB4.out
      · have hc0 : ¬ cap = o.length := hcj
        go_wp2_with (at_builtin; refine append_optI _ rfl _ _ rfl w.heap.size _ _ _ _ rfl HO3.out (Option.map (fun x => x.add o.length) A) (cap - o.length) [] 0 rfl (by first | rfl | simp) (fun h => by cases A with | none => have := HA.out rfl; omega | some a => cases h) (by omega) (At.nil w3 w3.heap.size _) (by omega) hbs3 ?_)
        intro v4 w4 hown4 hgrow4
        have hb4 := below_own HB3.out hbs3 HO3.out hgrow4
        have HO4 := Lib.hid hown4
        have HB4 := Lib.hid hb4
        obtain ⟨Ax, cx, rfl, -, -, -⟩ := own_at hown4
        clear hown4 hgrow4 hb4
        go_wp2_with fail
        go_ret
        exact own_toldI HO4.out (by simp [HIN.out]) (by simp [HIN.out] <;> omega) HB4.out
end Go.Proofs.Ytnkckoilhhbllaa
