/-
  Worlds that differ in one block.
-/
import Derived.Test.YtjjbiepmfngipaaBi
import Derived.Test.YtjjbiepmfngipaaBb
import Derived.Test.YtjjbiepmfngipaaBj
namespace Go.Proofs.Ytjjbiepmfngipaa
open Go.RowKit
open Pk
set_option maxRecDepth 100000

theorem below_only {B g : Nat} {a w w' : World} (hb : Below B a w) (ho : w.grownBy w' (some g)) (hB : B ≤ w.heap.size) (hg : B ≤ g) : Below B a w' :=
  hb.grown ho hB (fun k hk => by injection hk with hk; omega)
theorem only_size {a w : World} {row : Option Nat} (h : a.grownBy w row) : a.heap.size ≤ w.heap.size := h.size

end Go.Proofs.Ytjjbiepmfngipaa

namespace Go.Proofs.Ytjjbiepmfngipaa
open Go.RowKit
open Pk
set_option maxRecDepth 100000

/-- the document's Reader of s, in block g, that is as far as st -/
def Ref (w : World) (g : Nat) (s : List UInt8) (st : St) : Prop := ∃ k, k ≤ s.length ∧ s.drop k = st.l ∧ RefAt w g s k st.e
theorem ref_mk {w : World} {g : Nat} {s : List UInt8} {k : Nat} {l : List UInt8} {e : Int} (hk : k ≤ s.length) (hd : s.drop k = l) (h : RefAt w g s k e) : Ref w g s ⟨l, e⟩ := ⟨k, hk, hd, h⟩

theorem rnum_off (g : Nat) (s : List UInt8) (k : Nat) (e : Int) (he : e ≠ 0) (w : World) (h : RefAt w g s k e) :
    Calls Try.prog 49 #[.pointer (some ⟨g, 0, none⟩)] w fun e w' => e = .returned (.int .u64 0) ∧ w = w' := by
  have h2 := ref_e h
  have hd : (e == 0) = false := by simpa using he
  clear h he
  go_enter Try.func49, Try.ntmps49
  go_wp2
  refine wp_loop_rounds 1 ?_
  rw [rounds_succ]
  go_wp2
  go_ret
  exact ⟨rfl, rfl⟩

/-- a call that answers v and leaves the document's Reader as st -/
def RDone (w : World) (g : Nat) (s : List UInt8) (st : St) (v : Value) (e : Ending) (w' : World) : Prop := e = .returned v ∧ Ref w' g s st ∧ w.grownBy w' (some g)
theorem rDone_mk {w w' : World} {g : Nat} {s : List UInt8} {st st' : St} {v u : Value} {e : Ending} (h : e = .returned u) (hv : u = v) (hr : Ref w' g s st') (hs : st' = st) (ho : w.grownBy w' (some g)) : RDone w g s st v e w' := by
  subst hv; subst hs; exact ⟨h, hr, ho⟩

theorem rnum_all (g : Nat) (s : List UInt8) (st : St) (hl : s.length ≤ 140737488351232) (w : World) (h : Ref w g s st) :
    Calls Try.prog 49 #[.pointer (some ⟨g, 0, none⟩)] w fun e w' => RDone w g s (numS st) (.int .u64 (numV st : Int)) e w' := by
  obtain ⟨k, hk, hd, hr⟩ := h
  by_cases he : st.e = 0
  · rw [he] at hr
    refine (rNum_end g s k hk hl w hr).mono fun e w' hq => ?_
    rw [hd] at hq
    cases hrd : rd st.l with
    | cut =>
      rw [hrd] at hq
      obtain ⟨h1, h2, h3⟩ := hq
      exact rDone_mk h1 (by rw [(num_cut he hrd).1]; rfl) (ref_mk hk hd h2) (num_cut he hrd).2.symm h3
    | long =>
      rw [hrd] at hq
      obtain ⟨h1, h2, h3⟩ := hq
      exact rDone_mk h1 (by rw [(num_long he hrd).1]; rfl) (ref_mk hk hd h2) (num_long he hrd).2.symm h3
    | ok n u =>
      rw [hrd] at hq
      obtain ⟨h1, h2, h3⟩ := hq
      have hu := (rd_inv hrd).2.2.1
      have hll := drop_at hd
      exact rDone_mk h1 (by rw [(num_ok he hrd).1]) (ref_mk (k := k + u) (by omega) (by rw [← hd, List.drop_drop]) h2) (num_ok he hrd).2.symm h3
  · refine (rnum_off g s k st.e he w hr).mono fun e w' hq => ?_
    obtain ⟨h1, h2⟩ := hq
    subst h2
    exact rDone_mk h1 (by rw [(num_err he).1]; rfl) ⟨k, hk, hd, hr⟩ (num_err he).2.symm (World.grownBy.refl _ _)
theorem rnum_m (g : Nat) (s : List UInt8) (st : St) (hl : s.length ≤ 140737488351232) (w : World) (h : Ref w g s st) :
    Calls Try.prog 49 #[.pointer (some ⟨g, 0, none⟩)] w fun e w' => e = .returned (.int .u64 (numV st : Int)) ∧ Ref w' g s (numS st) ∧ w.grownBy w' (some g) :=
  (rnum_all g s st hl w h).mono fun _ _ hq => hq
/-- what Fix answers, and what it takes -/
theorem fix_take (st : St) : fixS st = takeS 8 st ∧ fixV st = num8 (takeV 8 st) ∧ (takeV 8 st).length ≤ 8 := by
  by_cases he : st.e = 0
  · by_cases hl : st.l.length < 8
    · have hc : (8 : Int) < 0 ∨ (st.l.length : Int) < 8 := .inr (by omega)
      rw [(fix_cut he hl).1, (fix_cut he hl).2, (take_cut he hc).1, (take_cut he hc).2]
      exact ⟨rfl, rfl, by simp⟩
    · have hc : ¬((8 : Int) < 0 ∨ (st.l.length : Int) < 8) := by omega
      rw [(fix_ok he (by omega)).1, (fix_ok he (by omega)).2, (take_ok he hc).1, (take_ok he hc).2]
      exact ⟨rfl, rfl, by simp; omega⟩
  · rw [(fix_err he).1, (fix_err he).2, (take_err he).1, (take_err he).2]
    exact ⟨rfl, rfl, by simp⟩

theorem num8_drop {t : List UInt8} {k : Nat} {b : UInt8} (h : t[k]? = some b) : num8 (t.drop k) = b.toNat + 256 * num8 (t.drop (k + 1)) := by
  rw [drop_cons h, num8]

theorem rleft_m (g : Nat) (s : List UInt8) (st : St) (hl : s.length ≤ 140737488351232) (w : World) (h : Ref w g s st) :
    Calls Try.prog 73 #[.pointer (some ⟨g, 0, none⟩)] w fun e w' => e = .returned (.int .i64 (st.l.length : Int)) ∧ ∃ n, w' = w.drewN n := by
  obtain ⟨k, hk, hd, hr⟩ := h
  rw [drop_at hd]
  exact rLeft_c g s k st.e hk hl w hr
end Go.Proofs.Ytjjbiepmfngipaa
