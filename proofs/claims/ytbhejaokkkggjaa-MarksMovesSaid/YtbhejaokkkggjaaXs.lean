/-
  Marks that lie beside one another, kept through a walk; what joined marks are: plain.
-/
import Derived.Test.YtbhejaokkkggjaaAl
import Derived.Test.YtbhejaokkkggjaaUg
namespace Go.Proofs.Ytbhejaokkkggjaa
open Go.RowKit Go.IntWalk
set_option maxRecDepth 100000

/-- lists of marks that lie in a world -/
def Mks (W : World) (L : List (Option Addr × List Mk)) : Prop := ∀ x ∈ L, At W W.heap.size x.1 (kvs x.2)
theorem Mks.at {W : World} {L : List (Option Addr × List Mk)} (h : Mks W L) {A : Option Addr} {l : List Mk} (hm : (A, l) ∈ L) : At W W.heap.size A (kvs l) := h _ hm
def MksIn (w W : World) (L : List (Option Addr × List Mk)) : Prop := Mks W L ∧ Below w.heap.size w W
theorem Marks0 (w : World) : MksIn w w [] := ⟨fun _ hx => (List.not_mem_nil hx).elim, Below.refl _ _⟩
theorem MksIn.step {w W W' : World} {L : List (Option Addr × List Mk)} (h : MksIn w W L) (hb : Below W.heap.size W W') : MksIn w W' L := ⟨fun x hx => (h.1 x hx).keep hb, h.2.trans (hb.mono h.2.size)⟩
theorem MksIn.add {w W : World} {L : List (Option Addr × List Mk)} (h : MksIn w W L) {A : Option Addr} {l : List Mk} (ha : At W W.heap.size A (kvs l)) : MksIn w W ((A, l) :: L) := ⟨fun x hx => by
  rcases List.mem_cons.1 hx with rfl | hx
  · exact ha
  · exact h.1 x hx, h.2⟩
theorem own_capK {w : World} {B n size : Nat} {e : TypeId} {A : Option Addr} {cap : Nat} {xs : List Value} (h : w.ownsRow B e size (.slice A n cap) n xs) : n ≤ cap := by
  obtain ⟨A', c', hv, _, _, hc⟩ := own_at h
  cases hv; exact hc
theorem kjoin_k {A1 A2 : Option Addr} {c1 c2 : Nat} {a b N : List Mk} (h : joinK a b = N) (hl : a.length + b.length ≤ 40000) (hA : A1 = none → c1 = 0) {w : World} (h1 : At w w.heap.size A1 (kvs a)) (h2 : At w w.heap.size A2 (kvs b)) :
    Calls Try.prog 47 #[.slice A1 a.length c1, .slice A2 b.length c2] w (FreshK N w) := by
  subst h; exact kjoin_c A1 A2 c1 c2 a b hl hA w h1 h2
theorem rkmay_k {A : Option Addr} {cap : Nat} {l : List Mk} {q : Bool} (h : mayK l = q) (hl : l.length ≤ 100000) {w : World} (hc : At w w.heap.size A (kvs l)) :
    Calls Try.prog 41 #[.slice A l.length cap] w fun e w' => e = .returned (.bool q) ∧ Below w.heap.size w w' := by
  subst h; exact rkmay_c A cap l (by unfold maxLen; omega) w hc
theorem below_eq {v x : List Mk} (hv : RanK v ∧ AscK v) (hx : RanK x ∧ AscK x) : decide (joinK v x = x) = belowK v x := by
  cases hb : belowK v x with
  | true =>
    rw [belowK_iff hx.1.pos] at hb
    refine decide_eq_true (extK (joinK_asc hv.2) hx.2 (joinK_pos hv.1.pos) hx.1.pos fun r => ?_)
    rw [getK_join r hx.2 hx.1.pos hv.1.pos]
    have := hb r
    omega
  | false =>
    refine decide_eq_false fun e => ?_
    have : belowK v x = true := by
      rw [belowK_iff hx.1.pos]
      intro r
      have := getK_join (a := v) r hx.2 hx.1.pos hv.1.pos
      rw [e] at this
      omega
    rw [this] at hb; cases hb
theorem join_facts {v x u J : List Mk} (hv : RanK v ∧ AscK v) (hx : RanK x ∧ AscK x) (hu : RanK u ∧ AscK u) (hJ : joinK v x = J) :
    mayK J = true ∧ belowK v J = true ∧ belowK x J = true ∧ joinK x v = J ∧ joinK v v = v ∧ (belowK v u = true → belowK x u = true → belowK J u = true) ∧ joinK v (joinK x u) = joinK J u ∧ decide (J = x) = belowK v x := by
  have hr : RanK J := by rw [← hJ]; exact joinK_ran hv.1 hx.1
  have ha : AscK J := by rw [← hJ]; exact joinK_asc hv.2
  have hg : ∀ r, getK J r = max (getK v r) (getK x r) := fun r => by rw [← hJ]; exact getK_join r hx.2 hx.1.pos hv.1.pos
  refine ⟨mayK_iff.2 ⟨hr, ha⟩, ?_, ?_, ?_, ?_, ?_, ?_, ?_⟩
  · rw [belowK_iff hr.pos]; intro r; rw [hg]; omega
  · rw [belowK_iff hr.pos]; intro r; rw [hg]; omega
  · refine extK (joinK_asc hx.2) ha (joinK_pos hx.1.pos) hr.pos fun r => ?_
    rw [getK_join r hv.2 hv.1.pos hx.1.pos, hg]; omega
  · refine extK (joinK_asc hv.2) hv.2 (joinK_pos hv.1.pos) hv.1.pos fun r => ?_
    rw [getK_join r hv.2 hv.1.pos hv.1.pos]; omega
  · intro h1 h2
    rw [belowK_iff hu.1.pos] at h1 h2 ⊢
    intro r
    have := h1 r
    have := h2 r
    rw [hg]; omega
  · have hxu : RanK (joinK x u) := joinK_ran hx.1 hu.1
    have axu : AscK (joinK x u) := joinK_asc hx.2
    refine extK (joinK_asc hv.2) (joinK_asc ha) (joinK_pos hv.1.pos) (joinK_pos hr.pos) fun r => ?_
    rw [getK_join r axu hxu.pos hv.1.pos, getK_join r hu.2 hu.1.pos hx.1.pos, getK_join r hu.2 hu.1.pos hr.pos, hg]
    omega
  · rw [← hJ]; exact below_eq hv hx
theorem order_facts {a b C : List Mk} {c r : Int} (ha : RanK a ∧ AscK a) (hb : RanK b ∧ AscK b) (hc : 1 ≤ c ∧ c ≤ 4611686018427387903 ∧ 1 ≤ r ∧ r ≤ 255) (hC : raiseK b c r = C) :
    (belowK a b = true → belowK a C = true) ∧ (belowK a b = true → belowK b a = true → a = b) ∧ belowK C b = decide (c ≤ getK b r) ∧ belowK b C = true ∧ getK C r = max (getK b r) c := by
  have hr : RanK C := by rw [← hC]; exact raiseK_ran hb.1 ⟨hc.2.2.1, hc.2.2.2⟩ hc.2.1
  have hg : ∀ q, getK C q = if q = r then max (getK b r) c else getK b q := fun q => by rw [← hC]; exact getK_raise b c r q
  refine ⟨fun h => ?_, fun h1 h2 => ?_, ?_, ?_, ?_⟩
  · rw [belowK_iff hb.1.pos] at h
    rw [belowK_iff hr.pos]
    intro q
    have h1 := h q
    rw [hg]
    split
    · rename_i e; rw [e] at h1 ⊢; omega
    · exact h1
  · rw [belowK_iff hb.1.pos] at h1
    rw [belowK_iff ha.1.pos] at h2
    exact extK ha.2 hb.2 ha.1.pos hb.1.pos fun q => by have := h1 q; have := h2 q; omega
  · by_cases hk : c ≤ getK b r
    · rw [decide_eq_true hk, belowK_iff hb.1.pos]
      intro q
      rw [hg]
      split
      · rename_i e; rw [e]; omega
      · exact Int.le_refl _
    · rw [decide_eq_false hk]
      cases hbb : belowK C b with
      | false => rfl
      | true =>
        rw [belowK_iff hb.1.pos] at hbb
        have := hbb r
        rw [hg, if_pos rfl] at this
        omega
  · rw [belowK_iff hr.pos]
    intro q
    rw [hg]
    split
    · rename_i e; rw [e]; omega
    · exact Int.le_refl _
  · rw [hg, if_pos rfl]
theorem rtime_k {c r : Int} {q : Bool} (h : (decide (1 ≤ c) && (decide (c ≤ 4611686018427387903) && (decide (1 ≤ r) && decide (r ≤ 255)))) = q) (w : World) :
    Calls Try.prog 53 #[.agg #[.int .i64 c, .int .i64 r]] w fun e w' => e = .returned (.bool q) ∧ Below w.heap.size w w' := by
  subst h; exact rtime_c c r w
end Go.Proofs.Ytbhejaokkkggjaa
