/-
  A Tree that keeps its steps: where it lies; New, Rows, Steps, Base, Log.
-/
import Derived.Test.YtnkckoilhhbllaaHd
import Derived.Test.YtnkckoilhhbllaaHf
import Derived.Test.YtnkckoilhhbllaaHg
import Derived.Test.YtnkckoilhhbllaaTe
namespace Go.Proofs.Ytnkckoilhhbllaa
open Go.RowKit Go.IntWalk
set_option maxRecDepth 100000
attribute [local go_sem] Oper.semAt_some

/-- a list's block is not this one -/
def Off (g : Nat) (A : Option Addr) : Prop := ∀ a, A = some a → a.block ≠ g
theorem Off.fresh {g N : Nat} {A : Option Addr} (h : Fresh N A) (hg : g < N) : Off g A := fun a ha => by have := h a ha; omega
theorem madeS (B : Nat) (W : World) (h : B ≤ W.heap.size) : (W.alloc (.cells #[] 51)).ownsRow B 51 12 (.slice (some ⟨W.heap.size, 0, none⟩) 0 0) 0 (pvs []) :=
  World.ownsRow_made (base := B) (e := 51) (size := 12) W #[] 0 h (by unfold maxLen; omega) rfl
theorem own_lt {w : World} {B n cap size : Nat} {e : TypeId} {A : Option Addr} {xs : List Value} (h : w.ownsRow B e size (.slice A n cap) n xs) : ∀ a, A = some a → a.block < w.heap.size := fun a ha => by
  subst ha
  rcases h.2 with ⟨hz, _⟩ | ⟨g, c2, cur, hv, hb, hg, _⟩
  · cases hz
  · cases hv
    exact (Array.getElem?_eq_some_iff.1 hg).1
def FreshS (l : List Sp) (w : World) (e : Ending) (w' : World) : Prop :=
  ∃ A cap, e = .returned (.slice A l.length cap) ∧ w'.ownsRow w.heap.size 51 12 (.slice A l.length cap) l.length (pvs l) ∧ Below w.heap.size w w'
set_option maxHeartbeats 2000000 in
theorem sclone_c (A : Option Addr) (cap : Nat) (l : List Sp) (hl : l.length ≤ 100000) (hA : A = none → cap = 0) (hcap : l.length ≤ cap) (w : World) (hc : At w w.heap.size A (pvs l)) :
    Calls Try.prog 97 #[.slice A l.length cap] w (FreshS l w) := by
  have q22 : ∀ (w : World) (a : Option Addr) (n c n' c' : Nat), (binOp .eql 53 (.slice a n c) (.slice none n' c')).run Try.prog w = .ok (.bool a.isNone) w := fun w a n c n' c' => Lib.run_eql_slice_nil w _ _ a n c n' c' Try.underlying53
  cases A with
  | none =>
    obtain rfl := hA rfl
    have hl0 : l = [] := List.eq_nil_of_length_eq_zero (by omega)
    subst hl0
    go_enter Try.func97, Try.ntmps97
    go_wp2
    go_ret
    exact ⟨none, 0, rfl, World.ownsRow_nil _ _ _ _, Below.refl _ _⟩
  | some a =>
    have hb0 := (Below.refl w.heap.size w).alloc (Nat.le_refl _) (.cells #[] 51)
    have HC2 := Lib.hid (hc.below hb0)
    clear hc
    go_enter Try.func97, Try.ntmps97
    go_wp2_with (at_builtin; refine append_optS _ rfl _ _ rfl w.heap.size _ 0 [] rfl (madeS w.heap.size w (Nat.le_refl _)) (some a) cap l rfl (fun h => by cases h) hcap w.heap.size HC2.out (by omega) (by simp) ?_)
    intro v' w1 hown hgrow
    have hb := below_own hb0 (by simp) (madeS w.heap.size w (Nat.le_refl _)) hgrow
    have hown2 : w1.ownsRow w.heap.size 51 12 v' l.length (pvs l) := by simpa using hown
    obtain ⟨A', cap', rfl, -, -, -⟩ := own_at hown2
    clear hown
    go_wp2_with fail
    go_ret
    exact ⟨A', cap', rfl, hown2, hb⟩

/-- a list that a Tree keeps -/
def Kept (w : World) (g : Nat) (A : Option Addr) (c n : Nat) (xs : List Value) : Prop := At w w.heap.size A xs ∧ (A = none → c = 0) ∧ n ≤ c ∧ Off g A
theorem Kept.keep {w w' : World} {g c n : Nat} {A : Option Addr} {xs : List Value} (h : Kept w g A c n xs) (hb : Below w.heap.size w w') : Kept w' g A c n xs := ⟨h.1.keep hb, h.2⟩
def TreeL (w : World) (g : Nat) (B R : List Rw) (S : List Sp) (A1 : Option Addr) (c1 : Nat) (A2 : Option Addr) (c2 : Nat) (A3 : Option Addr) (c3 : Nat) : Prop :=
  Is w g 110 [.slice A1 B.length c1, .slice A2 R.length c2, .slice A3 S.length c3] ∧ Kept w g A1 c1 B.length (tvs B) ∧ Kept w g A2 c2 R.length (tvs R) ∧ Kept w g A3 c3 S.length (pvs S)
/-- the Tree at g holds the base B, the rows R and the steps S -/
def TreeAt (w : World) (g : Nat) (B R : List Rw) (S : List Sp) : Prop := ∃ A1 c1 A2 c2 A3 c3, TreeL w g B R S A1 c1 A2 c2 A3 c3
theorem TreeAt.keep {w w' : World} {g : Nat} {B R : List Rw} {S : List Sp} (h : TreeAt w g B R S) (hb : Below w.heap.size w w') : TreeAt w' g B R S := by
  obtain ⟨A1, c1, A2, c2, A3, c3, hi, h1, h2, h3⟩ := h
  exact ⟨A1, c1, A2, c2, A3, c3, is_below hi hb (is_lt hi), h1.keep hb, h2.keep hb, h3.keep hb⟩

set_option maxHeartbeats 2000000 in
theorem tnew_c (A : Option Addr) (cap : Nat) (l : List Rw) (hl : l.length ≤ 100000) (hA : A = none → cap = 0) (w : World) (hc : At w w.heap.size A (tvs l)) :
    Calls Try.prog 54 #[.slice A l.length cap] w fun e w' => ∃ g, e = .returned (.pointer (some ⟨g, 0, none⟩)) ∧ w.heap.size ≤ g ∧ TreeAt w' g l l [] ∧ Below w.heap.size w w' := by
  go_enter Try.func54, Try.ntmps54
  go_wp2_with fail
  refine (clone_c A cap l hl hA w hc).mono ?_
  rintro e w1 ⟨A1, c1, rfl, hown, hb1⟩
  go_wp2_with fail
  go_ret
  obtain ⟨A', cap', e, hat, hfr, hcp⟩ := own_at hown
  cases e
  have hoff : Off w1.heap.size A1 := fun a ha => by have := own_lt hown a ha; omega
  have hb2 : Below w1.heap.size w1 (w1.alloc (.cells #[.slice A1 l.length c1, .slice A1 l.length c1, .slice none 0 0] 110)) := (Below.refl _ _).alloc (Nat.le_refl _) _
  have hk : Kept (w1.alloc (.cells #[.slice A1 l.length c1, .slice A1 l.length c1, .slice none 0 0] 110)) w1.heap.size A1 c1 l.length (tvs l) := ⟨hat.keep hb2, own_none hown, hcp, hoff⟩
  exact ⟨w1.heap.size, rfl, hb1.size, ⟨A1, c1, A1, c1, none, 0, is_new w1 110 [.slice A1 l.length c1, .slice A1 l.length c1, .slice none 0 0], hk, hk, ⟨At.nil _ _ _, fun _ => rfl, Nat.le_refl _, fun a ha => by cases ha⟩⟩, hb1.trans (hb2.mono hb1.size)⟩

theorem trows_nil (w : World) : Calls Try.prog 57 #[.pointer none] w fun e w' => e = .returned (.slice none 0 0) ∧ w = w' := by
  go_enter Try.func57, Try.ntmps57
  go_wp2_with fail
  go_ret
  exact ⟨rfl, rfl⟩
theorem tbase_nil (w : World) : Calls Try.prog 62 #[.pointer none] w fun e w' => e = .returned (.slice none 0 0) ∧ w = w' := by
  go_enter Try.func62, Try.ntmps62
  go_wp2_with fail
  go_ret
  exact ⟨rfl, rfl⟩
theorem tsteps_nil (w : World) : Calls Try.prog 60 #[.pointer none] w fun e w' => e = .returned (.slice none 0 0) ∧ w = w' := by
  go_enter Try.func60, Try.ntmps60
  go_wp2_with fail
  go_ret
  exact ⟨rfl, rfl⟩
theorem tlog_nil (w : World) : Calls Try.prog 59 #[.pointer none] w fun e w' => e = .returned (.slice none 0 0) ∧ w = w' := by
  go_enter Try.func59, Try.ntmps59
  go_wp2_with fail
  go_ret
  exact ⟨rfl, rfl⟩

theorem is3 {w : World} {g : Nat} {t : TypeId} {a b c : Value} (h : Is w g t [a, b, c]) : w.cell? ⟨g, 0, none⟩ = some a ∧ w.cell? ⟨g, 1, none⟩ = some b ∧ w.cell? ⟨g, 2, none⟩ = some c := ⟨is_cell h 0, is_cell h 1, is_cell h 2⟩
set_option maxHeartbeats 2000000 in
theorem trows_c {g : Nat} {B R : List Rw} {S : List Sp} (hl : R.length ≤ 100000) (w : World) (h : TreeAt w g B R S) :
    Calls Try.prog 57 #[.pointer (some ⟨g, 0, none⟩)] w (Fresh_ R w) := by
  obtain ⟨A1, c1, A2, c2, A3, c3, hi, h1, h2, h3⟩ := h
  obtain ⟨g0, g1, g2⟩ := is3 hi
  have H2 := Lib.hid h2
  clear hi h1 h2 h3 g0 g2
  go_enter Try.func57, Try.ntmps57
  go_wp2_with fail
  refine (clone_c A2 c2 R hl H2.out.2.1 w H2.out.1).mono ?_
  rintro e w1 ⟨A', cap', rfl, hown, hb1⟩
  go_wp2_with fail
  go_ret
  exact ⟨A', cap', rfl, hown, hb1⟩
set_option maxHeartbeats 2000000 in
theorem tbase_c {g : Nat} {B R : List Rw} {S : List Sp} (hl : B.length ≤ 100000) (w : World) (h : TreeAt w g B R S) :
    Calls Try.prog 62 #[.pointer (some ⟨g, 0, none⟩)] w (Fresh_ B w) := by
  obtain ⟨A1, c1, A2, c2, A3, c3, hi, h1, h2, h3⟩ := h
  obtain ⟨g0, g1, g2⟩ := is3 hi
  have H2 := Lib.hid h1
  clear hi h1 h2 h3 g1 g2
  go_enter Try.func62, Try.ntmps62
  go_wp2_with fail
  refine (clone_c A1 c1 B hl H2.out.2.1 w H2.out.1).mono ?_
  rintro e w1 ⟨A', cap', rfl, hown, hb1⟩
  go_wp2_with fail
  go_ret
  exact ⟨A', cap', rfl, hown, hb1⟩
set_option maxHeartbeats 2000000 in
theorem tsteps_c {g : Nat} {B R : List Rw} {S : List Sp} (hl : S.length ≤ 100000) (w : World) (h : TreeAt w g B R S) :
    Calls Try.prog 60 #[.pointer (some ⟨g, 0, none⟩)] w (FreshS S w) := by
  obtain ⟨A1, c1, A2, c2, A3, c3, hi, h1, h2, h3⟩ := h
  obtain ⟨g0, g1, g2⟩ := is3 hi
  have H2 := Lib.hid h3
  clear hi h1 h2 h3 g0 g1
  go_enter Try.func60, Try.ntmps60
  go_wp2_with fail
  refine (sclone_c A3 c3 S hl H2.out.2.1 H2.out.2.2.1 w H2.out.1).mono ?_
  rintro e w1 ⟨A', cap', rfl, hown, hb1⟩
  go_wp2_with fail
  go_ret
  exact ⟨A', cap', rfl, hown, hb1⟩
set_option maxHeartbeats 2000000 in
theorem tlog_c {g : Nat} {B R : List Rw} {S : List Sp} (hl : S.length ≤ 100000) (w : World) (h : TreeAt w g B R S) :
    Calls Try.prog 59 #[.pointer (some ⟨g, 0, none⟩)] w (FreshM (S.map sm) w) := by
  obtain ⟨A1, c1, A2, c2, A3, c3, hi, h1, h2, h3⟩ := h
  obtain ⟨g0, g1, g2⟩ := is3 hi
  have H2 := Lib.hid h3
  clear hi h1 h2 h3 g0 g1
  go_enter Try.func59, Try.ntmps59
  go_wp2_with fail
  refine (umoves_c A3 c3 S hl w H2.out.1).mono ?_
  rintro e w1 ⟨A', cap', rfl, hown, hb1⟩
  go_wp2_with fail
  go_ret
  exact ⟨A', cap', by rw [List.length_map]; rfl, hown, hb1⟩
end Go.Proofs.Ytnkckoilhhbllaa
