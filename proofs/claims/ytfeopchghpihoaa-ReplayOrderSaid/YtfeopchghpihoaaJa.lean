/-
  A Tree that keeps its steps: where it lies; New, Rows, Steps, Base, Log.
  redo: what a Tree has done from a place on is undone, and what a list of moves has from there is done.
-/
import Derived.Test.YtfeopchghpihoaaHd
import Derived.Test.YtfeopchghpihoaaHf
import Derived.Test.YtfeopchghpihoaaHg
import Derived.Test.YtfeopchghpihoaaTe
import Derived.Test.YtfeopchghpihoaaHa
import Derived.Test.YtfeopchghpihoaaHc
import Derived.Test.YtfeopchghpihoaaSe
import Derived.Scope
import Derived.WalkMore
import Derived.ScopeJumps
section
namespace Go.Proofs.Ytfeopchghpihoaa
open Go.RowKit Go.IntWalk
set_option maxRecDepth 100000
attribute [local go_sem] Oper.semAt_some

/-- a list's block is not this one -/
def Off (g : Nat) (A : Option Addr) : Prop := ∀ a, A = some a → a.block ≠ g
theorem Off.fresh {g N : Nat} {A : Option Addr} (h : Fresh N A) (hg : g < N) : Off g A := fun a ha => by have := h a ha; omega
theorem madeS (B : Nat) (W : World) (h : B ≤ W.heap.size) : (W.alloc (.cells #[] 64)).ownsRow B 64 12 (.slice (some ⟨W.heap.size, 0, none⟩) 0 0) 0 (pvs []) :=
  World.ownsRow_made (base := B) (e := 64) (size := 12) W #[] 0 h (by unfold maxLen; omega) rfl
theorem own_lt {w : World} {B n cap size : Nat} {e : TypeId} {A : Option Addr} {xs : List Value} (h : w.ownsRow B e size (.slice A n cap) n xs) : ∀ a, A = some a → a.block < w.heap.size := fun a ha => by
  subst ha
  rcases h.2 with ⟨hz, _⟩ | ⟨g, c2, cur, hv, hb, hg, _⟩
  · cases hz
  · cases hv
    exact (Array.getElem?_eq_some_iff.1 hg).1
def FreshS (l : List Sp) (w : World) (e : Ending) (w' : World) : Prop :=
  ∃ A cap, e = .returned (.slice A l.length cap) ∧ w'.ownsRow w.heap.size 64 12 (.slice A l.length cap) l.length (pvs l) ∧ Below w.heap.size w w'
set_option maxHeartbeats 2000000 in
theorem sclone_c (A : Option Addr) (cap : Nat) (l : List Sp) (hl : l.length ≤ 100000) (hA : A = none → cap = 0) (hcap : l.length ≤ cap) (w : World) (hc : At w w.heap.size A (pvs l)) :
    Calls Try.prog 42 #[.slice A l.length cap] w (FreshS l w) := by
  have q22 : ∀ (w : World) (a : Option Addr) (n c n' c' : Nat), (binOp .eql 44 (.slice a n c) (.slice none n' c')).run Try.prog w = .ok (.bool a.isNone) w := fun w a n c n' c' => Lib.run_eql_slice_nil w _ _ a n c n' c' Try.underlying44
  cases A with
  | none =>
    obtain rfl := hA rfl
    have hl0 : l = [] := List.eq_nil_of_length_eq_zero (by omega)
    subst hl0
    go_enter Try.func42, Try.ntmps42
    go_wp2
    go_ret
    exact ⟨none, 0, rfl, World.ownsRow_nil _ _ _ _, Below.refl _ _⟩
  | some a =>
    have hb0 := (Below.refl w.heap.size w).alloc (Nat.le_refl _) (.cells #[] 64)
    have HC2 := Lib.hid (hc.below hb0)
    clear hc
    go_enter Try.func42, Try.ntmps42
    go_wp2_with (at_builtin; refine append_optS _ rfl _ _ rfl w.heap.size _ 0 [] rfl (madeS w.heap.size w (Nat.le_refl _)) (some a) cap l rfl (fun h => by cases h) hcap w.heap.size HC2.out (by omega) (by simp) ?_)
    intro v' w1 hown hgrow
    have hb := below_own hb0 (by simp) (madeS w.heap.size w (Nat.le_refl _)) hgrow
    have hown2 : w1.ownsRow w.heap.size 64 12 v' l.length (pvs l) := by simpa using hown
    obtain ⟨A', cap', rfl, -, -, -⟩ := own_at hown2
    clear hown
    go_wp2_with fail
    go_ret
    exact ⟨A', cap', rfl, hown2, hb⟩

/-- a list that a Tree keeps -/
def Kept (w : World) (g : Nat) (A : Option Addr) (c n : Nat) (xs : List Value) : Prop := At w w.heap.size A xs ∧ (A = none → c = 0) ∧ n ≤ c ∧ Off g A
theorem Kept.keep {w w' : World} {g c n : Nat} {A : Option Addr} {xs : List Value} (h : Kept w g A c n xs) (hb : Below w.heap.size w w') : Kept w' g A c n xs := ⟨h.1.keep hb, h.2⟩
def TreeL (w : World) (g : Nat) (B R : List Rw) (S : List Sp) (A1 : Option Addr) (c1 : Nat) (A2 : Option Addr) (c2 : Nat) (A3 : Option Addr) (c3 : Nat) : Prop :=
  Is w g 67 [.slice A1 B.length c1, .slice A2 R.length c2, .slice A3 S.length c3] ∧ Kept w g A1 c1 B.length (tvs B) ∧ Kept w g A2 c2 R.length (tvs R) ∧ Kept w g A3 c3 S.length (pvs S)
/-- the Tree at g holds the base B, the rows R and the steps S -/
def TreeAt (w : World) (g : Nat) (B R : List Rw) (S : List Sp) : Prop := ∃ A1 c1 A2 c2 A3 c3, TreeL w g B R S A1 c1 A2 c2 A3 c3
theorem TreeAt.keep {w w' : World} {g : Nat} {B R : List Rw} {S : List Sp} (h : TreeAt w g B R S) (hb : Below w.heap.size w w') : TreeAt w' g B R S := by
  obtain ⟨A1, c1, A2, c2, A3, c3, hi, h1, h2, h3⟩ := h
  exact ⟨A1, c1, A2, c2, A3, c3, is_below hi hb (is_lt hi), h1.keep hb, h2.keep hb, h3.keep hb⟩

set_option maxHeartbeats 2000000 in
theorem tnew_c (A : Option Addr) (cap : Nat) (l : List Rw) (hl : l.length ≤ 100000) (hA : A = none → cap = 0) (w : World) (hc : At w w.heap.size A (tvs l)) :
    Calls Try.prog 11 #[.slice A l.length cap] w fun e w' => ∃ g, e = .returned (.pointer (some ⟨g, 0, none⟩)) ∧ w.heap.size ≤ g ∧ TreeAt w' g l l [] ∧ Below w.heap.size w w' := by
  go_enter Try.func11, Try.ntmps11
  go_wp2_with fail
  refine (clone_c A cap l hl hA w hc).mono ?_
  rintro e w1 ⟨A1, c1, rfl, hown, hb1⟩
  go_wp2_with fail
  go_ret
  obtain ⟨A', cap', e, hat, hfr, hcp⟩ := own_at hown
  cases e
  have hoff : Off w1.heap.size A1 := fun a ha => by have := own_lt hown a ha; omega
  have hb2 : Below w1.heap.size w1 (w1.alloc (.cells #[.slice A1 l.length c1, .slice A1 l.length c1, .slice none 0 0] 67)) := (Below.refl _ _).alloc (Nat.le_refl _) _
  have hk : Kept (w1.alloc (.cells #[.slice A1 l.length c1, .slice A1 l.length c1, .slice none 0 0] 67)) w1.heap.size A1 c1 l.length (tvs l) := ⟨hat.keep hb2, own_none hown, hcp, hoff⟩
  exact ⟨w1.heap.size, rfl, hb1.size, ⟨A1, c1, A1, c1, none, 0, is_new w1 67 [.slice A1 l.length c1, .slice A1 l.length c1, .slice none 0 0], hk, hk, ⟨At.nil _ _ _, fun _ => rfl, Nat.le_refl _, fun a ha => by cases ha⟩⟩, hb1.trans (hb2.mono hb1.size)⟩

theorem trows_nil (w : World) : Calls Try.prog 15 #[.pointer none] w fun e w' => e = .returned (.slice none 0 0) ∧ w = w' := by
  go_enter Try.func15, Try.ntmps15
  go_wp2_with fail
  go_ret
  exact ⟨rfl, rfl⟩
theorem tbase_nil (w : World) : Calls Try.prog 22 #[.pointer none] w fun e w' => e = .returned (.slice none 0 0) ∧ w = w' := by
  go_enter Try.func22, Try.ntmps22
  go_wp2_with fail
  go_ret
  exact ⟨rfl, rfl⟩
theorem tsteps_nil (w : World) : Calls Try.prog 20 #[.pointer none] w fun e w' => e = .returned (.slice none 0 0) ∧ w = w' := by
  go_enter Try.func20, Try.ntmps20
  go_wp2_with fail
  go_ret
  exact ⟨rfl, rfl⟩
theorem tlog_nil (w : World) : Calls Try.prog 18 #[.pointer none] w fun e w' => e = .returned (.slice none 0 0) ∧ w = w' := by
  go_enter Try.func18, Try.ntmps18
  go_wp2_with fail
  go_ret
  exact ⟨rfl, rfl⟩

theorem is3 {w : World} {g : Nat} {t : TypeId} {a b c : Value} (h : Is w g t [a, b, c]) : w.cell? ⟨g, 0, none⟩ = some a ∧ w.cell? ⟨g, 1, none⟩ = some b ∧ w.cell? ⟨g, 2, none⟩ = some c := ⟨is_cell h 0, is_cell h 1, is_cell h 2⟩
set_option maxHeartbeats 2000000 in
theorem trows_c {g : Nat} {B R : List Rw} {S : List Sp} (hl : R.length ≤ 100000) (w : World) (h : TreeAt w g B R S) :
    Calls Try.prog 15 #[.pointer (some ⟨g, 0, none⟩)] w (Fresh_ R w) := by
  obtain ⟨A1, c1, A2, c2, A3, c3, hi, h1, h2, h3⟩ := h
  obtain ⟨g0, g1, g2⟩ := is3 hi
  have H2 := Lib.hid h2
  clear hi h1 h2 h3 g0 g2
  go_enter Try.func15, Try.ntmps15
  go_wp2_with fail
  refine (clone_c A2 c2 R hl H2.out.2.1 w H2.out.1).mono ?_
  rintro e w1 ⟨A', cap', rfl, hown, hb1⟩
  go_wp2_with fail
  go_ret
  exact ⟨A', cap', rfl, hown, hb1⟩
set_option maxHeartbeats 2000000 in
theorem tbase_c {g : Nat} {B R : List Rw} {S : List Sp} (hl : B.length ≤ 100000) (w : World) (h : TreeAt w g B R S) :
    Calls Try.prog 22 #[.pointer (some ⟨g, 0, none⟩)] w (Fresh_ B w) := by
  obtain ⟨A1, c1, A2, c2, A3, c3, hi, h1, h2, h3⟩ := h
  obtain ⟨g0, g1, g2⟩ := is3 hi
  have H2 := Lib.hid h1
  clear hi h1 h2 h3 g1 g2
  go_enter Try.func22, Try.ntmps22
  go_wp2_with fail
  refine (clone_c A1 c1 B hl H2.out.2.1 w H2.out.1).mono ?_
  rintro e w1 ⟨A', cap', rfl, hown, hb1⟩
  go_wp2_with fail
  go_ret
  exact ⟨A', cap', rfl, hown, hb1⟩
set_option maxHeartbeats 2000000 in
theorem tsteps_c {g : Nat} {B R : List Rw} {S : List Sp} (hl : S.length ≤ 100000) (w : World) (h : TreeAt w g B R S) :
    Calls Try.prog 20 #[.pointer (some ⟨g, 0, none⟩)] w (FreshS S w) := by
  obtain ⟨A1, c1, A2, c2, A3, c3, hi, h1, h2, h3⟩ := h
  obtain ⟨g0, g1, g2⟩ := is3 hi
  have H2 := Lib.hid h3
  clear hi h1 h2 h3 g0 g1
  go_enter Try.func20, Try.ntmps20
  go_wp2_with fail
  refine (sclone_c A3 c3 S hl H2.out.2.1 H2.out.2.2.1 w H2.out.1).mono ?_
  rintro e w1 ⟨A', cap', rfl, hown, hb1⟩
  go_wp2_with fail
  go_ret
  exact ⟨A', cap', rfl, hown, hb1⟩
set_option maxHeartbeats 2000000 in
theorem tlog_c {g : Nat} {B R : List Rw} {S : List Sp} (hl : S.length ≤ 100000) (w : World) (h : TreeAt w g B R S) :
    Calls Try.prog 18 #[.pointer (some ⟨g, 0, none⟩)] w (FreshM (S.map sm) w) := by
  obtain ⟨A1, c1, A2, c2, A3, c3, hi, h1, h2, h3⟩ := h
  obtain ⟨g0, g1, g2⟩ := is3 hi
  have H2 := Lib.hid h3
  clear hi h1 h2 h3 g0 g1
  go_enter Try.func18, Try.ntmps18
  go_wp2_with fail
  refine (umoves_c A3 c3 S hl w H2.out.1).mono ?_
  rintro e w1 ⟨A', cap', rfl, hown, hb1⟩
  go_wp2_with fail
  go_ret
  exact ⟨A', cap', by rw [List.length_map]; rfl, hown, hb1⟩
end Go.Proofs.Ytfeopchghpihoaa
end

section
namespace Go.Proofs.Ytfeopchghpihoaa
open Go.RowKit Go.IntWalk
set_option maxRecDepth 100000
attribute [local go_sem] Oper.semAt_some

/-- by a goto to label l: J l -/
def jumpsE (J : Nat → Act → World → Prop) (Q : Exit → Act → World → Prop) : Exit → Act → World → Prop
  | .goto l, a, w => J l a w
  | e, a, w => Q e a w
theorem scope_jumps {P : Program} {a : Act} {w : World} {Q : Exit → Act → World → Prop} {c : Code} (rest : Nat → Code) (J : Nat → Act → World → Prop) (μ : Nat → Act → World → Nat) (hf : ∀ l a w, J l a w → findLabel c l = some (rest l))
    (first : c.wp P (jumpsE J Q) a w)
    (pass : ∀ l a w, J l a w → (rest l).wp P (jumpsE (fun l' a' w' => J l' a' w' ∧ μ l' a' w' < μ l a w) Q) a w) : (Code.scope c).wp P Q a w := by
  intro b k cs
  have hg : ∀ l a w, J l a w → gotoIn l (.inScope c :: k) = some (.code (rest l) :: .inScope c :: k) := fun l a w h => by simp [gotoIn, hf l a w h]
  have key : ∀ n l a w, μ l a w = n → J l a w → ∃ e a' w', Q e a' w' ∧ Arrives P (lone (b.at a (.code (rest l) :: .inScope c :: k)) cs w) b k cs e a' w' := by
    intro n
    induction n using Nat.strongRecOn with
    | _ n ih =>
      intro l a w hn hJ
      obtain ⟨e, a₁, w₁, hq, harr⟩ := pass l a w hJ b (.inScope c :: k) cs
      cases e with
      | normal => exact ⟨.normal, a₁, w₁, hq, Steps.trans harr (.one step_inScope)⟩
      | exit id => exact ⟨.exit id, a₁, w₁, hq, fun k' hk => harr k' (by simp [exitTo, hk])⟩
      | goto l' =>
        obtain ⟨hJ', hlt⟩ := hq
        obtain ⟨e₂, a₂, w₂, hq₂, harr₂⟩ := ih _ (by omega) l' a₁ w₁ rfl hJ'
        exact ⟨e₂, a₂, w₂, hq₂, .of_steps (harr _ (hg l' a₁ w₁ hJ')) harr₂⟩
      | ret => exact ⟨_, a₁, w₁, hq, harr⟩
      | panic ch => exact ⟨_, a₁, w₁, hq, harr⟩
      | outgrown => exact ⟨_, a₁, w₁, hq, harr⟩
  obtain ⟨e, a₁, w₁, hq, harr⟩ := first b (.inScope c :: k) cs
  cases e with
  | normal => exact ⟨.normal, a₁, w₁, hq, .head step_scope (Steps.trans harr (.one step_inScope))⟩
  | exit id => exact ⟨.exit id, a₁, w₁, hq, fun k' hk => .head step_scope (harr k' (by simp [exitTo, hk]))⟩
  | goto l' =>
    obtain ⟨e₂, a₂, w₂, hq₂, harr₂⟩ := key _ l' a₁ w₁ rfl hq
    exact ⟨e₂, a₂, w₂, hq₂, .of_steps (.head step_scope (harr _ (hg l' a₁ w₁ hq))) harr₂⟩
  | ret => exact ⟨_, a₁, w₁, hq, .of_steps (.one step_scope) harr⟩
  | panic ch => exact ⟨_, a₁, w₁, hq, .of_steps (.one step_scope) harr⟩
  | outgrown => exact ⟨_, a₁, w₁, hq, .of_steps (.one step_scope) harr⟩

/-- two labels -/
theorem scope_jumps2 {P : Program} {a : Act} {w : World} {Q : Exit → Act → World → Prop} {c r0 r1 : Code} (J : Nat → Act → World → Prop) (μ : Nat → Act → World → Nat) (h0 : findLabel c 0 = some r0) (h1 : findLabel c 1 = some r1) (hJ : ∀ l a w, J l a w → l = 0 ∨ l = 1)
    (first : c.wp P (jumpsE J Q) a w)
    (pass0 : ∀ a w, J 0 a w → r0.wp P (jumpsE (fun l' a' w' => J l' a' w' ∧ μ l' a' w' < μ 0 a w) Q) a w)
    (pass1 : ∀ a w, J 1 a w → r1.wp P (jumpsE (fun l' a' w' => J l' a' w' ∧ μ l' a' w' < μ 1 a w) Q) a w) : (Code.scope c).wp P Q a w := by
  refine scope_jumps (fun l => if l = 0 then r0 else r1) J μ (fun l a w h => ?_) first (fun l a w h => ?_)
  · rcases hJ l a w h with rfl | rfl
    · exact h0
    · exact h1
  · rcases hJ l a w h with rfl | rfl
    · exact pass0 a w h
    · exact pass1 a w h

theorem scope_two {P : Program} {a : Act} {w : World} {Q : Exit → Act → World → Prop} {x y z r : Code} (J : Nat → Act → World → Prop) (μ : Nat → Act → World → Nat)
    (h0 : findLabel (x.seq ((Code.label 0).seq (y.seq (z.seq ((Code.label 1).seq r))))) 0 = some (Code.skip.seq (y.seq (z.seq ((Code.label 1).seq r))))) (h1 : findLabel (x.seq ((Code.label 0).seq (y.seq (z.seq ((Code.label 1).seq r))))) 1 = some (Code.skip.seq r)) (hJ : ∀ l a w, J l a w → l = 0 ∨ l = 1)
    (first : x.wp P (Exit.then (J 0) (fun _ _ _ => False)) a w)
    (pass0 : ∀ (T : Code) a w, J 0 a w → (∀ a' w', J 1 a' w' → μ 1 a' w' < μ 0 a w → T.wp P (jumpsE (fun l' a' w' => J l' a' w' ∧ μ l' a' w' < μ 0 a w) Q) a' w') → (y.seq (z.seq T)).wp P (jumpsE (fun l' a' w' => J l' a' w' ∧ μ l' a' w' < μ 0 a w) Q) a w)
    (pass1 : ∀ a w, J 1 a w → r.wp P (jumpsE (fun l' a' w' => J l' a' w' ∧ μ l' a' w' < μ 1 a w) Q) a w) : (Code.scope (x.seq ((Code.label 0).seq (y.seq (z.seq ((Code.label 1).seq r)))))).wp P Q a w := by
  have q0 : ∀ a w, J 0 a w → (y.seq (z.seq ((Code.label 1).seq r))).wp P (jumpsE (fun l' a' w' => J l' a' w' ∧ μ l' a' w' < μ 0 a w) Q) a w := fun a w h =>
    pass0 _ a w h fun a' w' h' hlt => wp_seq (wp_label (wp_mono (pass1 a' w' h') fun e a2 w2 h2 => by
      cases e with
      | goto l => exact ⟨h2.1, Nat.lt_trans h2.2 hlt⟩
      | _ => exact h2))
  refine scope_jumps2 J μ h0 h1 hJ (wp_seq (wp_mono first fun e a2 w2 h2 => ?_)) (fun a w h => wp_seq (wp_skip (q0 a w h))) (fun a w h => wp_seq (wp_skip (pass1 a w h)))
  cases e with
  | normal =>
    exact wp_seq (wp_label (wp_mono (q0 a2 w2 h2) fun e a3 w3 h3 => by
      cases e with
      | goto l => exact h3.1
      | _ => exact h3))
  | _ => exact h2.elim

/-- of what was there only one block has turned -/
structure But (g : Nat) (w w' : World) : Prop where
  os : w'.os = w.os
  tape : w'.tape = w.tape
  output : w'.output = w.output
  size : w.heap.size ≤ w'.heap.size
  block : ∀ k, k < w.heap.size → k ≠ g → w'.heap[k]? = w.heap[k]?
theorem But.below {g B : Nat} {w w' : World} (h : But g w w') (hB : B ≤ w.heap.size) (hg : B ≤ g) : Below B w w' := ⟨h.os, h.tape, h.output, h.size, fun k hk => h.block k (by omega) (by omega)⟩
theorem But.trans {g : Nat} {a b c : World} (h : But g a b) (k : But g b c) : But g a c := ⟨k.os.trans h.os, k.tape.trans h.tape, k.output.trans h.output, Nat.le_trans h.size k.size, fun i hi hg => (k.block i (Nat.lt_of_lt_of_le hi h.size) hg).trans (h.block i hi hg)⟩
theorem but_below {w w' : World} (g : Nat) (h : Below w.heap.size w w') : But g w w' := ⟨h.os, h.tape, h.output, h.size, fun k hk _ => h.block k hk⟩
theorem But.set {g i : Nat} {a w : World} (h : But g a w) (u : Value) : But g a (w.setCell ⟨g, i, none⟩ u) := ⟨h.os, h.tape, h.output, by simp [World.setCell]; exact h.size, fun k hk hg => (Below.heap_setCell _ _ _ _ hg).trans (h.block k hk hg)⟩
theorem at_but {g : Nat} {w w' : World} {A : Option Addr} {xs : List Value} (h : At w w.heap.size A xs) (hb : But g w w') (ho : Off g A) : At w' w'.heap.size A xs := fun i v hv => by
  obtain ⟨b, off, hA, hlt, hc⟩ := h i v hv
  exact ⟨b, off, hA, Nat.lt_of_lt_of_le hlt hb.size, (cell_same (hb.block b hlt (ho _ hA)) _).trans hc⟩
theorem Kept.but {g c n : Nat} {w w' : World} {A : Option Addr} {xs : List Value} (h : Kept w g A c n xs) (hb : But g w w') : Kept w' g A c n xs := ⟨at_but h.1 hb h.2.2.2, h.2⟩
def lit69 (f : Nat → Value) : Array Value := #[f 0, f 1, f 2, f 3, f 4, f 5, f 6, f 7, f 8, f 9, f 10, f 11, f 12, f 13, f 14, f 15, f 16, f 17, f 18, f 19, f 20, f 21, f 22, f 23, f 24, f 25, f 26, f 27, f 28, f 29, f 30, f 31, f 32, f 33, f 34, f 35, f 36, f 37, f 38, f 39, f 40, f 41, f 42, f 43, f 44, f 45, f 46, f 47, f 48, f 49, f 50, f 51, f 52, f 53, f 54, f 55, f 56, f 57, f 58, f 59, f 60, f 61, f 62, f 63, f 64, f 65, f 66, f 67, f 68]

def Back (w : World) (g : Nat) (lg : Value) (p : Nat) (B : List Rw) (ms : List Mv) (a : Act) (w' : World) : Prop :=
  ∃ (d : Nat) (A' : Option Addr) (c' : Nat), a = { tmps := lit69 (fun i => a.tmps.getD i undef), defers := [] } ∧ a.tmps.getD 0 undef = .pointer (some ⟨g, 0, none⟩) ∧ a.tmps.getD 1 undef = lg ∧ a.tmps.getD 2 undef = .int .i64 (p : Int) ∧ a.tmps.getD 6 undef = .slice A' (allP B (ms.take d)).length c' ∧ a.tmps.getD 7 undef = .int .i64 (d : Int) ∧
    p ≤ d ∧ d ≤ ms.length ∧ Kept w' g A' c' (allP B (ms.take d)).length (tvs (allP B (ms.take d))) ∧ Below w.heap.size w w'
theorem Back.get {w : World} {g : Nat} {lg : Value} {p : Nat} {B : List Rw} {ms : List Mv} {a : Act} {w' : World} (h : Back w g lg p B ms a w') :
  ∃ (f : Nat → Value) (d : Nat) (A' : Option Addr) (c' : Nat), a = { tmps := lit69 f, defers := [] } ∧ f 0 = .pointer (some ⟨g, 0, none⟩) ∧ f 1 = lg ∧ f 2 = .int .i64 (p : Int) ∧ f 6 = .slice A' (allP B (ms.take d)).length c' ∧ f 7 = .int .i64 (d : Int) ∧
    p ≤ d ∧ d ≤ ms.length ∧ Kept w' g A' c' (allP B (ms.take d)).length (tvs (allP B (ms.take d))) ∧ Below w.heap.size w w' := by
  obtain ⟨d, A', c', h⟩ := h
  exact ⟨fun i => a.tmps.getD i undef, d, A', c', h⟩
def Again (w : World) (g : Nat) (lg : Value) (B : List Rw) (L : List Mv) (a : Act) (w' : World) : Prop :=
  ∃ (d : Nat) (A' : Option Addr) (c' : Nat) (A8 : Option Addr) (c8 b8 : Nat), a = { tmps := lit69 (fun i => a.tmps.getD i undef), defers := [] } ∧ a.tmps.getD 0 undef = .pointer (some ⟨g, 0, none⟩) ∧ a.tmps.getD 1 undef = lg ∧ a.tmps.getD 6 undef = .slice A' (allP B (L.take d)).length c' ∧ a.tmps.getD 7 undef = .int .i64 (d : Int) ∧ a.tmps.getD 8 undef = .slice A8 d c8 ∧
    d ≤ L.length ∧ Kept w' g A' c' (allP B (L.take d)).length (tvs (allP B (L.take d))) ∧ w.heap.size ≤ b8 ∧ b8 ≤ w'.heap.size ∧ w'.ownsRow b8 64 12 (.slice A8 d c8) d (pvs (stepsP B (L.take d))) ∧ (At w' b8 A' (tvs (allP B (L.take d))) ∨ Rowy 0 A' w') ∧ Below w.heap.size w w'
theorem Again.get {w : World} {g : Nat} {lg : Value} {B : List Rw} {L : List Mv} {a : Act} {w' : World} (h : Again w g lg B L a w') :
  ∃ (f : Nat → Value) (d : Nat) (A' : Option Addr) (c' : Nat) (A8 : Option Addr) (c8 b8 : Nat), a = { tmps := lit69 f, defers := [] } ∧ f 0 = .pointer (some ⟨g, 0, none⟩) ∧ f 1 = lg ∧ f 6 = .slice A' (allP B (L.take d)).length c' ∧ f 7 = .int .i64 (d : Int) ∧ f 8 = .slice A8 d c8 ∧
    d ≤ L.length ∧ Kept w' g A' c' (allP B (L.take d)).length (tvs (allP B (L.take d))) ∧ w.heap.size ≤ b8 ∧ b8 ≤ w'.heap.size ∧ w'.ownsRow b8 64 12 (.slice A8 d c8) d (pvs (stepsP B (L.take d))) ∧ (At w' b8 A' (tvs (allP B (L.take d))) ∨ Rowy 0 A' w') ∧ Below w.heap.size w w' := by
  obtain ⟨d, A', c', A8, c8, b8, h⟩ := h
  exact ⟨fun i => a.tmps.getD i undef, d, A', c', A8, c8, b8, h⟩
theorem at_grownT {w1 w2 : World} {A1 : Option Addr} {l1 : List Rw} {b8 n : Nat} {v : Value} {xs : List Value} (h1 : At w1 w1.heap.size A1 (tvs l1)) (hd : At w1 b8 A1 (tvs l1) ∨ Rowy 0 A1 w1)
    (hown : w1.ownsRow b8 64 12 v n xs) (hg : w1.grownBy w2 v.ownBlock) : At w2 w2.heap.size A1 (tvs l1) ∧ (At w2 b8 A1 (tvs l1) ∨ Rowy 0 A1 w2) := by
  have hne : ∀ b, (∃ cs p, w1.heap[b]? = some (.cells cs 59 p)) ∨ b < b8 → some b ≠ v.ownBlock := fun b hb' he => by
    rcases hb' with ⟨cs, p, h⟩ | h
    · rcases hown.2 with ⟨hz, _⟩ | ⟨g, c2, cur, hv, _, hg2, _⟩
      · rw [hz] at he; simp [Value.ownBlock] at he
      · rw [hv] at he
        have : b = g := by simpa [Value.ownBlock] using he
        subst this
        rw [h] at hg2
        simp at hg2
    · have := (hown.lt b he.symm).1
      omega
  rcases hd with hd | hd
  · have key : ∀ N, b8 ≤ N → At w2 N A1 (tvs l1) := fun N hN i u hu => by
      obtain ⟨b, off, hA, hlt, hcell⟩ := hd i u hu
      obtain ⟨b', off', hA', hlt', _⟩ := h1 i u hu
      rw [hA] at hA'
      cases hA'
      exact ⟨b, off, hA, Nat.lt_of_lt_of_le hlt hN, (cell_same (hg.block b hlt' (hne b (.inr hlt))) _).trans hcell⟩
    refine ⟨fun i u hu => ?_, .inl (key b8 (Nat.le_refl _))⟩
    obtain ⟨b', off', hA', hlt', _⟩ := h1 i u hu
    obtain ⟨b, off, hA, hlt, hcell⟩ := key b8 (Nat.le_refl _) i u hu
    rw [hA'] at hA
    cases hA
    exact ⟨_, _, hA', Nat.lt_of_lt_of_le hlt' hg.size, hcell⟩
  · refine ⟨fun i u hu => ?_, .inr fun a ha => ?_⟩
    · obtain ⟨b, off, hA, hlt, hcell⟩ := h1 i u hu
      exact ⟨b, off, hA, Nat.lt_of_lt_of_le hlt hg.size, (cell_same (hg.block b hlt (hne b (.inl (hd _ hA).2))) _).trans hcell⟩
    · obtain ⟨h1', cs, p, h2⟩ := hd a ha
      exact ⟨h1', cs, p, (hg.block _ (Array.getElem?_eq_some_iff.1 h2).1 (hne _ (.inl ⟨cs, p, h2⟩))).trans h2⟩
theorem at_boxS (w : World) (o : Obj) (s : Sp) : At ((w.alloc o).alloc (.cells #[.int .i64 (mc (sm s)), .int .i64 (mr (sm s)), .int .i64 (pa (mw (sm s))), .int .i64 (ch (mw (sm s))), .string (ba (nm (mw (sm s)))), .float .f64 (rk (mw (sm s))), .bool (sd s), .bool (sh s), .int .i64 (ch (so s)), .int .i64 (pa (so s)), .string (ba (nm (so s))), .float .f64 (rk (so s))] 64)) (w.heap.size + 2) (some ⟨w.heap.size + 1, 0, none⟩) (pvs [s]) := fun i v hv => by
  have h := is_newA w 64 (pvs [s]) o
  refine ⟨_, 0, rfl, by omega, ?_⟩
  rw [Nat.zero_add]
  exact (is_cell h i).trans hv
def jR (w : World) (g : Nat) (lg : Value) (p : Nat) (B : List Rw) (ms L : List Mv) (l : Nat) (a : Act) (w' : World) : Prop := (l = 0 ∧ Back w g lg p B ms a w') ∨ (l = 1 ∧ Again w g lg B L a w')
def mR (n : Nat) (l : Nat) (a : Act) (_ : World) : Nat := if l = 0 then n + 1 + (intOf (a.tmps.getD 7 undef)).toNat else n - (intOf (a.tmps.getD 7 undef)).toNat

set_option maxHeartbeats 8000000 in
theorem redo_c {g : Nat} (A : Option Addr) (cap p : Nat) (B : List Rw) (ms L : List Mv) (hB : B.length ≤ 10000) (hml : ms.length ≤ 10000) (hLl : L.length ≤ 10000) (hp1 : p ≤ ms.length) (hp2 : p ≤ L.length) (htk : L.take p = ms.take p)
    (w : World) (ht : TreeAt w g B (allP B ms) (stepsP B ms)) (hc : At w w.heap.size A (mvs L)) :
    Calls Try.prog 36 #[.pointer (some ⟨g, 0, none⟩), .slice A L.length cap, .int .i64 (p : Int)] w fun e w' => e = .returned (.tuple #[]) ∧ TreeAt w' g B (allP B L) (stepsP B L) ∧ But g w w' := by
  obtain ⟨A1, c1, A2, c2, A3, c3, hi, h1, h2, h3⟩ := ht
  obtain ⟨g0, g1, g2⟩ := is3 hi
  have HI := Lib.hid hi
  have H1 := Lib.hid h1
  have H2 := Lib.hid h2
  have H3 := Lib.hid h3
  have HC := Lib.hid hc
  have HTK := Lib.hid htk
  clear hi h1 h2 h3 hc htk
  go_enter Try.func36, Try.ntmps36
  refine scope_two (jR w g (.slice A L.length cap) p B ms L) (mR L.length) rfl rfl (fun l a w' h => h.imp And.left And.left) ?_ ?_ ?_
  case refine_3 =>
    rintro a w' (⟨h, -⟩ | ⟨-, h⟩)
    · cases h
    obtain ⟨f, d, A', c', A8, c8, b8, rfl, f0, f1, f6, f7, f8, hd, hkp, hb8, hb8w, hown, hrw, hbw⟩ := h.get
    unfold lit69
    rw [f0, f1, f6, f7, f8]
    dsimp only
    have hbs := hbw.size
    have HBW := Lib.hid hbw
    have HK := Lib.hid hkp
    have HOWN := Lib.hid hown
    have HRW := Lib.hid hrw
    have hd0 : (0 : Int) ≤ (d : Int) := by omega
    have hxl : (allP B (L.take d)).length ≤ 20000 := by have := allP_len B (L.take d); rw [List.length_take] at this; omega
    clear hbw hkp hown hrw f0 f1 f6 f7 f8
    by_cases hlt : d < L.length
    · obtain ⟨m, hm⟩ := some_at hlt
      obtain ⟨b0, o0, rfl, -, e0, e1, e2, e3, e4, e5⟩ := move_cells (HC.out.keep HBW.out) hm
      have hdl : (d : Int) < (L.length : Int) := by omega
      have HST := Lib.hid (allP_take (l := B) hm)
      have HSP := Lib.hid (stepsP_take (l := B) hm)
      have hk := HK.out
      have hown := HOWN.out
      have hrw := HRW.out
      obtain ⟨X, hX⟩ : ∃ X, allP B (L.take d) = X := ⟨_, rfl⟩
      rw [hX] at HST HSP hk hrw hxl ⊢
      obtain ⟨S, hS⟩ : ∃ S, stepsP B (L.take d) = S := ⟨_, rfl⟩
      rw [hS] at HSP hown
      obtain ⟨s, hs⟩ : ∃ s, stepP X m = s := ⟨_, rfl⟩
      rw [hs] at HSP
      have HS := Lib.hid hs
      have HK2 := Lib.hid hk
      have HO2 := Lib.hid hown
      have HRW2 := Lib.hid hrw
      clear HK HOWN HRW hX hS hk hown hrw hm hs
      go_wp2_with fail
      show Calls _ _ #[_, mv m] _ _
      refine (mudo_c A' c' X m (by omega) HK2.out.2.1 HK2.out.2.2.1 (fun a b W h => above_any (by omega) A' c' a b W h) _ HK2.out.1).mono ?_
      rintro e w3 ⟨A4, c4, rfl, p3, n3, k3, hb3, hd3⟩
      rw [HS.out]
      rw [show pv s = .agg #[.int .i64 (mc (sm s)), .int .i64 (mr (sm s)), .int .i64 (pa (mw (sm s))), .int .i64 (ch (mw (sm s))), .string (ba (nm (mw (sm s)))), .float .f64 (rk (mw (sm s))), .bool (sd s), .bool (sh s), .int .i64 (ch (so s)), .int .i64 (pa (so s)), .string (ba (nm (so s))), .float .f64 (rk (so s))] from rfl]
      obtain ⟨w4, hw4⟩ : ∃ w4, w4 = (w3.alloc (.cells #[.int .i64 (mc (sm s)), .int .i64 (mr (sm s)), .int .i64 (pa (mw (sm s))), .int .i64 (ch (mw (sm s))), .string (ba (nm (mw (sm s)))), .float .f64 (rk (mw (sm s))), .bool (sd s), .bool (sh s), .int .i64 (ch (so s)), .int .i64 (pa (so s)), .string (ba (nm (so s))), .float .f64 (rk (so s))] 64)).alloc (.cells #[.int .i64 (mc (sm s)), .int .i64 (mr (sm s)), .int .i64 (pa (mw (sm s))), .int .i64 (ch (mw (sm s))), .string (ba (nm (mw (sm s)))), .float .f64 (rk (mw (sm s))), .bool (sd s), .bool (sh s), .int .i64 (ch (so s)), .int .i64 (pa (so s)), .string (ba (nm (so s))), .float .f64 (rk (so s))] 64) := ⟨_, rfl⟩
      have hb34 : Below w3.heap.size w3 w4 := by rw [hw4]; exact ((Below.refl _ _).alloc (Nat.le_refl _) _).alloc (by simp) _
      have hb4 := hb3.trans (hb34.mono hb3.size)
      have hown4 := below_ownI HO2.out hb4
      have hat4 := p3.keep hb34
      have hrw4 : At w4 b8 A4 (tvs (doP X m)) ∨ Rowy 0 A4 w4 := by
        rcases hd3 with ⟨rfl, h2⟩ | h
        · rcases HRW2.out with h3 | h3
          · left
            rw [h2]
            intro i u hu
            obtain ⟨bb, off, hA, hlt', hcell⟩ := h3 i u hu
            obtain ⟨b', off', hA', hlt2, _⟩ := HK2.out.1 i u hu
            rw [hA] at hA'
            cases hA'
            exact ⟨bb, off, hA, hlt', (cell_same (hb4.block bb hlt2) _).trans hcell⟩
          · exact .inr (h3.keep hb4)
        · exact .inr ((h.low (Nat.zero_le _)).keep hb34)
      have hoff4 : Off g A4 := by
        rcases hd3 with ⟨rfl, -⟩ | h
        · exact HK2.out.2.2.2
        · exact Off.fresh h.fresh (Nat.lt_of_lt_of_le (is_lt HI.out) HBW.out.size)
      have HAT4 := Lib.hid hat4
      have HRW4 := Lib.hid hrw4
      have HOFF4 := Lib.hid hoff4
      have HN3 := Lib.hid n3
      have HO4 := Lib.hid hown4
      have hbw4 := HBW.out.trans (hb4.mono HBW.out.size)
      have HBW4 := Lib.hid hbw4
      have HBX4 := Lib.hid (at_boxS w3 (.cells #[.int .i64 (mc (sm s)), .int .i64 (mr (sm s)), .int .i64 (pa (mw (sm s))), .int .i64 (ch (mw (sm s))), .string (ba (nm (mw (sm s)))), .float .f64 (rk (mw (sm s))), .bool (sd s), .bool (sh s), .int .i64 (ch (so s)), .int .i64 (pa (so s)), .string (ba (nm (so s))), .float .f64 (rk (so s))] 64) s)
      rw [← hw4] at HBX4
      have hbs4 : b8 ≤ w4.heap.size := by
        have h1 := hb4.size
        omega
      have HW4 := Lib.hid hw4
      clear hb3 hb34 hb4 hown4 hat4 hrw4 hoff4 hbw4 n3 p3 hd3 e0 e1 e2 e3 e4 e5 hw4
      go_wp2_with (at_builtin; rw [← HW4.out]; refine append_optS w4 rfl _ _ rfl b8 _ d S rfl HO4.out (some ⟨w3.heap.size + 1, 0, none⟩) 1 [s] rfl (fun h => by cases h) (by simp) (w3.heap.size + 2) HBX4.out (by simp <;> omega) hbs4 ?_)
      intro v5 w5 hown5 hgrow5
      have hb5 := below_own (HBW4.out.mono (Nat.le_refl _)) (Nat.le_trans hb8 hbs4) (ownsRow_low HO4.out hb8) hgrow5
      have hat5 := at_grownT HAT4.out HRW4.out HO4.out hgrow5
      have hs5 := hgrow5.size
      have HAT5 := Lib.hid hat5
      have HBW5 := Lib.hid hb5
      have hown6 : w5.ownsRow b8 64 12 v5 (d + 1) (pvs (S ++ [s])) := by simpa using hown5
      obtain ⟨A9, c9, rfl, -, -, -⟩ := own_at hown6
      have HO5 := Lib.hid hown6
      clear hown5 hgrow5 hb5 hat5 hown6
      go_wp2_with fail
      go_step3
      refine ⟨Or.inr ⟨rfl, d + 1, A4, c4, A9, c9, b8, rfl, rfl, rfl, by rw [HST.out]; rfl, by show Value.int _ _ = _; go_num, rfl, by omega, by rw [HST.out]; exact ⟨HAT5.out.1, HN3.out, by assumption, HOFF4.out⟩, hb8, by omega, by rw [HSP.out]; exact HO5.out, by rw [HST.out]; exact HAT5.out.2, HBW5.out⟩, ?_⟩
      show L.length - (intOf (Value.int .i64 _)).toNat < L.length - (intOf (Value.int .i64 (d : Int))).toNat
      simp only [intOf]
      omega
    · obtain rfl : d = L.length := by omega
      have hdl : ¬ (L.length : Int) < (L.length : Int) := by omega
      have hk := HK.out
      have hown := HOWN.out
      rw [List.take_length] at hk hown hxl ⊢
      have HK2 := Lib.hid hk
      have HO2 := Lib.hid hown
      have HI2 := Lib.hid (is_below HI.out HBW.out (is_lt HI.out))
      have H12 := Lib.hid (H1.out.keep HBW.out)
      have HS1 := Lib.hid (is_set HI2.out 1 (.slice A' (allP B L).length c'))
      have HS2 := Lib.hid (is_set HS1.out 2 (.slice A8 L.length c8))
      have HBT := Lib.hid (((but_below g HBW.out).set (i := 1) (.slice A' (allP B L).length c')).set (i := 2) (.slice A8 L.length c8))
      have HBU := Lib.hid (((but_below g (Below.refl w'.heap.size w')).set (i := 1) (.slice A' (allP B L).length c')).set (i := 2) (.slice A8 L.length c8))
      obtain ⟨g0, g1, g2⟩ := is3 HI2.out
      have k2 := (is3 HS1.out).2.2
      have fz1 := is_free HI2.out 1
      have fz2 := is_free HS1.out 2
      clear hk hown HK HOWN g0
      go_wp2_with fail
      simp only [jumpsE]
      go_end0
      obtain ⟨Ay, cy, ey, haty, hfry, hcpy⟩ := own_at HO2.out
      cases ey
      refine ⟨rfl, ⟨A1, c1, A', c', A8, c8, (by rw [stepsP_len]; exact HS2.out), H12.out.but HBU.out, HK2.out.but HBU.out, ?_⟩, HBT.out⟩
      have hoff8 : Off g A8 := Off.fresh hfry (Nat.lt_of_lt_of_le (is_lt HI.out) hb8)
      have hl8 : (stepsP B L).length = L.length := stepsP_len B L
      exact ⟨at_but haty HBU.out hoff8, own_none HO2.out, by omega, hoff8⟩
  case refine_1 =>
    go_wp2_with fail
    go_region
    all_goals
      refine Or.inl ⟨rfl, ms.length, A2, c2, rfl, rfl, rfl, rfl, by rw [List.take_length]; rfl, by rw [← stepsP_len B ms]; rfl, hp1, Nat.le_refl _, ?_, (Below.refl _ _).drew⟩
      rw [List.take_length]
      exact H2.out.keep (Below.refl _ _).drew
  case refine_2 =>
    rintro T a w' (⟨-, h⟩ | ⟨h, -⟩) hT
    rotate_left
    · cases h
    obtain ⟨f, d, A', c', rfl, f0, f1, f2, f6, f7, hpd, hdm, hkp, hbw⟩ := h.get
    unfold lit69 at hT ⊢
    rw [f0, f1, f2, f6, f7] at hT ⊢
    dsimp only at hT ⊢
    have hbs := hbw.size
    have HBW := Lib.hid hbw
    have HK := Lib.hid hkp
    have HT := Lib.hid hT
    have hd0 : (0 : Int) ≤ (d : Int) := by omega
    have hxl : (allP B (ms.take d)).length ≤ 20000 := by have := allP_len B (ms.take d); rw [List.length_take] at this; omega
    have HI2 := Lib.hid (is_below HI.out HBW.out (is_lt HI.out))
    obtain ⟨g0, g1, g2⟩ := is3 HI2.out
    clear hbw hkp f0 f1 f2 f6 f7 g0 g1 h hT
    by_cases hlt : p < d
    · obtain ⟨j, rfl⟩ : ∃ j, d = j + 1 := ⟨d - 1, by omega⟩
      have hgt : ((j + 1 : Nat) : Int) > (p : Int) := by omega
      obtain ⟨m, hm⟩ := some_at (show j < ms.length by omega)
      have hsj : (stepsP B ms)[j]? = some (stepP (allP B (ms.take j)) m) := by
        have h1 : ((stepsP B ms).take (j + 1))[j]? = (stepsP B (ms.take (j + 1)))[j]? := by rw [stepsP_taken]
        rw [List.getElem?_take_of_lt (by omega)] at h1
        rw [h1, stepsP_take hm, List.getElem?_append_right (by rw [stepsP_len, List.length_take]; omega), stepsP_len, List.length_take, Nat.min_eq_left (by omega), Nat.sub_self]
        rfl
      have HUN := Lib.hid (show undoP (allP B (ms.take (j + 1))) (stepP (allP B (ms.take j)) m) = allP B (ms.take j) by rw [allP_take hm, undo_do])
      obtain ⟨s, hs⟩ : ∃ s, stepP (allP B (ms.take j)) m = s := ⟨_, rfl⟩
      rw [hs] at hsj HUN
      have hst := (H3.out.keep HBW.out).1
      have hj0 : (0 : Int) ≤ (j : Int) := by omega
      have hjs : (j : Int) < ((stepsP B ms).length : Int) := by rw [stepsP_len]; omega
      obtain ⟨b0, o0, rfl, -, s0, s1, s2, s3, s4, s5, s6, s7, s8, s9, s10, s11⟩ := step_cells hst hsj
      clear hs hsj hst hm
      go_wp2_with fail
      refine (mundo_f A' c' (allP B (ms.take (j + 1))) s (by omega) HK.out.2.1 HK.out.2.2.1 _ HK.out.1).mono ?_
      rw [HUN.out]
      rintro e w3 ⟨A4, c4, rfl, p3, n3, k3, hb3, hd3⟩
      have hoff4 : Off g A4 := by
        rcases hd3 with ⟨rfl, -⟩ | h
        · exact HK.out.2.2.2
        · exact Off.fresh h (Nat.lt_of_lt_of_le (is_lt HI.out) HBW.out.size)
      have HK4 := Lib.hid (show Kept w3 g A4 c4 (allP B (ms.take j)).length (tvs (allP B (ms.take j))) from ⟨p3, n3, k3, hoff4⟩)
      have HBW3 := Lib.hid (HBW.out.trans (hb3.mono HBW.out.size))
      clear hd3 hb3 p3 n3 k3 hoff4 s0 s1 s2 s3 s4 s5 s6 s7 s8 s9 s10 s11
      go_wp2_with fail
      go_step3
      refine ⟨Or.inl ⟨rfl, j, A4, c4, rfl, rfl, rfl, rfl, rfl, rfl, by omega, by omega, HK4.out, HBW3.out⟩, ?_⟩
      show L.length + 1 + (intOf (Value.int .i64 (j : Int))).toNat < L.length + 1 + (intOf (Value.int .i64 ((j + 1 : Nat) : Int))).toNat
      simp only [intOf]
      omega
    · obtain rfl : d = p := by omega
      have hgt : ¬ (d : Int) > (d : Int) := by omega
      have hlen : ((stepsP B ms).take d).length = d := by rw [List.length_take, stepsP_len]; omega
      have hk3 := H3.out.keep HBW.out
      have hc3 : d ≤ c3 := by have := hk3.2.2.1; rw [stepsP_len] at this; omega
      have hcl : Calls Try.prog 42 #[.slice A3 d c3] w' fun e W' => ∃ A8 c8, e = .returned (.slice A8 d c8) ∧ W'.ownsRow w'.heap.size 64 12 (.slice A8 d c8) d (pvs (stepsP B (ms.take d))) ∧ Below w'.heap.size w' W' := by
        have := sclone_c A3 c3 ((stepsP B ms).take d) (by omega) hk3.2.1 (by omega) w' (by rw [pvs_take]; exact hk3.1.take _)
        unfold FreshS at this
        rw [hlen, stepsP_taken] at this
        exact this
      have HCL := Lib.hid hcl
      have hcc : (d : Int) ≤ (c3 : Int) := by omega
      have hcs : (d : Int) ≤ ((stepsP B ms).length : Int) := by rw [stepsP_len]; omega
      clear hcl hk3 hlen
      go_wp2_with fail
      refine HCL.out.mono ?_
      rintro e w3 ⟨A8, c8, rfl, hown8, hb3⟩
      have HO8 := Lib.hid hown8
      have HB3 := Lib.hid hb3
      clear hown8 hb3
      go_wp2_with fail
      refine HT.out _ _ (Or.inr ⟨rfl, d, A', c', A8, c8, w'.heap.size, rfl, rfl, rfl, by rw [HTK.out]; rfl, rfl, rfl, hp2, by rw [HTK.out]; exact HK.out.keep HB3.out, hbs, HB3.out.size, by rw [HTK.out]; exact HO8.out, ?_, HBW.out.trans (HB3.out.mono HBW.out.size)⟩) ?_
      · left
        rw [HTK.out]
        intro i v hv
        obtain ⟨bb, off, hA, hlt2, hcell⟩ := HK.out.1 i v hv
        exact ⟨bb, off, hA, hlt2, (cell_same (HB3.out.block bb hlt2) _).trans hcell⟩
      · show L.length - (intOf (Value.int .i64 (d : Int))).toNat < L.length + 1 + (intOf (Value.int .i64 (d : Int))).toNat
        simp only [intOf]
        omega
end Go.Proofs.Ytfeopchghpihoaa
end
