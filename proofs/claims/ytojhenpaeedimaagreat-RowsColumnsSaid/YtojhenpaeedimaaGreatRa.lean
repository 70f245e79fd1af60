/-
 A range over a function whose iterator turns memory of its own between two rounds (a Reader's block): the contract names what the iterator may turn ('Ab'), and the caller's invariant abides just that.
-/
import Derived.Test.YtojhenpaeedimaaGreatBc
import Derived.RangeFuncNested
import Derived.RangeFuncBound
import Derived.RangeFuncCalls
import Derived.RangeFuncLeaves
import Derived.Shelf.Abstract
import Derived.Shelf.RegionOpen
import Derived.OwnWalkIn
import Derived.TacticsInMore
import Derived.LoopNIn
import Derived.LoopIn
import Derived.Maps.AppendAt
namespace Go.Proofs.YtojhenpaeedimaaGreat
open Go.RowKit
set_option maxRecDepth 100000
variable {F : Fence} {n : Nat} {P : Program}
/-- an iterator's contract: J abides what the iterator itself turns; Kp is what a round that goes on keeps -/
def SeqQ {α : Type} (F : Fence) (n : Nat) (P : Program) (g : Nat) (lb : Array Value) (encs : α → Array Value) (Kp Ab : World → World → Prop) (S Sp : List α → World → Prop) (N : Nat) (w : World) : Prop :=
 ∀ (l : Nat) (J Jx : List α → World → Prop) (W : World), Below w.heap.size w W → (∀ s A B, J s A → Ab A B → J s B) → (∀ s A B, Jx s A → Ab A B → Jx s B) →
  (∀ pre x W1, J pre W1 → pre.length < N → YieldAt F (n - 1) P l (encs x) W1 fun e W' =>
   (e = .returned (.bool true) ∧ J (pre ++ [x]) W' ∧ Kp W1 W') ∨ (e = .returned (.bool false) ∧ Jx (pre ++ [x]) W')) →
  J [] W →
  CallsIn F n P g (#[.func (.yield l) #[] #[]] ++ lb) W fun e W' => (∃ v, e = .returned v) ∧ ((∃ xs, S xs W' ∧ J xs W') ∨ (∃ pre, Sp pre W' ∧ Jx pre W'))
/-- the two blocks of book-keeping -/
def Book (B : Nat) (r : Loop) (W : World) : Prop := W.heap[B + 1]? = some (.loop r) ∧ W.heap[B]? = some (.deferred (some []))
theorem Book.put {B : Nat} {r : Loop} {W : World} (h : Book B r W) (r' : Loop) : Book B r' (W.putObj (B + 1) (.loop r')) :=
 ⟨World.putObj_heap_same (Array.getElem?_eq_some_iff.1 h.1).1, (World.putObj_heap_other (by omega)).trans h.2⟩
theorem Book.kept {B : Nat} {r : Loop} {W W' : World} (h : Book B r W) (hk : KeepsFrom B W W') : Book B r W' :=
 ⟨hk.same _ _ (by omega) h.1 rfl, hk.same _ _ (Nat.le_refl _) h.2 rfl⟩
theorem rangeQ {α : Type} {g : Operand} {ps : Array Tmp} {assign body : Code} {Q : Exit → Act → World → Prop} {a : Act} {w : World}
  (hro : F.round = none) (h1 : 1 ≤ n) {gf : Nat} {lb : Array Value} (hg : a.eval g = .func (.func gf) #[] lb) (hFg : F.fn gf) (eg : ∀ args w, (callFunc gf args).run P w = .ok (.enter gf args) w)
  {encs : α → Array Value} {Kp Ab : World → World → Prop} {S Sp : List α → World → Prop} {N : Nat} {w0 : World} (hseq : SeqQ F (n - 1) P gf lb encs Kp Ab S Sp N w0)
  (hKt : ∀ {A B C : World}, Kp A B → Kp B C → Kp A C) (hKb : ∀ (W : World) (l : Nat) (o o' : Obj), w.heap.size ≤ l → W.heap[l]? = some o → o.isCells = false → o.isWalk = false → Kp W (W.putObj l o')) (hb0 : Below w0.heap.size w0 w) (hps : ∀ x, (encs x).size = ps.size)
  (hAb : ∀ A B, Ab A B → ∀ k o, w.heap.size ≤ k → A.heap[k]? = some o → o.isCells = false → B.heap[k]? = some o)
  (hSo : OwnFrom w.heap.size S) (hSpo : OwnFrom w.heap.size Sp)
  (I : List α → World → Prop) (Ix : Code → List α → World → Prop) (hI : OwnFrom w.heap.size I) (hIx : ∀ c, OwnFrom w.heap.size (Ix c))
  (hIA : ∀ s A B, I s A → Ab A B → I s B) (hIxA : ∀ c s A B, Ix c s A → Ab A B → Ix c s B) (h0 : I [] w) (a₁ : α → Act)
  (hassign : ∀ (l : Nat) (x : α) (W : World) (K : Act → World → Prop), K (a₁ x) W →
   assign.wpIn (F.inRound l) (n - 1 - 1) P (Exit.then K (fun _ _ _ => False)) { tmps := (ps.zip (encs x)).foldl (fun t (p, v) => t.setIfInBounds p v) a.tmps, defers := [] } W)
  (hbody : ∀ (l : Nat) (pre : List α) (x : α) (W : World), I pre W → pre.length < N → body.wpIn (F.inRound l) (n - 1 - 1) P (ownPostG w.heap.size Kp I Ix (pre ++ [x]) W) (a₁ x) W)
  (hdone : ∀ (D : Nat) (xs : List α) (W : World), w.heap.size ≤ D → S xs W → I xs W → W.heap[D]? = some (.deferred (some [])) → Q .normal { a with defers := { target := .collected D, args := #[] } :: a.defers } W)
  (hstop : ∀ (D : Nat) (c : Code) (pre : List α) (W : World), w.heap.size ≤ D → Sp pre W → Ix c pre W → W.heap[D]? = some (.deferred (some [])) → c.wpIn F n P Q { a with defers := { target := .collected D, args := #[] } :: a.defers } W) :
  (Code.rangeFunc g ps assign body).wpIn F n P Q a w := by
 refine wpIn_rangeFunc fun fn hfn => ?_
 rw [hro]
 obtain ⟨rec, hrec⟩ : ∃ rec : LoopState → Option Code → Loop, rec = fun st pe => { state := st, pending := pe, fn, tmps := a.tmps, params := ps, assign, body, defers := w.heap.size } := ⟨_, rfl⟩
 obtain ⟨W1, hW1⟩ : ∃ W1, (w.alloc (.deferred (some []))).alloc (.loop (rec .ready none)) = W1 := ⟨_, rfl⟩
 have hB1 : Book w.heap.size (rec .ready none) W1 := by
  subst hW1
  refine ⟨?_, (Below.heap_alloc _ _ _ (by simp)).trans (World.alloc_heap_new w _)⟩
  have := World.alloc_heap_new (w.alloc (.deferred (some []))) (.loop (rec .ready none))
  rwa [World.size_alloc] at this
 have hI1 : I [] W1 := by subst hW1; exact hI.alloc _ (hI.alloc _ h0)
 have hb1 : Below w0.heap.size w0 W1 := by
  subst hW1; exact hb0.trans ((((Below.refl _ w).alloc (Nat.le_refl _) _).alloc (by simp) _).mono hb0.size)
 -- a turn of the record
 have turn : ∀ {J : List α → World → Prop}, OwnFrom w.heap.size J → ∀ {s : List α} {W : World} {r : Loop} (r' : Loop), J s W → Book w.heap.size r W → J s (W.putObj (w.heap.size + 1) (.loop r')) :=
  fun hJ _ _ _ r' hs hb => hJ.putObj _ hs (by omega) hb.1 rfl
 have bookA : ∀ {A B : World} {r : Loop}, Book w.heap.size r A → Ab A B → Book w.heap.size r B :=
  fun hb hab => ⟨hAb _ _ hab _ _ (by omega) hb.1 rfl, hAb _ _ hab _ _ (Nat.le_refl _) hb.2 rfl⟩
 have keepT : ∀ {W : World} {r : Loop} (r' : Loop), Book w.heap.size r W → Kp W (W.putObj (w.heap.size + 1) (.loop r')) := fun r' hb => hKb _ _ _ _ (by omega) hb.1 rfl rfl
 refine ⟨w.heap.size + 1, [{ target := .collected w.heap.size, args := #[] }], W1, { target := .fn (.func gf) lb, args := #[.func (.yield (w.heap.size + 1)) #[] #[]] }, W1, gf,
  #[.func (.yield (w.heap.size + 1)) #[] #[]] ++ lb, W1, by rw [← hW1, hrec]; exact run_enterLoop_outer _ _ _ _ _, by simp only [resolve, hg]; simp [go_sem], ?_, by simp [invoke, go_sem, eg], fun _ => h1, ?_⟩
 ·intro f' hf'; simp [Target.leads] at hf'; subst hf'; exact hFg
 refine (hseq (w.heap.size + 1) (fun pre W => I pre W ∧ Book w.heap.size (rec .ready none) W) (fun pre W => ∃ c, Ix c pre W ∧ Book w.heap.size (rec .done (some c)) W) W1 hb1
  (fun s A B hs hab => ⟨hIA s A B hs.1 hab, bookA hs.2 hab⟩)
  (fun s A B hs hab => by obtain ⟨c, hc, hb⟩ := hs; exact ⟨c, hIxA c s A B hc hab, bookA hb hab⟩) ?_ ⟨hI1, hB1⟩).mono ?_
 ·rintro pre x W ⟨hi, hb⟩ hlen
  have hy := run_yield (P := P) (args := encs x) hb.1 (by rw [hrec]; exact hps x)
  rw [hrec] at hy
  refine ⟨fn, _, assign, body, hy, roundIn_of_wpIn hfn (hassign _ x W _ ⟨_, run_beginRound hb.1 (by rw [hrec]), ?_⟩)⟩
  have hb2 := hb.put { rec .ready none with state := .busy }
  have ends : ∀ (jump : Option Code) (W3 : World), KeepsFrom w.heap.size (W.putObj (w.heap.size + 1) (.loop { rec .ready none with state := .busy })) W3 →
    (Instr.endRound (w.heap.size + 1) jump).run P W3 = .ok (.bool jump.isNone) (W3.putObj (w.heap.size + 1) (.loop (rec (if jump.isNone then .ready else .done) jump))) ∧ Book w.heap.size { rec .ready none with state := .busy } W3 := fun jump W3 hk3 => by
   have hb3 := hb2.kept hk3
   have := run_endRound (P := P) jump hb3.1
   rw [hrec] at this ⊢
   exact ⟨this, by rw [hrec] at hb3; exact hb3⟩
  refine wpIn_mono (hbody _ pre x _ (turn hI _ hi hb) hlen) ?_
  have jump : ∀ (c : Code) (W3 : World), KeepsFrom w.heap.size (W.putObj (w.heap.size + 1) (.loop { rec .ready none with state := .busy })) W3 ∧ Ix c (pre ++ [x]) W3 → ∃ v w', (Instr.endRound (w.heap.size + 1) (some c)).run P W3 = .ok v w' ∧
    ((Ending.returned v = .returned (.bool true) ∧ (I (pre ++ [x]) w' ∧ Book w.heap.size (rec .ready none) w') ∧ Kp W w') ∨ (Ending.returned v = .returned (.bool false) ∧ ∃ c, Ix c (pre ++ [x]) w' ∧ Book w.heap.size (rec .done (some c)) w')) := fun c W3 ⟨hk3, hi3⟩ => by
   obtain ⟨hr, hb3⟩ := ends (some c) W3 hk3
   exact ⟨_, _, hr, .inr ⟨rfl, c, turn (hIx c) _ hi3 hb3, hb3.put _⟩⟩
  rintro e a3 W3 hp
  cases e with
  | normal =>
   obtain ⟨hk3, hkp3, hi3⟩ := hp
   obtain ⟨hr, hb3⟩ := ends none W3 hk3
   exact ⟨_, _, hr, .inl ⟨rfl, ⟨turn hI _ hi3 hb3, hb3.put _⟩, hKt (hKt (keepT _ hb) hkp3) (keepT _ hb3)⟩⟩
  | ret => exact jump .ret W3 hp
  | exit id => exact jump (.exit id) W3 hp
  | goto t => exact jump (.goto t) W3 hp
  | panic ch => exact hp.elim
  | outgrown => exact hp.elim
 ·rintro e W2 ⟨⟨v, rfl⟩, (⟨xs, hS, hi, hb⟩ | ⟨pre, hSp, c, hi, hb⟩)⟩
  ·exact ⟨none, _, by have := run_endLoop (P := P) hb.1 (by rw [hrec]; simp); rw [hrec] at this; exact this, hdone _ xs _ (Nat.le_refl _) (turn hSo _ hS hb) (turn hI _ hi hb) (hb.put _).2⟩
  ·exact ⟨some c, _, by have := run_endLoop (P := P) hb.1 (by rw [hrec]; simp); rw [hrec] at this; exact this, hstop _ c pre _ (Nat.le_refl _) (turn hSpo _ hSp hb) (turn (hIx c) _ hi hb) (hb.put _).2⟩
end Go.Proofs.YtojhenpaeedimaaGreat
