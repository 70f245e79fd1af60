/-
  A tree, of which moves make a tree; its nodes in a map: plain.
-/
import Derived.Test.YtnkckoilhhbllaaQc
import Derived.Test.YtnkckoilhhbllaaGa
import Derived.Maps.OwnSet
namespace Go.Proofs.Ytnkckoilhhbllaa
open Go.RowKit Go.IntWalk Go.Maps
open Gr
set_option maxRecDepth 100000

theorem one_row {m : Mv} (h : oneM m = true) : oneP (mw m) = true := by
  unfold oneM at h
  simp only [Bool.and_eq_true] at h
  exact h.2.2.2.2
theorem do_tree {L : List Rw} {m : Mv} (h : Tree L) (hm : oneM m = true) (hl : L.length < 2000) : Tree (doP L m) := by
  unfold doP
  cases hb : barP L m with
  | true => exact h
  | false =>
    unfold barP at hb
    simp only [Bool.or_eq_false_iff, decide_eq_false_iff_not] at hb
    rw [if_neg Bool.false_ne_true]
    refine set_tree h (one_row hm) hl (fun e => hb.1.1 e.symm) fun hab => ?_
    rw [← abv_ab, hb.2] at hab
    cases hab
theorem mem_fnd {l : List Rw} {x : Int} : x ∈ l.map ch ↔ ¬ fnd l x = none := by
  rw [fnd_none, List.mem_map]
  constructor
  · rintro ⟨r, hr, rfl⟩ h
    exact h r hr rfl
  · intro h
    by_cases hx : ∃ r ∈ l, ch r = x
    · exact hx
    · exact absurd (fun r hr e => hx ⟨r, hr, e⟩) h
theorem mem_set {l : List Rw} {r : Rw} {x : Int} : x ∈ (setP l r).map ch ↔ x = ch r ∨ x ∈ l.map ch := by
  rw [mem_fnd, setP_fnd, mem_fnd]
  by_cases h : x = ch r
  · rw [if_pos h]; simp [h]
  · rw [if_neg h]; simp [h]
theorem kok_same {D : DataW Unit} {S S' : List Int} (h : Kok D S) (hs : ∀ x, x ∈ S ↔ x ∈ S') : Kok D S' := fun x => by rw [h x]; exact decide_eq_decide.2 (hs x)
theorem size_of {D : DataW Unit} {R : Value → Option (DataW Unit × List MemPlace)} {w : World} {b n : Nat} {S : List Int} (hown : w.ownsMap Try.prog 3 R b n D) (hk : Kok D S) (hS : S.Nodup) : Maps.size D = S.length := by
  obtain ⟨h1, h2⟩ := ikeys hown
  have h3 : ∀ x, x ∈ intKeys D ↔ x ∈ S := fun x => by rw [h2, hk x, decide_eq_true_iff]
  have h4 : Maps.size D = (intKeys D).length := by
    obtain ⟨es, hD, _⟩ := hown.keysOf
    subst hD
    show es.length = (es.map _).length
    rw [List.length_map]
  rw [h4]
  exact Nat.le_antisymm (nodup_len h1 fun x hx => (h3 x).1 hx) (nodup_len hS fun x hx => (h3 x).2 hx)
theorem asc_nodup : ∀ {l : List Rw}, AscR l → (l.map ch).Nodup := fun {l} h => by
  unfold AscR at h
  rw [List.Nodup, List.pairwise_map]
  exact h.imp fun {a b} hab => by omega
/-- the map has just the keys of S, and says true of each -/
def Bok (D : DataW Unit) (S : List Int) : Prop := Kok D S ∧ ∀ x ∈ S, ∀ u, D.atKey (.int .i64 x) u = .lit (.bool true)
theorem bok_nil : Bok (.map []) [] := ⟨kok_nil, fun x hx => by cases hx⟩
theorem Bok.same {D : DataW Unit} {S S' : List Int} (h : Bok D S) (hs : ∀ x, x ∈ S ↔ x ∈ S') : Bok D S' := ⟨kok_same h.1 hs, fun x hx => h.2 x ((hs x).2 hx)⟩
theorem bok_put {D : DataW Unit} {S : List Int} {x : Int} (hm : IsMap D) (h : Bok D S) : Bok (D.put (.int .i64 x) (.lit (.bool true))) (S ++ [x]) := by
  refine ⟨kok_put hm h.1, fun y hy u => ?_⟩
  by_cases e : y = x
  · subst e
    exact atKey_put_same hm (show WideAt.IsKeyLit (Lit.int .i64 y) from trivial) _ _
  · rw [atKey_put_other (by simpa using e)]
    rcases List.mem_append.1 hy with hy | hy
    · exact h.2 y hy u
    · simp at hy; exact absurd hy e
theorem put_b {w : World} {b n : Nat} {D : DataW Unit} {S : List Int} {x : Int} (hown : w.ownsMap Try.prog 3 RB b n D) (hS : Bok D S) (hn : n < 100000) (hx : In64 x) :
    ∃ w' D', (Instr.mapUpdate 41 (.map (some b)) (.int .i64 x) (.bool true)).run Try.prog w = .ok () w' ∧ w'.ownsMap Try.prog 3 RB b (n + 1) D' ∧ Bok D' (S ++ [x]) ∧ w.grownBy w' (some b) := by
  obtain ⟨w', hrun, hown', hg⟩ := hown.update keyed_int Try.underlying41 (by unfold maxLen; omega) (key_int hx) rb_true
  exact ⟨w', _, hrun, hown', bok_put hown.isMap hS, hg⟩
theorem zero_bool (w : World) : (zeroValue 4).run Try.prog w = .ok (.bool false) w := by kernel_rfl
theorem rb_false : RB (.bool false) = some (.lit (.bool false), []) := plainElem_bool Try.underlying4 false
theorem rb_inv {v : Value} {c : Bool} {ps : List MemPlace} (h : RB v = some (.lit (.bool c), ps)) : v = .bool c := by
  have hu := Try.underlying4
  unfold RB plainElem at h
  rw [hu] at h
  split at h
  all_goals first
    | (simp at h; done)
    | (simp at h; obtain ⟨rfl, -⟩ := h; rfl)
    | (simp at h; simp_all; done)
theorem look_b {w : World} {b n : Nat} {D : DataW Unit} {S : List Int} {x : Int} (hown : w.ownsMap Try.prog 3 RB b n D) (hS : Bok D S) (hx : In64 x) (hm : x ∈ S) :
    (Instr.lookup 41 (.map (some b)) (.int .i64 x) false).run Try.prog w = .ok (.bool true) w := by
  obtain ⟨v, ps, hrun, hv⟩ := hown.lookup keyed_int Try.underlying41 (zero_bool w) rb_false (key_int hx)
  rw [hS.2 x hm] at hv
  rw [hrun, rb_inv hv]
end Go.Proofs.Ytnkckoilhhbllaa
