/-
  Maps of whole numbers, and their keys in order; whole numbers put among others, once.
-/
import Derived.Test.YtfeopchghpihoaaTl
import Derived.Shelf.SlIterI.Nil
import Derived.Maps.OwnIn
namespace Go.Proofs.Ytfeopchghpihoaa
open Go.RowKit Go.IntWalk Go.Maps
set_option maxRecDepth 100000

def In64 (x : Int) : Prop := -9223372036854775808 ≤ x ∧ x ≤ 9223372036854775807
theorem in64_wf {x : Int} (h : In64 x) : (Lit.int .i64 x).wf = true := by
  obtain ⟨h1, h2⟩ := h
  simp [Lit.wf]
  exact ⟨h1, h2⟩
theorem keyed_int : Keyed Try.prog 3 := int_keyed Try.underlying3
theorem key_int {x : Int} (h : In64 x) : keyOf Try.prog 3 (.int .i64 x) = some (.int .i64 x) := keyOf_int_mk Try.underlying3 (in64_wf h)

/-- the map has just the keys of S -/
def Kok (D : DataW Unit) (S : List Int) : Prop := ∀ x, Maps.has D (.int .i64 x) = decide (x ∈ S)
theorem kok_nil : Kok (.map []) [] := fun x => by simp [Maps.has]
theorem kok_put {D : DataW Unit} {S : List Int} {x : Int} {d : DataW Unit} (hm : IsMap D) (h : Kok D S) : Kok (D.put (.int .i64 x) d) (S ++ [x]) := fun y => by
  by_cases e : y = x
  · subst e; rw [has_put_same hm (show WideAt.IsKeyLit (Lit.int .i64 y) from trivial)]; simp
  · rw [has_put_other (by simpa using e), h]; simp [e]
theorem ikeys {D : DataW Unit} {R : Value → Option (DataW Unit × List MemPlace)} {w : World} {b n : Nat} (hown : w.ownsMap Try.prog 3 R b n D) : (intKeys D).Nodup ∧ ∀ x, x ∈ intKeys D ↔ Maps.has D (.int .i64 x) = true := by
  obtain ⟨es, hD, hpw, _⟩ := hown.entries keyed_int
  obtain ⟨es', hD', hko⟩ := hown.keysOf
  obtain rfl : es = es' := by rw [hD] at hD'; simpa using hD'
  subst hD
  have hk : ∀ p ∈ es, ∃ x, p.1 = .int .i64 x := fun p hp => by obtain ⟨v, hv⟩ := hko p hp; obtain ⟨x, _, hx, _⟩ := Maps.keyOf_i64 Try.underlying3 hv; exact ⟨x, hx⟩
  constructor
  · show (es.map fun p => Go.intOf p.1).Nodup
    refine List.pairwise_map.2 (hpw.imp_of_mem fun {p q} hp' hq' hne e => hne ?_)
    obtain ⟨a, ha⟩ := hk p hp'
    obtain ⟨b, hb⟩ := hk q hq'
    rw [ha, hb] at e ⊢
    exact congrArg _ e
  · intro x
    rw [has_eq, List.any_eq_true]
    show x ∈ (es.map fun p => Go.intOf p.1) ↔ _
    rw [List.mem_map]
    constructor
    · rintro ⟨p, hp', rfl⟩
      obtain ⟨a, ha⟩ := hk p hp'
      exact ⟨p, hp', by rw [ha]; simp [Lit.sameKey, Go.intOf]⟩
    · rintro ⟨p, hp', hs⟩
      obtain ⟨a, ha⟩ := hk p hp'
      rw [ha] at hs
      exact ⟨p, hp', by rw [ha]; simpa [Lit.sameKey, Go.intOf] using hs⟩

theorem insI_mem {x z : Int} : ∀ {o : List Int}, z ∈ insI o x ↔ z = x ∨ z ∈ o
  | [] => by simp [insI]
  | y :: t => by
    unfold insI
    split
    · rw [List.mem_cons, insI_mem (o := t), List.mem_cons]
      constructor
      · rintro (h | h | h) <;> simp [h]
      · rintro (h | h | h) <;> simp [h]
    · split
      · rename_i h; subst h; simp
      · simp
theorem insI_asc {x : Int} : ∀ {o : List Int}, o.Pairwise (· < ·) → (insI o x).Pairwise (· < ·)
  | [], _ => by simp [insI]
  | y :: t, h => by
    obtain ⟨h1, h2⟩ := List.pairwise_cons.1 h
    unfold insI
    split
    · rename_i hy
      refine List.pairwise_cons.2 ⟨fun z hz => ?_, insI_asc h2⟩
      rcases insI_mem.1 hz with rfl | hz
      · exact hy
      · exact h1 z hz
    · split
      · exact h
      · rename_i h3 h4
        refine List.pairwise_cons.2 ⟨fun z hz => ?_, h⟩
        rcases List.mem_cons.1 hz with rfl | hz
        · omega
        · have := h1 z hz; omega
theorem asc_unique {a b : List Int} (ha : a.Pairwise (· < ·)) (hb : b.Pairwise (· < ·)) (h : ∀ x, x ∈ a ↔ x ∈ b) : a = b := by
  have na : a.Nodup := ha.imp fun h e => by omega
  have nb : b.Nodup := hb.imp fun h e => by omega
  exact List.Perm.eq_of_pairwise (le := (· < ·)) (fun x y _ _ h1 h2 => by omega) ha hb ((List.perm_ext_iff_of_nodup na nb).2 h)
/-- numbers put, one behind the other -/
def putsI (o : List Int) (l : List Int) : List Int := l.foldl insI o
theorem putsI_mem {z : Int} : ∀ {l o : List Int}, z ∈ putsI o l ↔ z ∈ o ∨ z ∈ l
  | [], o => by simp [putsI]
  | x :: t, o => by
    rw [show putsI o (x :: t) = putsI (insI o x) t from rfl, putsI_mem, insI_mem, List.mem_cons]
    constructor
    · rintro ((h | h) | h) <;> simp [h]
    · rintro (h | h | h) <;> simp [h]
theorem putsI_asc : ∀ {l o : List Int}, o.Pairwise (· < ·) → (putsI o l).Pairwise (· < ·)
  | [], _, h => h
  | _ :: t, _, h => putsI_asc (l := t) (insI_asc h)
theorem sort_keys {ss ks : List Int} {S : List Int} (hp : ss.Perm ks) (hn : ks.Nodup) (hm : ∀ x, x ∈ ks ↔ x ∈ S) {o l : List Int} (ho : o.Pairwise (· < ·)) (hS : ∀ x, x ∈ S ↔ x ∈ o ∨ x ∈ l) :
    ss.mergeSort (fun x y => decide (x ≤ y)) = putsI o l := by
  refine asc_unique ?_ (putsI_asc ho) fun x => ?_
  · have hs := List.pairwise_mergeSort (le := fun x y : Int => decide (x ≤ y)) (fun a b c h1 h2 => by simp at *; omega) (fun a b => by simp; omega) ss
    have hnd : (ss.mergeSort fun x y => decide (x ≤ y)).Nodup := ((List.mergeSort_perm ss _).trans hp).nodup_iff.2 hn
    refine (hs.and hnd).imp fun {a b} ⟨h1, h2⟩ => ?_
    simp at h1
    omega
  · rw [((List.mergeSort_perm ss _).trans hp).mem_iff, hm, hS, putsI_mem]
end Go.Proofs.Ytfeopchghpihoaa
