/-
  What lies in a world, and stays in those that come of it.
-/
import Derived.Test.YtfeopchghpihoaaZb
import Derived.Test.YtfeopchghpihoaaZa
import Derived.Test.YtfeopchghpihoaaKz
import Derived.Test.YtfeopchghpihoaaUj
import Derived.Test.YtfeopchghpihoaaUk
namespace Go.Proofs.Ytfeopchghpihoaa
open Go.RowKit Go.IntWalk
set_option maxRecDepth 100000

def rowsAt (A : Option Addr) (l : List Rw) : World → Prop := fun W => At W W.heap.size A (tvs l)
def movesAt (A : Option Addr) (l : List Mv) : World → Prop := fun W => At W W.heap.size A (mvs l)
def stepsAt (A : Option Addr) (l : List Sp) : World → Prop := fun W => At W W.heap.size A (pvs l)
def treeAt (g : Nat) (B R : List Rw) (S : List Sp) : World → Prop := fun W => TreeAt W g B R S
/-- of each world that comes of this one the same is true -/
def Stays (P : World → Prop) : Prop := ∀ W W', P W → Below W.heap.size W W' → P W'
theorem rowsAt_stays (A : Option Addr) (l : List Rw) : Stays (rowsAt A l) := fun _ _ h hb => At.keep h hb
theorem movesAt_stays (A : Option Addr) (l : List Mv) : Stays (movesAt A l) := fun _ _ h hb => At.keep h hb
theorem stepsAt_stays (A : Option Addr) (l : List Sp) : Stays (stepsAt A l) := fun _ _ h hb => At.keep h hb
theorem treeAt_stays (g : Nat) (B R : List Rw) (S : List Sp) : Stays (treeAt g B R S) := fun _ _ h hb => TreeAt.keep h hb
/-- what lies in W, which comes of w -/
structure Bed (w W : World) (L : List (World → Prop)) : Prop where
  all : ∀ P ∈ L, P W ∧ Stays P
  bel : Below w.heap.size w W
theorem Bed.start (w : World) : Bed w w [] := ⟨fun _ h => (List.not_mem_nil h).elim, Below.refl _ _⟩
theorem Bed.new {w W : World} (h : Below w.heap.size w W) : Bed w W [] := ⟨fun _ h => (List.not_mem_nil h).elim, h⟩
theorem Bed.step {w W W' : World} {L : List (World → Prop)} (h : Bed w W L) (hb : Below W.heap.size W W') : Bed w W' L := ⟨fun P hP => ⟨(h.all P hP).2 W W' (h.all P hP).1 hb, (h.all P hP).2⟩, h.bel.trans (hb.mono h.bel.size)⟩
theorem Bed.add {w W : World} {L : List (World → Prop)} {P : World → Prop} (h : Bed w W L) (hp : P W) (hs : Stays P) : Bed w W (P :: L) := ⟨fun Q hQ => by
  rcases List.mem_cons.1 hQ with rfl | hQ
  · exact ⟨hp, hs⟩
  · exact h.all Q hQ, h.bel⟩
theorem Bed.rows {w W : World} {L : List (World → Prop)} (h : Bed w W L) {A : Option Addr} {l : List Rw} (hm : rowsAt A l ∈ L) : At W W.heap.size A (tvs l) := (h.all _ hm).1
theorem Bed.moves {w W : World} {L : List (World → Prop)} (h : Bed w W L) {A : Option Addr} {l : List Mv} (hm : movesAt A l ∈ L) : At W W.heap.size A (mvs l) := (h.all _ hm).1
theorem Bed.steps {w W : World} {L : List (World → Prop)} (h : Bed w W L) {A : Option Addr} {l : List Sp} (hm : stepsAt A l ∈ L) : At W W.heap.size A (pvs l) := (h.all _ hm).1
theorem Bed.tree {w W : World} {L : List (World → Prop)} (h : Bed w W L) {g : Nat} {B R : List Rw} {S : List Sp} (hm : treeAt g B R S ∈ L) : TreeAt W g B R S := (h.all _ hm).1
theorem Bed.addR {w W : World} {L : List (World → Prop)} (h : Bed w W L) {A : Option Addr} {l : List Rw} (hp : At W W.heap.size A (tvs l)) : Bed w W (rowsAt A l :: L) := h.add hp (rowsAt_stays A l)
theorem Bed.addM {w W : World} {L : List (World → Prop)} (h : Bed w W L) {A : Option Addr} {l : List Mv} (hp : At W W.heap.size A (mvs l)) : Bed w W (movesAt A l :: L) := h.add hp (movesAt_stays A l)
theorem Bed.addS {w W : World} {L : List (World → Prop)} (h : Bed w W L) {A : Option Addr} {l : List Sp} (hp : At W W.heap.size A (pvs l)) : Bed w W (stepsAt A l :: L) := h.add hp (stepsAt_stays A l)
theorem Bed.addT {w W : World} {L : List (World → Prop)} (h : Bed w W L) {g : Nat} {B R : List Rw} {S : List Sp} (hp : TreeAt W g B R S) : Bed w W (treeAt g B R S :: L) := h.add hp (treeAt_stays g B R S)
theorem Bed.sub {w W : World} {L K : List (World → Prop)} (h : Bed w W L) (hs : ∀ P ∈ K, P ∈ L) : Bed w W K := ⟨fun P hP => h.all P (hs P hP), h.bel⟩

theorem trows_v {g : Nat} {B R : List Rw} {S : List Sp} (hl : R.length ≤ 100000) {w : World} (h : TreeAt w g B R S) :
    Calls Try.prog 15 #[.pointer (some ⟨g, 0, none⟩)] w fun e w' => ∃ A c, e = .returned (.slice A R.length c) ∧ At w' w'.heap.size A (tvs R) ∧ (A = none → c = 0) ∧ R.length ≤ c ∧ Below w.heap.size w w' :=
  (trows_c hl w h).mono fun _ _ h => Fresh_.at h
theorem tbase_v {g : Nat} {B R : List Rw} {S : List Sp} (hl : B.length ≤ 100000) {w : World} (h : TreeAt w g B R S) :
    Calls Try.prog 22 #[.pointer (some ⟨g, 0, none⟩)] w fun e w' => ∃ A c, e = .returned (.slice A B.length c) ∧ At w' w'.heap.size A (tvs B) ∧ (A = none → c = 0) ∧ B.length ≤ c ∧ Below w.heap.size w w' :=
  (tbase_c hl w h).mono fun _ _ h => Fresh_.at h
theorem tsteps_v {g : Nat} {B R : List Rw} {S : List Sp} (hl : S.length ≤ 100000) {w : World} (h : TreeAt w g B R S) :
    Calls Try.prog 20 #[.pointer (some ⟨g, 0, none⟩)] w fun e w' => ∃ A c, e = .returned (.slice A S.length c) ∧ At w' w'.heap.size A (pvs S) ∧ Below w.heap.size w w' :=
  (tsteps_c hl w h).mono fun e w' h => by
    obtain ⟨A, c, rfl, hown, hb⟩ := h
    obtain ⟨A', c', e, hat, -, -⟩ := own_at hown
    cases e
    exact ⟨A, c, rfl, hat, hb⟩
theorem tsteps_n {g n : Nat} {B R : List Rw} {S : List Sp} (hn : S.length = n) (hl : n ≤ 100000) {w : World} (h : TreeAt w g B R S) :
    Calls Try.prog 20 #[.pointer (some ⟨g, 0, none⟩)] w fun e w' => ∃ A c, e = .returned (.slice A n c) ∧ At w' w'.heap.size A (pvs S) ∧ Below w.heap.size w w' := by
  subst hn
  exact tsteps_v hl h
theorem tlog_v {g : Nat} {B R : List Rw} {S : List Sp} {N : List Mv} (hN : S.map sm = N) (hl : S.length ≤ 100000) {w : World} (h : TreeAt w g B R S) :
    Calls Try.prog 18 #[.pointer (some ⟨g, 0, none⟩)] w fun e w' => ∃ A c, e = .returned (.slice A N.length c) ∧ At w' w'.heap.size A (mvs N) ∧ (A = none → c = 0) ∧ N.length ≤ c ∧ Below w.heap.size w w' := by
  subst hN
  exact (tlog_c hl w h).mono fun _ _ h => FreshM.at h
theorem drows_v {k : Nat} {B R : List Rw} {L : List Mv} (hR : allP B L = R) (hl : B.length + L.length ≤ 10000) {w : World} (h : DocAt w k B L) :
    Calls Try.prog 16 #[.pointer (some ⟨k, 0, none⟩)] w fun e w' => ∃ A c, e = .returned (.slice A R.length c) ∧ At w' w'.heap.size A (tvs R) ∧ Below w.heap.size w w' := by
  subst hR
  exact drows_c hl w h
theorem dsteps_v {k : Nat} {B : List Rw} {L : List Mv} {S : List Sp} (hS : stepsP B L = S) (hl : B.length + L.length ≤ 10000) {w : World} (h : DocAt w k B L) :
    Calls Try.prog 21 #[.pointer (some ⟨k, 0, none⟩)] w fun e w' => ∃ A c, e = .returned (.slice A S.length c) ∧ At w' w'.heap.size A (pvs S) ∧ Below w.heap.size w w' := by
  subst hS
  exact dsteps_c hl w h
theorem rsame_q {A1 A2 : Option Addr} {c1 c2 : Nat} {xs ys : List Rw} {q : Bool} (h : sameP xs ys = q) (hx : xs.length ≤ maxLen) (hy : ys.length ≤ maxLen) (hwx : Rows_ xs) (hwy : Rows_ ys) {w : World} (h1 : At w w.heap.size A1 (tvs xs)) (h2 : At w w.heap.size A2 (tvs ys)) :
    Calls Try.prog 14 #[.slice A1 xs.length c1, .slice A2 ys.length c2] w fun e w' => e = .returned (.bool q) ∧ Below w.heap.size w w' := by
  subst h; exact rsame_c A1 A2 c1 c2 xs ys hx hy hwx hwy w h1 h2
theorem rmsame_q {A1 A2 : Option Addr} {c1 c2 : Nat} {xs ys : List Mv} {q : Bool} (h : sameM xs ys = q) (hx : xs.length ≤ maxLen) (hy : ys.length ≤ maxLen) (hwx : Moves_ xs) (hwy : Moves_ ys) {w : World} (h1 : At w w.heap.size A1 (mvs xs)) (h2 : At w w.heap.size A2 (mvs ys)) :
    Calls Try.prog 17 #[.slice A1 xs.length c1, .slice A2 ys.length c2] w fun e w' => e = .returned (.bool q) ∧ Below w.heap.size w w' := by
  subst h; exact rmsame_c A1 A2 c1 c2 xs ys hx hy hwx hwy w h1 h2
theorem rpsame_q {A1 A2 : Option Addr} {c1 c2 : Nat} {xs ys : List Sp} {q : Bool} (h : sameS xs ys = q) (hx : xs.length ≤ maxLen) (hy : ys.length ≤ maxLen) (hwx : Steps_ xs) (hwy : Steps_ ys) {w : World} (h1 : At w w.heap.size A1 (pvs xs)) (h2 : At w w.heap.size A2 (pvs ys)) :
    Calls Try.prog 19 #[.slice A1 xs.length c1, .slice A2 ys.length c2] w fun e w' => e = .returned (.bool q) ∧ Below w.heap.size w w' := by
  subst h; exact rpsame_c A1 A2 c1 c2 xs ys hx hy hwx hwy w h1 h2

def isAt (g : Nat) (t : TypeId) (vs : List Value) : World → Prop := fun W => Is W g t vs
def intsAt (A : Option Addr) (l : List Int) : World → Prop := fun W => At W W.heap.size A (ivs l)
theorem isAt_stays (g : Nat) (t : TypeId) (vs : List Value) : Stays (isAt g t vs) := fun _ _ h hb => is_below h hb (is_lt h)
theorem intsAt_stays (A : Option Addr) (l : List Int) : Stays (intsAt A l) := fun _ _ h hb => At.keep h hb
theorem Bed.box {w W : World} {L : List (World → Prop)} (h : Bed w W L) {g : Nat} {t : TypeId} {vs : List Value} (hm : isAt g t vs ∈ L) : Is W g t vs := (h.all _ hm).1
theorem Bed.ints {w W : World} {L : List (World → Prop)} (h : Bed w W L) {A : Option Addr} {l : List Int} (hm : intsAt A l ∈ L) : At W W.heap.size A (ivs l) := (h.all _ hm).1
theorem Bed.addB {w W : World} {L : List (World → Prop)} (h : Bed w W L) {g : Nat} {t : TypeId} {vs : List Value} (hp : Is W g t vs) : Bed w W (isAt g t vs :: L) := h.add hp (isAt_stays g t vs)
theorem Bed.addI {w W : World} {L : List (World → Prop)} (h : Bed w W L) {A : Option Addr} {l : List Int} (hp : At W W.heap.size A (ivs l)) : Bed w W (intsAt A l :: L) := h.add hp (intsAt_stays A l)
theorem rmsince_v {A : Option Addr} {cap : Nat} {l T : List Mv} {c r : Int} (hT : sinM l c r = T) (hl : l.length ≤ 100000) {w : World} (hc : At w w.heap.size A (mvs l)) :
    Calls Try.prog 30 #[.slice A l.length cap, .agg #[.int .i64 c, .int .i64 r]] w fun e w' => ∃ A' c', e = .returned (.slice A' T.length c') ∧ At w' w'.heap.size A' (mvs T) ∧ (A' = none → c' = 0) ∧ T.length ≤ c' ∧ Below w.heap.size w w' := by
  subst hT
  exact (rmsince_c A cap l c r hl w hc).mono fun _ _ h => FreshM.at h
theorem mall_v {A A2 : Option Addr} {cap cap2 n : Nat} {l X : List Rw} {ms : List Mv} (hn : ms.length = n) (hX : allP l ms = X) (hl : l.length + n ≤ 100000) (hA : A = none → cap = 0) (hcap : l.length ≤ cap) {w : World} (hc : At w w.heap.size A (tvs l)) (hc2 : At w w.heap.size A2 (mvs ms)) :
    Calls Try.prog 26 #[.slice A l.length cap, .slice A2 n cap2] w fun e w' => ∃ A' c', e = .returned (.slice A' X.length c') ∧ At w' w'.heap.size A' (tvs X) ∧ (A' = none → c' = 0) ∧ X.length ≤ c' ∧ Below w.heap.size w w' := by
  subst hn
  subst hX
  exact mall_c A A2 cap cap2 l ms hl hA hcap (allP_above hl) w hc hc2
theorem rows_but {g : Nat} {B R l : List Rw} {S : List Sp} {A : Option Addr} {w w' : World} (h : At w w.heap.size A (tvs l)) (hb : But g w w') (ht : TreeAt w g B R S) : At w' w'.heap.size A (tvs l) := by
  obtain ⟨a1, d1, a2, d2, a3, d3, ti, -⟩ := ht
  exact at_but2 h hb ti (slices3 _ _ _ _ _ _ _ _ _) (tvs_head _)
theorem moves_but {g : Nat} {B R : List Rw} {l : List Mv} {S : List Sp} {A : Option Addr} {w w' : World} (h : At w w.heap.size A (mvs l)) (hb : But g w w') (ht : TreeAt w g B R S) : At w' w'.heap.size A (mvs l) := by
  obtain ⟨a1, d1, a2, d2, a3, d3, ti, -⟩ := ht
  exact at_but2 h hb ti (slices3 _ _ _ _ _ _ _ _ _) (mvs_head _)
theorem at_takeA {w : World} {B : Nat} {A : Option Addr} {l : List Mv} (h : At w B A (mvs l)) (j : Nat) : At w B A (mvs (l.take j)) := by rw [mvs_take]; exact h.take _
/-- what Add tells: how many, and whether it is new -/
theorem addV_is (o : List Mv × Nat × Bool) : ∃ z : Int, addV o = .tuple #[.int .i64 z, .bool o.2.2] ∧ z = if o.2.2 then (o.1.length : Int) - 1 - (o.2.1 : Int) else 0 := by
  unfold addV
  cases o.2.2 with
  | true => exact ⟨_, rfl, rfl⟩
  | false => exact ⟨0, rfl, rfl⟩
end Go.Proofs.Ytfeopchghpihoaa
