/-
 What lies in a world; the contracts of replicas, at letters.
-/
import Derived.Test.YthhckdjagnlgpaaGreatWr
import Derived.Test.YthhckdjagnlgpaaGreatWp
import Derived.Test.YthhckdjagnlgpaaGreatWq
namespace Go.Proofs.YthhckdjagnlgpaaGreat
open Go.RowKit Go.IntWalk
open Gr
set_option maxRecDepth 100000
def movesAt (A : Option Addr) (l : List Mv) : World → Prop := fun W => At W W.heap.size A (mvs l)
def marksAt (A : Option Addr) (l : List Mk) : World → Prop := fun W => At W W.heap.size A (kvs l)
def repAt (p : Pl) (r : Rp) : World → Prop := fun W => RpAt p r W
def boxAt (g : Nat) (t : TypeId) (vs : List Value) : World → Prop := fun W => Is W g t vs
/-- what holds of a world holds of all that come of it -/
def Stays (P : World → Prop) : Prop := ∀ W W', P W → Below W.heap.size W W' → P W'
theorem movesAt_stays (A : Option Addr) (l : List Mv) : Stays (movesAt A l) := fun _ _ h hb => At.keep h hb
theorem marksAt_stays (A : Option Addr) (l : List Mk) : Stays (marksAt A l) := fun _ _ h hb => At.keep h hb
theorem repAt_stays (p : Pl) (r : Rp) : Stays (repAt p r) := fun _ _ h hb => RpAt.keep h hb
theorem boxAt_stays (g : Nat) (t : TypeId) (vs : List Value) : Stays (boxAt g t vs) := fun _ _ h hb => is_below h hb (is_lt h)
/-- what lies in W, a world that comes of w -/
structure Bed (w W : World) (L : List (World → Prop)) : Prop where
 all : ∀ P ∈ L, P W ∧ Stays P
 bel : Below w.heap.size w W
theorem Bed.start (w : World) : Bed w w [] := ⟨fun _ h => (List.not_mem_nil h).elim, Below.refl _ _⟩
theorem Bed.step {w W W' : World} {L : List (World → Prop)} (h : Bed w W L) (hb : Below W.heap.size W W') : Bed w W' L := ⟨fun P hP => ⟨(h.all P hP).2 W W' (h.all P hP).1 hb, (h.all P hP).2⟩, h.bel.trans (hb.mono h.bel.size)⟩
theorem Bed.add {w W : World} {L : List (World → Prop)} {P : World → Prop} (h : Bed w W L) (hp : P W) (hs : Stays P) : Bed w W (P :: L) := ⟨fun Q hQ => by
 rcases List.mem_cons.1 hQ with rfl | hQ
 ·exact ⟨hp, hs⟩
 ·exact h.all Q hQ, h.bel⟩
theorem Bed.moves {w W : World} {L : List (World → Prop)} (h : Bed w W L) {A : Option Addr} {l : List Mv} (hm : movesAt A l ∈ L) : At W W.heap.size A (mvs l) := (h.all _ hm).1
theorem Bed.marks {w W : World} {L : List (World → Prop)} (h : Bed w W L) {A : Option Addr} {l : List Mk} (hm : marksAt A l ∈ L) : At W W.heap.size A (kvs l) := (h.all _ hm).1
theorem Bed.rep {w W : World} {L : List (World → Prop)} (h : Bed w W L) {p : Pl} {r : Rp} (hm : repAt p r ∈ L) : RpAt p r W := (h.all _ hm).1
theorem Bed.box {w W : World} {L : List (World → Prop)} (h : Bed w W L) {g : Nat} {t : TypeId} {vs : List Value} (hm : boxAt g t vs ∈ L) : Is W g t vs := (h.all _ hm).1
theorem Bed.addM {w W : World} {L : List (World → Prop)} (h : Bed w W L) {A : Option Addr} {l : List Mv} (hp : At W W.heap.size A (mvs l)) : Bed w W (movesAt A l :: L) := h.add hp (movesAt_stays A l)
theorem Bed.addK {w W : World} {L : List (World → Prop)} (h : Bed w W L) {A : Option Addr} {l : List Mk} (hp : At W W.heap.size A (kvs l)) : Bed w W (marksAt A l :: L) := h.add hp (marksAt_stays A l)
theorem Bed.addP {w W : World} {L : List (World → Prop)} (h : Bed w W L) {p : Pl} {r : Rp} (hp : RpAt p r W) : Bed w W (repAt p r :: L) := h.add hp (repAt_stays p r)
theorem Bed.addB {w W : World} {L : List (World → Prop)} (h : Bed w W L) {g : Nat} {t : TypeId} {vs : List Value} (hp : Is W g t vs) : Bed w W (boxAt g t vs :: L) := h.add hp (boxAt_stays g t vs)
/-- a told replica: where it lies -/
structure RpG (p : Pl) (r : Rp) (W : World) : Prop where
 at_ : RpAt p r W
 pl : RpPl p r
theorem fAdd_v {p : Pl} {r r2 : Rp} {m : Mv} {b : Bool} {x : Int} (h : addF r m = (r2, b, x)) (ok : RpOk r) (pl : RpPl p r) (hm : rk (mw m) < 18446744073709551616 ∧ (nm (mw m)).length ≤ maxLen) {w : World} (ha : RpAt p r w) :
  Calls Tryz.prog 44 #[.agg #[.slice p.A1 r.B.length p.c1, .int .i64 r.fc, .int .i64 r.fr, .slice p.A2 r.L.length p.c2, .slice p.A3 r.V.length p.c3], .agg #[.int .i64 (mc m), .int .i64 (mr m), .int .i64 (pa (mw m)), .int .i64 (ch (mw m)), .string (ba (nm (mw m))), .float .f64 (rk (mw m))]] w fun e w' => ∃ p2 : Pl, e = .returned (.tuple #[.agg #[.slice p2.A1 r2.B.length p2.c1, .int .i64 r2.fc, .int .i64 r2.fr, .slice p2.A2 r2.L.length p2.c2, .slice p2.A3 r2.V.length p2.c3], .bool b, .int .i64 x]) ∧ RpG p2 r2 w' ∧ Below w.heap.size w w' :=
 (fAdd_c ok pl m hm.1 hm.2 ha).mono fun e w' hh => by
  obtain ⟨p2, he, h1, h2, -, -, h5, -⟩ := hh
  rw [h] at he h1 h2
  exact ⟨p2, he, ⟨h1, h2⟩, h5⟩
theorem rfadd_v {p : Pl} {r r2 : Rp} {m : Mv} {b : Bool} {x : Int} (h : addF r m = (r2, b, x)) (ok : RpOk r) (pl : RpPl p r) (hm : rk (mw m) < 18446744073709551616 ∧ (nm (mw m)).length ≤ maxLen) {w : World} (ha : RpAt p r w) :
  Calls Tryz.prog 45 #[.agg #[.slice p.A1 r.B.length p.c1, .int .i64 r.fc, .int .i64 r.fr, .slice p.A2 r.L.length p.c2, .slice p.A3 r.V.length p.c3], .agg #[.int .i64 (mc m), .int .i64 (mr m), .int .i64 (pa (mw m)), .int .i64 (ch (mw m)), .string (ba (nm (mw m))), .float .f64 (rk (mw m))]] w fun e w' => ∃ p2 : Pl, e = .returned (.tuple #[.agg #[.slice p2.A1 r2.B.length p2.c1, .int .i64 r2.fc, .int .i64 r2.fr, .slice p2.A2 r2.L.length p2.c2, .slice p2.A3 r2.V.length p2.c3], .bool b, .int .i64 x]) ∧ RpG p2 r2 w' ∧ Below w.heap.size w w' :=
 (rfadd_c ok pl m hm.1 hm.2 ha).mono fun e w' hh => by
  obtain ⟨p2, he, h1, h2, -, -, h5, -⟩ := hh
  rw [h] at he h1 h2
  exact ⟨p2, he, ⟨h1, h2⟩, h5⟩
theorem fPrune_v {p : Pl} {r r2 : Rp} {c q : Int} {x : Int} (h : pruneF r c q = (r2, x)) (ok : RpOk r) (pl : RpPl p r) {w : World} (ha : RpAt p r w) :
  Calls Tryz.prog 46 #[.agg #[.slice p.A1 r.B.length p.c1, .int .i64 r.fc, .int .i64 r.fr, .slice p.A2 r.L.length p.c2, .slice p.A3 r.V.length p.c3], .agg #[.int .i64 c, .int .i64 q]] w fun e w' => ∃ p2 : Pl, e = .returned (.tuple #[.agg #[.slice p2.A1 r2.B.length p2.c1, .int .i64 r2.fc, .int .i64 r2.fr, .slice p2.A2 r2.L.length p2.c2, .slice p2.A3 r2.V.length p2.c3], .int .i64 x]) ∧ RpG p2 r2 w' ∧ Below w.heap.size w w' :=
 (fPrune_c ok pl c q ha).mono fun e w' hh => by
  obtain ⟨p2, he, h1, h2, -, h5⟩ := hh
  rw [h] at he h1 h2
  exact ⟨p2, he, ⟨h1, h2⟩, h5⟩
theorem rfprune_v {p : Pl} {r r2 : Rp} {c q : Int} {x : Int} (h : pruneF r c q = (r2, x)) (ok : RpOk r) (pl : RpPl p r) {w : World} (ha : RpAt p r w) :
  Calls Tryz.prog 47 #[.agg #[.slice p.A1 r.B.length p.c1, .int .i64 r.fc, .int .i64 r.fr, .slice p.A2 r.L.length p.c2, .slice p.A3 r.V.length p.c3], .agg #[.int .i64 c, .int .i64 q]] w fun e w' => ∃ p2 : Pl, e = .returned (.tuple #[.agg #[.slice p2.A1 r2.B.length p2.c1, .int .i64 r2.fc, .int .i64 r2.fr, .slice p2.A2 r2.L.length p2.c2, .slice p2.A3 r2.V.length p2.c3], .int .i64 x]) ∧ RpG p2 r2 w' ∧ Below w.heap.size w w' :=
 (rfprune_c ok pl c q ha).mono fun e w' hh => by
  obtain ⟨p2, he, h1, h2, -, h5⟩ := hh
  rw [h] at he h1 h2
  exact ⟨p2, he, ⟨h1, h2⟩, h5⟩
theorem fMerge_v {p : Pl} {r r2 : Rp} {A : Option Addr} {cap : Nat} {l : List Mv} {x : Int} (h : mergeF r l = (r2, x)) (ok : RpOk r) (pl : RpPl p r) (hll : l.length ≤ 200) (hbl : r.L.length ≤ 150) (hbv : r.V.length ≤ 150) (hM : Moves_ l) {w : World} (ha : RpAt p r w) (hc : At w w.heap.size A (mvs l)) :
  Calls Tryz.prog 55 #[.agg #[.slice p.A1 r.B.length p.c1, .int .i64 r.fc, .int .i64 r.fr, .slice p.A2 r.L.length p.c2, .slice p.A3 r.V.length p.c3], .slice A l.length cap] w fun e w' => ∃ p2 : Pl, e = .returned (.tuple #[.agg #[.slice p2.A1 r2.B.length p2.c1, .int .i64 r2.fc, .int .i64 r2.fr, .slice p2.A2 r2.L.length p2.c2, .slice p2.A3 r2.V.length p2.c3], .int .i64 x]) ∧ RpG p2 r2 w' ∧ Below w.heap.size w w' :=
 (fMerge_c ok pl A cap l hll hbl hbv hM ha hc).mono fun e w' hh => by
  obtain ⟨p2, he, h1, h2, h5⟩ := hh
  rw [h] at he h1 h2
  exact ⟨p2, he, ⟨h1, h2⟩, h5⟩
theorem rfMerge_v {p : Pl} {r r2 : Rp} {A : Option Addr} {cap : Nat} {l : List Mv} {x : Int} (h : mergeF r l = (r2, x)) (ok : RpOk r) (pl : RpPl p r) (hll : l.length ≤ 200) (hbl : r.L.length ≤ 150) (hbv : r.V.length ≤ 150) (hM : Moves_ l) {w : World} (ha : RpAt p r w) (hc : At w w.heap.size A (mvs l)) :
  Calls Tryz.prog 56 #[.agg #[.slice p.A1 r.B.length p.c1, .int .i64 r.fc, .int .i64 r.fr, .slice p.A2 r.L.length p.c2, .slice p.A3 r.V.length p.c3], .slice A l.length cap] w fun e w' => ∃ p2 : Pl, e = .returned (.tuple #[.agg #[.slice p2.A1 r2.B.length p2.c1, .int .i64 r2.fc, .int .i64 r2.fr, .slice p2.A2 r2.L.length p2.c2, .slice p2.A3 r2.V.length p2.c3], .int .i64 x]) ∧ RpG p2 r2 w' ∧ Below w.heap.size w w' :=
 (rfMerge_c ok pl A cap l hll hbl hbv hM ha hc).mono fun e w' hh => by
  obtain ⟨p2, he, h1, h2, h5⟩ := hh
  rw [h] at he h1 h2
  exact ⟨p2, he, ⟨h1, h2⟩, h5⟩
theorem fSame_v {p1 p2 : Pl} {r1 r2 : Rp} {b : Bool} (h : sameF r1 r2 = b) (o1 : RpOk r1) (o2 : RpOk r2) {w : World} (a1 : RpAt p1 r1 w) (a2 : RpAt p2 r2 w) :
  Calls Tryz.prog 52 #[.agg #[.slice p1.A1 r1.B.length p1.c1, .int .i64 r1.fc, .int .i64 r1.fr, .slice p1.A2 r1.L.length p1.c2, .slice p1.A3 r1.V.length p1.c3], .agg #[.slice p2.A1 r2.B.length p2.c1, .int .i64 r2.fc, .int .i64 r2.fr, .slice p2.A2 r2.L.length p2.c2, .slice p2.A3 r2.V.length p2.c3]] w fun e w' => e = .returned (.bool b) ∧ Below w.heap.size w w' := by
 subst h; exact fSame_c o1 o2 a1 a2
theorem rfsame_v {p1 p2 : Pl} {r1 r2 : Rp} {b : Bool} (h : sameF r1 r2 = b) (o1 : RpOk r1) (o2 : RpOk r2) {w : World} (a1 : RpAt p1 r1 w) (a2 : RpAt p2 r2 w) :
  Calls Tryz.prog 53 #[.agg #[.slice p1.A1 r1.B.length p1.c1, .int .i64 r1.fc, .int .i64 r1.fr, .slice p1.A2 r1.L.length p1.c2, .slice p1.A3 r1.V.length p1.c3], .agg #[.slice p2.A1 r2.B.length p2.c1, .int .i64 r2.fc, .int .i64 r2.fr, .slice p2.A2 r2.L.length p2.c2, .slice p2.A3 r2.V.length p2.c3]] w fun e w' => e = .returned (.bool b) ∧ Below w.heap.size w w' := by
 subst h; exact rfsame_c o1 o2 a1 a2
theorem ftree_v {p : Pl} {r : Rp} {X : List Rw} (h : treeF r = X) (ok : RpOk r) (pl : RpPl p r) {w : World} (ha : RpAt p r w) :
  Calls Tryz.prog 50 #[.agg #[.slice p.A1 r.B.length p.c1, .int .i64 r.fc, .int .i64 r.fr, .slice p.A2 r.L.length p.c2, .slice p.A3 r.V.length p.c3]] w fun e w' => ∃ A c, e = .returned (.slice A X.length c) ∧ At w' w'.heap.size A (tvs X) ∧ Below w.heap.size w w' := by
 subst h; exact ftree_c ok pl ha
theorem rftree_v {p : Pl} {r : Rp} {X : List Rw} (h : treeF r = X) (ok : RpOk r) (pl : RpPl p r) {w : World} (ha : RpAt p r w) :
  Calls Tryz.prog 51 #[.agg #[.slice p.A1 r.B.length p.c1, .int .i64 r.fc, .int .i64 r.fr, .slice p.A2 r.L.length p.c2, .slice p.A3 r.V.length p.c3]] w fun e w' => ∃ A c, e = .returned (.slice A X.length c) ∧ At w' w'.heap.size A (tvs X) ∧ Below w.heap.size w w' := by
 subst h; exact rftree_c ok pl ha
theorem rffew_v {p : Pl} {r : Rp} {b : Bool} (h : fewF r = b) (hl : r.B.length ≤ maxLen ∧ r.L.length ≤ maxLen ∧ r.V.length ≤ maxLen) {w : World} (ha : RpAt p r w) :
  Calls Tryz.prog 42 #[.agg #[.slice p.A1 r.B.length p.c1, .int .i64 r.fc, .int .i64 r.fr, .slice p.A2 r.L.length p.c2, .slice p.A3 r.V.length p.c3]] w fun e w' => e = .returned (.bool b) ∧ Below w.heap.size w w' := by
 subst h; exact rffew_c hl.1 hl.2.1 hl.2.2 ha
end Go.Proofs.YthhckdjagnlgpaaGreat
