/-
 What lies in a world, and all that tree and its document answer, at letters.
-/
import Derived.Test.YtkobmnbjeppnaaaGreatXv
import Derived.Test.YtkobmnbjeppnaaaGreatXw
import Derived.Test.YtkobmnbjeppnaaaGreatXd
import Derived.Test.YtkobmnbjeppnaaaGreatXn
import Derived.Test.YtkobmnbjeppnaaaGreatYb
import Derived.Test.YtkobmnbjeppnaaaGreatYc
import Derived.Test.YtkobmnbjeppnaaaGreatYd
namespace Go.Proofs.YtkobmnbjeppnaaaGreat
open Go.RowKit Go.IntWalk
open Fl Gr
set_option maxRecDepth 100000
def rowsAt (A : Option Addr) (l : List Rw) : World → Prop := fun W => At W W.heap.size A (tvs l)
def intsAt (A : Option Addr) (l : List Int) : World → Prop := fun W => At W W.heap.size A (ivs l)
def boxAt (g : Nat) (t : TypeId) (vs : List Value) : World → Prop := fun W => Is W g t vs
/-- what holds of a world holds of all that come of it -/
def Stays (P : World → Prop) : Prop := ∀ W W', P W → Below W.heap.size W W' → P W'
theorem rowsAt_stays (A : Option Addr) (l : List Rw) : Stays (rowsAt A l) := fun _ _ h hb => At.keep h hb
theorem intsAt_stays (A : Option Addr) (l : List Int) : Stays (intsAt A l) := fun _ _ h hb => At.keep h hb
theorem boxAt_stays (g : Nat) (t : TypeId) (vs : List Value) : Stays (boxAt g t vs) := fun _ _ h hb => is_below h hb (is_lt h)
/-- what lies in W, a world that comes of w -/
structure Bed (w W : World) (L : List (World → Prop)) : Prop where
 all : ∀ P ∈ L, P W ∧ Stays P
 bel : Below w.heap.size w W
theorem Bed.start (w : World) : Bed w w [] := ⟨fun _ h => (List.not_mem_nil h).elim, Below.refl _ _⟩
theorem Bed.step {w W W' : World} {L : List (World → Prop)} (h : Bed w W L) (hb : Below W.heap.size W W') : Bed w W' L := ⟨fun P hP => ⟨(h.all P hP).2 W W' (h.all P hP).1 hb, (h.all P hP).2⟩, h.bel.trans (hb.mono h.bel.size)⟩
theorem Bed.add {w W : World} {L : List (World → Prop)} {P : World → Prop} (h : Bed w W L) (hp : P W) (hs : Stays P) : Bed w W (P :: L) := ⟨fun Q hQ => by
 rcases List.mem_cons.1 hQ with rfl | hQ
 ·exact ⟨hp, hs⟩
 ·exact h.all Q hQ, h.bel⟩
theorem Bed.rows {w W : World} {L : List (World → Prop)} (h : Bed w W L) {A : Option Addr} {l : List Rw} (hm : rowsAt A l ∈ L) : At W W.heap.size A (tvs l) := (h.all _ hm).1
theorem Bed.ints {w W : World} {L : List (World → Prop)} (h : Bed w W L) {A : Option Addr} {l : List Int} (hm : intsAt A l ∈ L) : At W W.heap.size A (ivs l) := (h.all _ hm).1
theorem Bed.box {w W : World} {L : List (World → Prop)} (h : Bed w W L) {g : Nat} {t : TypeId} {vs : List Value} (hm : boxAt g t vs ∈ L) : Is W g t vs := (h.all _ hm).1
theorem Bed.addR {w W : World} {L : List (World → Prop)} (h : Bed w W L) {A : Option Addr} {l : List Rw} (hp : At W W.heap.size A (tvs l)) : Bed w W (rowsAt A l :: L) := h.add hp (rowsAt_stays A l)
theorem Bed.addI {w W : World} {L : List (World → Prop)} (h : Bed w W L) {A : Option Addr} {l : List Int} (hp : At W W.heap.size A (ivs l)) : Bed w W (intsAt A l :: L) := h.add hp (intsAt_stays A l)
theorem Bed.addB {w W : World} {L : List (World → Prop)} (h : Bed w W L) {g : Nat} {t : TypeId} {vs : List Value} (hp : Is W g t vs) : Bed w W (boxAt g t vs :: L) := h.add hp (boxAt_stays g t vs)
/-- rows that may come -/
structure Rok (l : List Rw) : Prop where
 len : l.length ≤ 200
 rows : Rows_ l
 six : ∀ r ∈ l, In64 (ch r) ∧ In64 (pa r)
theorem Rok.max {l : List Rw} (h : Rok l) : l.length ≤ maxLen := by have := h.len; unfold maxLen; omega
theorem Rok.s64 {l : List Rw} (h : Rok l) : Kk.S64 l := fun x hx => ⟨by have := (h.six x hx).1; unfold In64 at this; omega, (h.rows x hx).1⟩
/-- a slice's capacity -/
def Cap (A : Option Addr) (n cap : Nat) : Prop := (A = none → cap = 0) ∧ n ≤ cap
theorem few_v {A : Option Addr} {cap : Nat} {l : List Rw} {x : Bool} (h : few l = x) (hl : l.length ≤ maxLen) {w : World} (hc : At w w.heap.size A (tvs l)) :
  Calls Tryz.prog 10 #[.slice A l.length cap] w fun e w' => e = .returned (.bool x) ∧ Below w.heap.size w w' :=
 (few_c A cap l hl w hc).mono fun e w' hh => by rw [h] at hh; exact ⟨hh.1, by rw [hh.2]; exact Below.refl _ _⟩
theorem one_v {r : Rw} {x : Bool} (h : oneP r = x) (hn : (nm r).length ≤ maxLen) {w : World} :
  Calls Tryz.prog 12 #[.agg #[.int .i64 (ch r), .int .i64 (pa r), .string (ba (nm r)), .float .f64 (rk r)]] w fun e w' => e = .returned (.bool x) ∧ Below w.heap.size w w' := by
 subst h; exact one_c r hn w
theorem rone_v {r : Rw} {x : Bool} (h : oneP r = x) (hn : (nm r).length ≤ maxLen) {w : World} :
  Calls Tryz.prog 13 #[.agg #[.int .i64 (ch r), .int .i64 (pa r), .string (ba (nm r)), .float .f64 (rk r)]] w fun e w' => e = .returned (.bool x) ∧ Below w.heap.size w w' := by
 subst h; exact rone_c r hn w
theorem find_v {A : Option Addr} {cap : Nat} {l : List Rw} {c : Int} {v : Value} {x : Bool} (hv : rv ((fnd l c).getD zr) = v) (h : (fnd l c).isSome = x) (hl : l.length ≤ maxLen) {w : World} (hc : At w w.heap.size A (tvs l)) :
  Calls Tryz.prog 14 #[.slice A l.length cap, .int .i64 c] w fun e w' => e = .returned (.tuple #[v, .bool x]) ∧ Below w.heap.size w w' := by
 subst hv h; exact find_c A cap l c hl w hc
theorem rfind_v {A : Option Addr} {cap : Nat} {l : List Rw} {c : Int} {v : Value} {x : Bool} (hv : rv ((fnd l c).getD zr) = v) (h : (fnd l c).isSome = x) (hl : l.length ≤ maxLen) {w : World} (hc : At w w.heap.size A (tvs l)) :
  Calls Tryz.prog 15 #[.slice A l.length cap, .int .i64 c] w fun e w' => e = .returned (.tuple #[v, .bool x]) ∧ Below w.heap.size w w' := by
 subst hv h; exact rfind_c A cap l c hl w hc
theorem alike_v {a b : Rw} {x : Bool} (h : alikeP a b = x) (ha : rk a < 18446744073709551616) (hb : rk b < 18446744073709551616) {w : World} :
  Calls Tryz.prog 20 #[.agg #[.int .i64 (ch a), .int .i64 (pa a), .string (ba (nm a)), .float .f64 (rk a)], .agg #[.int .i64 (ch b), .int .i64 (pa b), .string (ba (nm b)), .float .f64 (rk b)]] w fun e w' => e = .returned (.bool x) ∧ Below w.heap.size w w' := by
 subst h; exact alike_c a b ha hb w
theorem may_v {A : Option Addr} {cap : Nat} {l : List Rw} {x : Bool} (h : mayB l = x) (hl : l.length ≤ 1000) (hn : Rows_ l) {w : World} (hc : At w w.heap.size A (tvs l)) :
  Calls Tryz.prog 16 #[.slice A l.length cap] w fun e w' => e = .returned (.bool x) ∧ Below w.heap.size w w' := by
 subst h; exact may_c A cap l hl (fun r hr => (hn r hr).2) w hc
theorem rmay_v {A : Option Addr} {cap : Nat} {l : List Rw} {x : Bool} (h : mayB l = x) (hl : l.length ≤ maxLen) (hn : Rows_ l) {w : World} (hc : At w w.heap.size A (tvs l)) :
  Calls Tryz.prog 17 #[.slice A l.length cap] w fun e w' => e = .returned (.bool x) ∧ Below w.heap.size w w' := by
 subst h; exact rmay_c A cap l hl (fun r hr => (hn r hr).2) w hc
theorem same_v {A1 A2 : Option Addr} {c1 c2 : Nat} {xs ys : List Rw} {x : Bool} (h : sameP xs ys = x) (hx : xs.length ≤ maxLen) (hy : ys.length ≤ maxLen) (hwx : Rows_ xs) (hwy : Rows_ ys) {w : World} (h1 : At w w.heap.size A1 (tvs xs)) (h2 : At w w.heap.size A2 (tvs ys)) :
  Calls Tryz.prog 18 #[.slice A1 xs.length c1, .slice A2 ys.length c2] w fun e w' => e = .returned (.bool x) ∧ Below w.heap.size w w' := by
 subst h; exact tsame_c A1 A2 c1 c2 xs ys hx hy hwx hwy w h1 h2
theorem rsame_v {A1 A2 : Option Addr} {c1 c2 : Nat} {xs ys : List Rw} {x : Bool} (h : sameP xs ys = x) (hx : xs.length ≤ maxLen) (hy : ys.length ≤ maxLen) (hwx : Rows_ xs) (hwy : Rows_ ys) {w : World} (h1 : At w w.heap.size A1 (tvs xs)) (h2 : At w w.heap.size A2 (tvs ys)) :
  Calls Tryz.prog 19 #[.slice A1 xs.length c1, .slice A2 ys.length c2] w fun e w' => e = .returned (.bool x) ∧ Below w.heap.size w w' := by
 subst h; exact rsame_c A1 A2 c1 c2 xs ys hx hy hwx hwy w h1 h2
theorem fresh_v {l : List Rw} {n : Nat} (hn : l.length = n) {w : World} {e : Ending} {w' : World} (h : Fresh_ l w e w') :
  ∃ A cap, e = .returned (.slice A n cap) ∧ At w' w'.heap.size A (tvs l) ∧ Cap A n cap ∧ Below w.heap.size w w' := by
 obtain ⟨A, cap, he, ho, hb⟩ := h
 subst hn
 obtain ⟨A', cap', he', hat, h1, h2, -⟩ := own_toldR ho hb
 cases he'
 exact ⟨A, cap, he, hat, ⟨h1, h2⟩, hb⟩
theorem told_v {l : List Rw} {n : Nat} (hn : l.length = n) {w : World} {e : Ending} {w' : World} (h : Told_ l w e w') :
  ∃ A cap, e = .returned (.slice A n cap) ∧ At w' w'.heap.size A (tvs l) ∧ Cap A n cap ∧ Below w.heap.size w w' := by
 obtain ⟨A, cap, he, hat, h1, h2, hb⟩ := h
 subst hn
 exact ⟨A, cap, he, hat, ⟨h1, h2⟩, hb⟩
theorem toldI_v {l : List Int} {n : Nat} (hn : l.length = n) {w : World} {e : Ending} {w' : World} (h : ToldI l w e w') :
  ∃ A cap, e = .returned (.slice A n cap) ∧ At w' w'.heap.size A (ivs l) ∧ Cap A n cap ∧ Below w.heap.size w w' := by
 obtain ⟨A, cap, he, hat, h1, h2, hb⟩ := h
 subst hn
 exact ⟨A, cap, he, hat, ⟨h1, h2⟩, hb⟩
theorem drop_v {A : Option Addr} {cap : Nat} {l m : List Rw} {c : Int} {n : Nat} (h : dropP l c = m) (hn : m.length = n) (hl : l.length ≤ 100000) (hA : Cap A l.length cap) {w : World} (hc : At w w.heap.size A (tvs l)) :
  Calls Tryz.prog 21 #[.slice A l.length cap, .int .i64 c] w fun e w' => ∃ A cap, e = .returned (.slice A n cap) ∧ At w' w'.heap.size A (tvs m) ∧ Cap A n cap ∧ Below w.heap.size w w' := by
 subst h; exact (drop_c A cap l c hl hA.1 hA.2 w hc).mono fun _ _ hh => fresh_v hn hh
theorem rdrop_v {A : Option Addr} {cap : Nat} {l m : List Rw} {c : Int} {n : Nat} (h : dropP l c = m) (hn : m.length = n) (hl : l.length ≤ 100000) (hA : Cap A l.length cap) {w : World} (hc : At w w.heap.size A (tvs l)) :
  Calls Tryz.prog 22 #[.slice A l.length cap, .int .i64 c] w fun e w' => ∃ A cap, e = .returned (.slice A n cap) ∧ At w' w'.heap.size A (tvs m) ∧ Cap A n cap ∧ Below w.heap.size w w' := by
 subst h; exact (rdrop_c A cap l c hl hA.1 hA.2 w hc).mono fun _ _ hh => told_v hn hh
theorem set_v {A : Option Addr} {cap : Nat} {l m : List Rw} {r : Rw} {n : Nat} (h : setP l r = m) (hn : m.length = n) (hl : l.length ≤ 100000) (hA : Cap A l.length cap) {w : World} (hc : At w w.heap.size A (tvs l)) :
  Calls Tryz.prog 25 #[.slice A l.length cap, .agg #[.int .i64 (ch r), .int .i64 (pa r), .string (ba (nm r)), .float .f64 (rk r)]] w fun e w' => ∃ A cap, e = .returned (.slice A n cap) ∧ At w' w'.heap.size A (tvs m) ∧ Cap A n cap ∧ Below w.heap.size w w' := by
 subst h; exact (set_c A cap l r hl hA.1 hA.2 w hc).mono fun _ _ hh => fresh_v hn hh
theorem rset_v {A : Option Addr} {cap : Nat} {l m : List Rw} {r : Rw} {n : Nat} (h : setP l r = m) (hn : m.length = n) (hl : l.length ≤ 100000) (hA : Cap A l.length cap) {w : World} (hc : At w w.heap.size A (tvs l)) :
  Calls Tryz.prog 26 #[.slice A l.length cap, .agg #[.int .i64 (ch r), .int .i64 (pa r), .string (ba (nm r)), .float .f64 (rk r)]] w fun e w' => ∃ A cap, e = .returned (.slice A n cap) ∧ At w' w'.heap.size A (tvs m) ∧ Cap A n cap ∧ Below w.heap.size w w' := by
 subst h; exact (rset_c A cap l r hl hA.1 hA.2 w hc).mono fun _ _ hh => told_v hn hh
theorem above_v {A : Option Addr} {cap : Nat} {l : List Rw} {a b : Int} {x : Bool} (h : abv l a l.length b = x) (hl : l.length ≤ 100000) {w : World} (hc : At w w.heap.size A (tvs l)) :
  Calls Tryz.prog 27 #[.slice A l.length cap, .int .i64 a, .int .i64 b] w fun e w' => e = .returned (.bool x) ∧ Below w.heap.size w w' := by
 subst h; exact above_any hl A cap a b w hc
theorem rabove_v {A : Option Addr} {cap : Nat} {l : List Rw} {a b : Int} {x : Bool} (h : abv l a l.length b = x) (hl : l.length ≤ maxLen) {w : World} (hc : At w w.heap.size A (tvs l)) :
  Calls Tryz.prog 28 #[.slice A l.length cap, .int .i64 a, .int .i64 b] w fun e w' => e = .returned (.bool x) ∧ Below w.heap.size w w' := by
 subst h; exact rabove_c A cap l a b hl w hc
theorem kids_v {A : Option Addr} {cap : Nat} {l m : List Rw} {p : Int} {n : Nat} (h : kidsR l p = m) (hn : m.length = n) (hl : l.length ≤ 10000) (hs : Kk.S64 l) {w : World} (hc : At w w.heap.size A (tvs l)) :
  Calls Tryz.prog 29 #[.slice A l.length cap, .int .i64 p] w fun e w' => ∃ A cap, e = .returned (.slice A n cap) ∧ At w' w'.heap.size A (tvs m) ∧ Cap A n cap ∧ Below w.heap.size w w' := by
 subst h; exact (Kk.kids_c A cap l p hl hs w hc).mono fun _ _ hh => told_v hn hh
theorem rkids_v {A : Option Addr} {cap : Nat} {l m : List Rw} {p : Int} {n : Nat} (h : kidsR l p = m) (hn : m.length = n) (hl : l.length ≤ 10000) (hs : Rows_ l) {w : World} (hc : At w w.heap.size A (tvs l)) :
  Calls Tryz.prog 30 #[.slice A l.length cap, .int .i64 p] w fun e w' => ∃ A cap, e = .returned (.slice A n cap) ∧ At w' w'.heap.size A (tvs m) ∧ Cap A n cap ∧ Below w.heap.size w w' := by
 subst h; exact (rkids_c A cap l p hl (fun r hr => (hs r hr).1) w hc).mono fun _ _ hh => told_v hn hh
theorem path_v {A : Option Addr} {cap : Nat} {l : List Rw} {c : Int} {q : List Int} {n : Nat} {x : Bool} (h : (wayR l c).getD [] = q) (h2 : (wayR l c).isSome = x) (hn : q.length = n) (hl : l.length ≤ 100000) {w : World} (hc : At w w.heap.size A (tvs l)) :
  Calls Tryz.prog 23 #[.slice A l.length cap, .int .i64 c] w fun e w' => ∃ A cap, e = .returned (.tuple #[.slice A n cap, .bool x]) ∧ At w' w'.heap.size A (ivs q) ∧ Cap A n cap ∧ Below w.heap.size w w' := by
 subst h h2 hn
 refine (path_c A cap l c hl (ordOk_all hl) w hc).mono fun e w' hh => ?_
 rw [← wayR_path] at hh
 obtain ⟨hb, hh⟩ := hh
 cases ho : wayR l c with
 | none =>
  rw [ho] at hh
  exact ⟨none, 0, hh, At.nil _ _ _, ⟨fun _ => rfl, Nat.le_refl _⟩, hb⟩
 | some q =>
  rw [ho] at hh
  obtain ⟨v, he, hown⟩ := hh
  obtain ⟨A', cap', hv, hat, h1, h2, -⟩ := own_toldI hown hb
  cases hv
  exact ⟨A', cap', he, hat, ⟨h1, h2⟩, hb⟩
theorem rpath_v {A : Option Addr} {cap : Nat} {l : List Rw} {c : Int} {q : List Int} {n : Nat} {x : Bool} (h : (wayR l c).getD [] = q) (h2 : (wayR l c).isSome = x) (hn : q.length = n) (hl : l.length ≤ 50000) {w : World} (hc : At w w.heap.size A (tvs l)) :
  Calls Tryz.prog 24 #[.slice A l.length cap, .int .i64 c] w fun e w' => ∃ A cap, e = .returned (.tuple #[.slice A n cap, .bool x]) ∧ At w' w'.heap.size A (ivs q) ∧ Cap A n cap ∧ Below w.heap.size w w' := by
 subst h h2 hn
 refine (rpath_c A cap l c hl w hc).mono fun e w' hh => ?_
 obtain ⟨A', cap', he, hat, h1, h2, hb⟩ := hh
 exact ⟨A', cap', he, hat, ⟨h1, h2⟩, hb⟩
theorem reached_v {A : Option Addr} {cap : Nat} {l : List Rw} {q : List Int} {n : Nat} (h : reachR l = q) (hn : q.length = n) (hl : l.length ≤ 1000) (hi : ∀ r ∈ l, In64 (ch r) ∧ In64 (pa r)) {w : World} (hc : At w w.heap.size A (tvs l)) :
  Calls Tryz.prog 32 #[.slice A l.length cap] w fun e w' => ∃ A cap, e = .returned (.slice A n cap) ∧ At w' w'.heap.size A (ivs q) ∧ Cap A n cap ∧ Below w.heap.size w w' := by
 subst h; exact (reached_c A cap l hl hi w hc).mono fun _ _ hh => toldI_v hn hh
theorem rreached_v {A : Option Addr} {cap : Nat} {l : List Rw} {q : List Int} {n : Nat} (h : reachR l = q) (hn : q.length = n) (hl : l.length ≤ 10000) {w : World} (hc : At w w.heap.size A (tvs l)) :
  Calls Tryz.prog 33 #[.slice A l.length cap] w fun e w' => ∃ A cap, e = .returned (.slice A n cap) ∧ At w' w'.heap.size A (ivs q) ∧ Cap A n cap ∧ Below w.heap.size w w' := by
 subst h; exact (rreached_c A cap l hl w hc).mono fun _ _ hh => toldI_v hn hh
theorem same5_v {A1 A2 : Option Addr} {c1 c2 : Nat} {xs ys : List Int} {x : Bool} (h : decide (xs = ys) = x) (hx : xs.length ≤ maxLen) (hy : ys.length ≤ maxLen) {w : World} (h1 : At w w.heap.size A1 (ivs xs)) (h2 : At w w.heap.size A2 (ivs ys)) :
  Calls Tryz.prog 31 #[.slice A1 xs.length c1, .slice A2 ys.length c2] w fun e w' => e = .returned (.bool x) ∧ Below w.heap.size w w' := by
 subst h; exact (same5_q A1 A2 c1 c2 xs ys hx hy w h1 h2).mono fun _ _ hh => ⟨hh.1, by obtain ⟨q, hq⟩ := hh.2; rw [hq]; exact below_drewN (Below.refl _ _) q⟩
end Go.Proofs.YtkobmnbjeppnaaaGreat
