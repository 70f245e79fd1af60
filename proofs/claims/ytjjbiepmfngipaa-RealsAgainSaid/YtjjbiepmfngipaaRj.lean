/-
  delta's steps: each number with the one ahead; Deltas.
-/
import Derived.Test.YtjjbiepmfngipaaRb
import Derived.Deep.RegionLaw
import Derived.Test.YtjjbiepmfngipaaBs
import Derived.Test.YtjjbiepmfngipaaBb
import Derived.Test.YtjjbiepmfngipaaMg
import Derived.Test.YtjjbiepmfngipaaBi
import Derived.Test.YtjjbiepmfngipaaBk
namespace Go.Proofs.Ytjjbiepmfngipaa
open Go.RowKit
open Pk
set_option maxRecDepth 100000
attribute [local go_sem] Oper.semAt_some

theorem prs_at {a : Int} {l : List Int} {k : Nat} {x : Int} (h : l[k]? = some x) : prs a (l.drop k) = (a, x) :: prs x (l.drop (k + 1)) := by
  rw [drop_at_cons h]; rfl

set_option maxHeartbeats 2000000 in
/-- the iterator: each number with the one ahead, for every loop body that keeps what lay below n₀ -/
theorem Try.info3 : (Try.prog.info? 3).map (fun i => (i.zero, i.size, i.bytes)) = some (some (.int .i64 0), 1, 8) := by kernel_rfl
def dpre (pre : List (Int × Int)) : List Int := pre.map fun p => w64 (p.2 - p.1)

end Go.Proofs.Ytjjbiepmfngipaa

namespace Go.Proofs.Ytjjbiepmfngipaa
open Go.RowKit
open Pk
set_option maxRecDepth 100000

theorem own_snocI {w : World} {base : Nat} {v : Value} {xs : List Int} {x : Int} (h : w.ownsRow base 3 1 v (xs.length + 1) (ivs xs ++ [.int .i64 x])) : w.ownsRow base 3 1 v (xs ++ [x]).length (ivs (xs ++ [x])) := by
  rw [List.length_append]; simpa [ivs] using h
theorem below_ownI {B : Nat} {w w1 w2 : World} {v : Value} {o : Obj} {e : TypeId} {size n : Nat} {xs : List Value} (hb : Below B w w1) (hB : B ≤ w1.heap.size) (hown : w1.ownsRow B e size v n xs) (hg : (w1.alloc o).grownBy w2 v.ownBlock) : Below B w w2 :=
  (hb.alloc hB o).grown hg (by simp; omega) (fun k hk => (hown.lt k hk).1)

theorem wrap_w64 (x : Int) : wrap64 x = w64 x := by unfold wrap64 w64; rfl
/-- a sum on the unsigned side -/
theorem usum (acc : Nat) (x : Int) : ∃ u : Nat, u < 18446744073709551616 ∧ IntKind.u64.wrap ((acc : Int) + IntKind.u64.wrap x) = (u : Int) ∧ w64 (u : Int) = w64 (w64 (acc : Int) + x) := by
  refine ⟨(((acc : Int) + x % 18446744073709551616) % 18446744073709551616).toNat, by omega, by rw [IntKind.wrap_u64, IntKind.wrap_u64]; omega, ?_⟩
  unfold w64
  omega

end Go.Proofs.Ytjjbiepmfngipaa

namespace Go.Proofs.Ytjjbiepmfngipaa
open Go.RowKit Go.IntWalk
open Pk
set_option maxRecDepth 100000

/-- append to a row of the call's own, as one step of a region that draws -/
theorem step_append_own {P : Program} {ops : Array Oper} {o : Oper} {a : Act} {w : World} {K : Act → World → Prop} {Q : Exit → Act → World → Prop} {E : Prop} (hgd : o.guard = none) (s x : Operand) (t : TypeId)
    (ho : o.op = .call { callee := .builtin .append, args := #[s, x], argTypes := #[t, t] })
    (base : Nat) (e : TypeId) (i : TypeInfo) (z : Value) (size bytes : Nat) (ht : P.underlying t = some (.slice e)) (hi : P.info? e = some i) (hz : i.zero = some z)
    (hsize : i.size = size) (hby : i.bytes = bytes) (hzs : z.cells.size = size) (hsz : 0 < size)
    (v : Value) (n : Nat) (xs : List Value) (hs : a.eval s = v) (hown : w.ownsRow base e size v n xs)
    (ad : Addr) (m c : Nat) (news : List Value) (hx : a.eval x = .slice (some ad) m c) (hl : news.length = m * size) (hnews : ∀ j u, news[j]? = some u → w.cell? (ad.add j) = some u) (h1 : ∀ u ∈ news, u.oneCell' = true)
    (h63 : n + m ≤ maxLen) (hbytes : (n + m) * bytes ≤ 140737488355328) (hbase : base ≤ w.heap.size)
    (h : ∀ v' w', w'.ownsRow base e size v' (n + m) (xs ++ news) → w.grownBy w' v.ownBlock → K (a.put o.dst v') w') :
    if Region.wanted o (yielded ops a.tmps) = true then Oper.wp P o a w K Q else E := by
  have hw : Region.wanted o (yielded ops a.tmps) = true := by simp [Region.wanted, hgd]
  rw [if_pos hw]
  exact wp_append_own w s x t ho base e i z size bytes ht hi hz hsize hby hzs hsz v n xs hs hown ad m c news hx hl hnews h1 h63 hbytes hbase fun v' w' h2 h3 _ => h v' w' h2 h3

theorem own_drew {w : World} {base : Nat} {e : TypeId} {size : Nat} {v : Value} {n : Nat} {xs : List Value} (h : w.ownsRow base e size v n xs) : w.drew.ownsRow base e size v n xs := h
/-- a difference on the unsigned side -/
theorem udiff (x a : Int) : wrap64 (IntKind.u64.wrap (IntKind.u64.wrap x - IntKind.u64.wrap a)) = w64 (x - a) := by
  rw [IntKind.wrap_u64, IntKind.wrap_u64, IntKind.wrap_u64]
  unfold wrap64 w64
  omega

end Go.Proofs.Ytjjbiepmfngipaa

namespace Go.Proofs.Ytjjbiepmfngipaa
open Go.RowKit Go.IntWalk
open Pk
set_option maxRecDepth 100000
attribute [local go_sem] Oper.semAt_some

/-- each is above the one ahead -/
def up (pre : List (Int × Int)) : Bool := pre.all fun p => decide (p.1 < p.2)
theorem up_snoc (pre : List (Int × Int)) (x : Int × Int) : up (pre ++ [x]) = (up pre && decide (x.1 < x.2)) := by simp [up]

end Go.Proofs.Ytjjbiepmfngipaa

namespace Go.Proofs.Ytjjbiepmfngipaa
open Go.RowKit Go.IntWalk
open Pk
set_option maxRecDepth 100000

theorem but_cell {B b : Nat} {w w' : World} (h : But B b w w') {p : Addr} (hp : p.block < B) (hne : p.block ≠ b) : w'.cell? p = w.cell? p := World.cell?_of_block (h.block _ hp hne)

theorem ba_append (a b : List UInt8) : ba a ++ ba b = ba (a ++ b) := by
  apply ByteArray.ext
  simp [ba]
theorem add_ba (a b : List UInt8) (h : a.length + b.length ≤ 9223372036854775807) (w : World) : (Op.stringOp .add (ba a) (ba b)).run Try.prog w = .ok (.string (ba (a ++ b))) w := by
  rw [run_string_add_sum w (ba a) (ba b) (by rw [ba_size, ba_size]; exact h), ba_append]

end Go.Proofs.Ytjjbiepmfngipaa

namespace Go.Proofs.Ytjjbiepmfngipaa
open Go.RowKit Go.IntWalk
open Pk
set_option maxRecDepth 100000
attribute [local go_sem] Oper.semAt_some

theorem rdr_grown {w w' : World} {q : Nat} {s : St} (h : Rdr w q s) (hg : Below w.heap.size w w') : Rdr w' q s := is_below h hg (is_lt h)
theorem only_cell {w w' : World} {q : Nat} (h : w.grownBy w' (some q)) {p : Addr} {v : Value} (hc : w.cell? p = some v) (hne : p.block ≠ q) : w'.cell? p = some v := by
  rw [World.cell?_of_block (h.block _ (World.block_lt_of_cell? _ _ hc) (fun e => hne (by injection e)))]; exact hc

/-- what the iterator over a Reader of s0 leaves -/
def IntsEnd (q n : Nat) (s0 : St) (ys : List Int) (W : World) : Prop := Rdr W q (rdn n s0).2 ∧ ((rdn n s0).2.e = 0 → ys = (rdn n s0).1)

theorem ownFrom_only {β : Type} {B q : Nat} {w0 : World} (hB : w0.heap.size ≤ B) : OwnFrom B (fun (_ : β) W => w0.grownBy W (some q)) :=
  fun _ X Y row hs hg hr => ⟨hg.os.trans hs.os, hg.tape.trans hs.tape, hg.output.trans hs.output, Nat.le_trans hs.size hg.size, fun i hi hne =>
    (hg.block i (Nat.lt_of_lt_of_le hi hs.size) (fun e => by have := (hr i e.symm).1; omega)).trans (hs.block i hi hne)⟩
theorem ownFrom_rdr {B q n : Nat} {s0 : St} : OwnFrom B (IntsEnd q n s0) := fun ys X Y row hs hg hr => by
  refine ⟨?_, hs.2⟩
  have hk : X.heap[q]? = _ := hs.1
  refine (hg.block q (is_lt hs.1) (fun e => ?_)).trans hk
  obtain ⟨_, o, ho, hc⟩ := hr q e.symm
  rw [hk] at ho
  cases ho
  cases hc
theorem only_then {a b c : World} {q : Nat} (h : a.grownBy b (some q)) (k : Below a.heap.size b c) : a.grownBy c (some q) :=
  ⟨k.os.trans h.os, k.tape.trans h.tape, k.output.trans h.output, Nat.le_trans h.size k.size, fun i hi hne => (k.block i hi).trans (h.block i hi hne)⟩
theorem only_put {a b : World} {q D : Nat} (h : a.grownBy b (some q)) (hD : a.heap.size ≤ D) (o : Obj) : a.grownBy (b.putObj D o) (some q) :=
  ⟨h.os, h.tape, h.output, by simp; exact h.size, fun i hi hne => (World.putObj_heap_other (by omega)).trans (h.block i hi hne)⟩

end Go.Proofs.Ytjjbiepmfngipaa

namespace Go.Proofs.Ytjjbiepmfngipaa
open Go.RowKit Go.IntWalk
open Pk
set_option maxRecDepth 100000
attribute [local go_sem] Oper.semAt_some

/-- what Decode answers -/
def DecEnd (r : List Int × Int) (w : World) (e : Ending) (w' : World) : Prop :=
  ∃ A cap, e = .returned (.tuple #[.slice A r.1.length cap, .int .i64 r.2]) ∧ r.1.length ≤ cap ∧ Fresh w.heap.size A ∧ At w' w'.heap.size A (ivs r.1) ∧ Below w.heap.size w w'
theorem decEnd_nil {r : List Int × Int} {w w' : World} {x : Int} (h : r = ([], x)) (hb : Below w.heap.size w w') : DecEnd r w (.returned (.tuple #[.slice none 0 0, .int .i64 x])) w' := by
  subst h
  exact ⟨none, 0, rfl, Nat.le_refl _, fun a ha => (by cases ha), At.nil _ _ _, hb⟩

theorem ref_drewN' {w : World} {q : Nat} {l : List UInt8} {s : St} (h : Ref w q l s) (n : Nat) : Ref (w.drewN n) q l s := h
theorem own_only {w w' : World} {B e size n q : Nat} {v : Value} {xs : List Value} (h : w.ownsRow B e size v n xs) (ho : w.grownBy w' (some q)) (hq : q < B) : w'.ownsRow B e size v n xs :=
  h.kept ho (by
    by_cases hb : v.ownBlock = none
    · exact .inl hb
    · exact .inr fun e => by have := (h.lt q e).1; omega)
theorem at_drewN {w : World} {A : Option Addr} {xs : List Value} (h : At w w.heap.size A xs) (n : Nat) : At (w.drewN n) (w.drewN n).heap.size A xs := h
theorem ref_new {w w2 : World} {q : Nat} {l : List UInt8} {s : St} {o : Obj} {B : Nat} {e : TypeId} {size n : Nat} {v : Value} {xs : List Value} (h : Ref w q l s) (hown : w.ownsRow B e size v n xs) (hg : (w.alloc o).grownBy w2 v.ownBlock) (hq : q < B) : Ref w2 q l s := by
  obtain ⟨k, hk, hd, hr⟩ := h
  exact ⟨k, hk, hd, is_grown (is_alloc hr o) hg (fun e => by have := (hown.lt q e.symm).1; omega)⟩

end Go.Proofs.Ytjjbiepmfngipaa

namespace Go.Proofs.Ytjjbiepmfngipaa
open Go.RowKit Go.IntWalk
open Pk
set_option maxRecDepth 100000

theorem at_new (w : World) (t : TypeId) (l : List Value) : At (w.alloc (.cells l.toArray t)) (w.alloc (.cells l.toArray t)).heap.size (some ⟨w.heap.size, 0, none⟩) l := fun i v hv =>
  ⟨w.heap.size, 0, rfl, by simp, by rw [is_cell (is_new w t l), Nat.zero_add]; exact hv⟩

namespace live5
theorem e1 : encL [5, 3] = [10, 3] := by
  have h1 : put 10 = [10] := by rw [put_lo (by omega)]; rfl
  have h2 : put 3 = [3] := by rw [put_lo (by omega)]; rfl
  have h3 : dl 0 [5, 3] = [5, -2] := rfl
  have h4 : zig 5 = 10 := rfl
  have h5 : zig (-2) = 3 := rfl
  unfold encL
  rw [h3, encD_cons, encD_cons, encD_nil, h4, h5, h1, h2]
  rfl
theorem d2 : decV [10, 3] 2 = ([5, 3], 0) := by
  have := dec_enc [5, 3] (fun x hx => by simp at hx; rcases hx with rfl | rfl <;> (unfold In64; omega))
  rw [e1] at this
  exact this
theorem d1 : decV [10, 3] 1 = ([], 5) := by
  have h1 : put 10 = [10] := by rw [put_lo (by omega)]; rfl
  have h := rdn_enc [5] [3] (fun x hx => by simp at hx; subst hx; unfold In64; omega)
  rw [encD_cons, encD_nil, show zig 5 = 10 from rfl, h1] at h
  have h' : rdn 1 ⟨[10, 3], 0⟩ = ([5], ⟨[3], 0⟩) := h
  have := @decV_bad [10, 3] 1 (by decide) (by rw [h']; decide)
  rw [h'] at this
  exact this
theorem d3 : decV [10, 3] 3 = ([], 2) := decV_far (by decide)
theorem dl1 : decV [128, 0] 1 = ([], 3) := by
  have h : numS ⟨[128, 0], 0⟩ = ⟨[128, 0], 3⟩ := rfl
  have h' : (rdn 1 ⟨[128, 0], 0⟩).2 = ⟨[128, 0], 3⟩ := by rw [rdn]; exact h
  have := @decV_bad [128, 0] 1 (by decide) (by rw [h']; decide)
  rw [h'] at this
  exact this
theorem dn : decV [] (-1) = ([], 1) := decV_neg (by omega)
theorem d0 : decV [] 0 = ([], 0) := rfl
end live5
end Go.Proofs.Ytjjbiepmfngipaa
