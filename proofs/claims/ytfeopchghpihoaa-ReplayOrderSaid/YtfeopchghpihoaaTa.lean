/-
  Rows as cells; the place of the first row that fits (slices.IndexFunc, slices.ContainsFunc).
-/
import Derived.Test.YtfeopchghpihoaaRb
import Derived.Deep.LoopGhost
import Derived.WalkMore
import Derived.Shelf.Abstract
namespace Go.Proofs.Ytfeopchghpihoaa
open Go.RowKit Go.IntWalk
set_option maxRecDepth 100000
attribute [local go_sem] Oper.semAt_some

/-- a row: its child, its parent, its name, its rank -/
abbrev Rw := Int × Int × List UInt8 × Nat
abbrev ch (r : Rw) : Int := r.1
abbrev pa (r : Rw) : Int := r.2.1
abbrev nm (r : Rw) : List UInt8 := r.2.2.1
abbrev rk (r : Rw) : Nat := r.2.2.2
def rcs (r : Rw) : List Value := [.int .i64 (ch r), .int .i64 (pa r), .string (ba (nm r)), .float .f64 (rk r)]
def rv (r : Rw) : Value := .agg #[.int .i64 (ch r), .int .i64 (pa r), .string (ba (nm r)), .float .f64 (rk r)]
/-- the cells of a list of rows -/
def tvs (l : List Rw) : List Value := l.flatMap rcs
/-- such rows as a program may have -/
def Rows_ (l : List Rw) : Prop := ∀ r ∈ l, rk r < 18446744073709551616 ∧ (nm r).length ≤ maxLen
theorem tvs_len (l : List Rw) : (tvs l).length = l.length * 4 := by
  induction l with
  | nil => rfl
  | cons x l ih =>
    have h : tvs (x :: l) = rcs x ++ tvs l := rfl
    rw [h, List.length_append, List.length_cons, ih, show (rcs x).length = 4 from rfl]
    omega
theorem tvs_append (a b : List Rw) : tvs (a ++ b) = tvs a ++ tvs b := by simp [tvs]
theorem tvs_snoc (l : List Rw) (r : Rw) : tvs (l ++ [r]) = tvs l ++ [.int .i64 (ch r), .int .i64 (pa r), .string (ba (nm r)), .float .f64 (rk r)] := by simp [tvs, rcs]
theorem tvs_one (l : List Rw) : ∀ u ∈ tvs l, u.oneCell' = true := by
  intro u hu
  simp only [tvs, List.mem_flatMap, rcs] at hu
  obtain ⟨x, _, hx⟩ := hu
  simp only [List.mem_cons, List.not_mem_nil, or_false] at hx
  rcases hx with rfl | rfl | rfl | rfl <;> rfl
theorem tvs_take (l : List Rw) : ∀ j, tvs (l.take j) = (tvs l).take (j * 4) := by
  induction l with
  | nil => intro j; simp [tvs]
  | cons c l ih =>
    intro j
    cases j with
    | zero => simp [tvs]
    | succ j =>
      rw [List.take_succ_cons, show tvs (c :: l.take j) = rcs c ++ tvs (l.take j) from rfl, ih, show tvs (c :: l) = rcs c ++ tvs l from rfl, List.take_append, List.take_of_length_le (l := rcs c) (by show 4 ≤ (j + 1) * 4; omega), show (j + 1) * 4 - (rcs c).length = j * 4 from by show (j + 1) * 4 - 4 = _; omega]
theorem tvs_drop (l : List Rw) : ∀ j, tvs (l.drop j) = (tvs l).drop (j * 4) := by
  induction l with
  | nil => intro j; simp [tvs]
  | cons c l ih =>
    intro j
    cases j with
    | zero => simp [tvs]
    | succ j =>
      rw [List.drop_succ_cons, ih, show tvs (c :: l) = rcs c ++ tvs l from rfl, List.drop_append, List.drop_of_length_le (l := rcs c) (by show 4 ≤ (j + 1) * 4; omega), show (j + 1) * 4 - (rcs c).length = j * 4 from by show (j + 1) * 4 - 4 = _; omega, List.nil_append]
theorem tvs_at {l : List Rw} {k : Nat} {x : Rw} (h : l[k]? = some x) : (tvs l)[k * 4]? = some (.int .i64 (ch x)) ∧ (tvs l)[k * 4 + 1]? = some (.int .i64 (pa x)) ∧ (tvs l)[k * 4 + 2]? = some (.string (ba (nm x))) ∧ (tvs l)[k * 4 + 3]? = some (.float .f64 (rk x)) := by
  have hd : tvs (l.drop k) = rcs x ++ tvs (l.drop (k + 1)) := by
    have hk := (List.getElem?_eq_some_iff.1 h).1
    have hc := (List.getElem?_eq_some_iff.1 h).2
    rw [List.drop_eq_getElem_cons hk, hc]; rfl
  rw [tvs_drop] at hd
  have g : ∀ i, (tvs l)[k * 4 + i]? = (rcs x ++ tvs (l.drop (k + 1)))[i]? := fun i => by rw [← hd, List.getElem?_drop]
  exact ⟨by have := g 0; simpa [rcs] using this, by have := g 1; simpa [rcs] using this, by have := g 2; simpa [rcs] using this, by have := g 3; simpa [rcs] using this⟩
theorem row_cells {w : World} {B k : Nat} {A : Option Addr} {l : List Rw} {x : Rw} (h : At w B A (tvs l)) (hk : l[k]? = some x) :
    ∃ b off, A = some ⟨b, off, none⟩ ∧ b < B ∧ w.cell? ⟨b, off + k * 4, none⟩ = some (.int .i64 (ch x)) ∧ w.cell? ⟨b, off + k * 4 + 1, none⟩ = some (.int .i64 (pa x)) ∧ w.cell? ⟨b, off + k * 4 + 2, none⟩ = some (.string (ba (nm x))) ∧ w.cell? ⟨b, off + k * 4 + 3, none⟩ = some (.float .f64 (rk x)) := by
  obtain ⟨h1, h2, h3, h4⟩ := tvs_at hk
  obtain ⟨b, off, hA, hlt, hc⟩ := h _ _ h1
  obtain ⟨b', off', hA', _, hc'⟩ := h _ _ h2
  rw [hA] at hA'
  cases hA'
  obtain ⟨b', off', hA', _, hc2⟩ := h _ _ h3
  rw [hA] at hA'
  cases hA'
  obtain ⟨b', off', hA', _, hc3⟩ := h _ _ h4
  rw [hA] at hA'
  cases hA'
  exact ⟨b, off, hA, hlt, hc, hc', hc2, hc3⟩
theorem Try.info59 : (Try.prog.info? 59).map (fun i => (i.zero, i.size, i.bytes)) = some (some (.agg #[.int .i64 0, .int .i64 0, .string ByteArray.empty, .float .f64 0]), 4, 40) := by kernel_rfl
theorem lt_of_cell {w : World} {p : Addr} {v : Value} (h : w.cell? p = some v) : p.block < w.heap.size := World.block_lt_of_cell? w p h
theorem keep_cell {X w' : World} {p : Addr} {v : Value} (hb : Below X.heap.size X w') (h : X.cell? p = some v) : w'.cell? p = some v := (hb.cell (lt_of_cell h)).trans h

/-- what a function value says of a row, wherever it is asked -/
def Pred (g : Nat) (lb : Array Value) (p : Rw → Bool) (w : World) (l : List Rw) : Prop :=
  ∀ (W : World) (r : Rw), Below w.heap.size w W → r ∈ l → Calls Try.prog g (#[rv r] ++ lb) W fun e W' => e = .returned (.bool (p r)) ∧ Below W.heap.size W W'
def idx (p : Rw → Bool) (l : List Rw) : Int := match l.findIdx? p with
  | some i => (i : Int)
  | none => -1
theorem idx_none {p : Rw → Bool} {l : List Rw} (h : ∀ r ∈ l, p r = false) : idx p l = -1 := by
  have : l.findIdx? p = none := List.findIdx?_eq_none_iff.2 h
  unfold idx; rw [this]
theorem idx_some {p : Rw → Bool} {l : List Rw} {k : Nat} {r : Rw} (hk : l[k]? = some r) (hp : p r = true) (h : ∀ x ∈ l.take k, p x = false) : idx p l = (k : Int) := by
  have hkl := (List.getElem?_eq_some_iff.1 hk).1
  have hkr := (List.getElem?_eq_some_iff.1 hk).2
  have : l.findIdx? p = some k := by
    rw [List.findIdx?_eq_some_iff_getElem]
    refine ⟨hkl, by rw [hkr]; exact hp, fun j hj => ?_⟩
    have := h l[j] (by rw [List.mem_take_iff_getElem]; exact ⟨j, by omega, rfl⟩)
    simp [this]
  unfold idx; rw [this]

set_option maxHeartbeats 2000000 in
theorem indexFunc_c (A : Option Addr) (cap : Nat) (l : List Rw) (g : Nat) (lb : Array Value) (p : Rw → Bool) (hl : l.length ≤ maxLen) (eg : ∀ args w, (callFunc g args).run Try.prog w = .ok (.enter g args) w) (w : World)
    (hc : At w w.heap.size A (tvs l)) (hp : Pred g lb p w l) :
    Calls Try.prog 66 #[.slice A l.length cap, .func (.func g) #[] lb] w fun e w' => e = .returned (.int .i64 (idx p l)) ∧ Below w.heap.size w w' := by
  unfold maxLen at hl
  obtain ⟨R, hR⟩ : ∃ R, idx p l = R := ⟨_, rfl⟩
  rw [hR]
  have HR := Lib.hid hR
  have HC := Lib.hid hc
  have HP := Lib.hid hp
  clear hR hc hp
  go_enter Try.func66, Try.ntmps66
  go_wp2_with fail
  go_loopw [8] (fun i wr => ∃ k : Nat, i = .int .i64 (k : Int) ∧ k ≤ l.length ∧ (∀ x ∈ l.take k, p x = false) ∧ Below w.heap.size w wr) (fun i _ => l.length - (intOf i).toNat)
  case atStart => exact ⟨0, rfl, Nat.zero_le _, fun x hx => by simp at hx, Below.refl _ _⟩
  case round =>
    obtain ⟨k, rfl, hk, hno, hb⟩ := hrel
    have HN := Lib.hid hno
    clear hno
    by_cases hlt : k < l.length
    · obtain ⟨r, hr⟩ := some_at hlt
      obtain ⟨b0, o0, rfl, hb0, c0, c1, c2, c3⟩ := row_cells (HC.out.below hb) hr
      have hcall := HP.out wr r hb (mem_at hr)
      have HRR := Lib.hid hr
      clear hr
      cases hq : p r with
      | true =>
        rw [hq] at hcall
        go_wp2_with (go_at_fn g; refine hcall.mono ?_; rintro e w' ⟨rfl, hb'⟩)
        go_ret
        rw [← HR.out, idx_some HRR.out hq HN.out]
        exact ⟨rfl, hb.trans (hb'.mono hb.size)⟩
      | false =>
        rw [hq] at hcall
        have HQ := Lib.hid hq
        clear hq
        go_wp2_with (go_at_fn g; refine hcall.mono ?_; rintro e w' ⟨rfl, hb'⟩)
        go_roundw
        case rel =>
          refine ⟨k + 1, by go_num, by omega, fun x hx => ?_, hb.trans (hb'.mono hb.size)⟩
          rw [List.take_add_one, HRR.out] at hx
          rcases List.mem_append.1 hx with h | h
          · exact HN.out x h
          · simp at h; rw [h]; exact HQ.out
        case measure => simp only [intOf]; omega
    · obtain rfl : k = l.length := by omega
      have h := HN.out
      rw [List.take_length] at h
      have HNN := Lib.hid h
      clear h
      go_wp2_with fail
      go_ret
      rw [← HR.out, idx_none HNN.out]
      exact ⟨rfl, hb⟩
end Go.Proofs.Ytfeopchghpihoaa
