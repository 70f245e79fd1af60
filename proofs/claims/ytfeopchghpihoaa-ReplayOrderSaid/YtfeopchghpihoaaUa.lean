/-
  Moves as cells; the place of the first move that fits (slices.IndexFunc).
-/
import Derived.Test.YtfeopchghpihoaaTe
namespace Go.Proofs.Ytfeopchghpihoaa
open Go.RowKit Go.IntWalk
set_option maxRecDepth 100000
attribute [local go_sem] Oper.semAt_some

/-- a move: its time's counter, and replica, and where it lays its node -/
abbrev Mv := Int × Int × Rw
abbrev mc (m : Mv) : Int := m.1
abbrev mr (m : Mv) : Int := m.2.1
abbrev mw (m : Mv) : Rw := m.2.2
def mcs (m : Mv) : List Value := [.int .i64 (mc m), .int .i64 (mr m), .int .i64 (pa (mw m)), .int .i64 (ch (mw m)), .string (ba (nm (mw m))), .float .f64 (rk (mw m))]
def mv (m : Mv) : Value := .agg #[.int .i64 (mc m), .int .i64 (mr m), .int .i64 (pa (mw m)), .int .i64 (ch (mw m)), .string (ba (nm (mw m))), .float .f64 (rk (mw m))]
/-- the cells of a list of moves -/
def mvs (l : List Mv) : List Value := l.flatMap mcs
/-- such moves as a program may have -/
def Moves_ (l : List Mv) : Prop := ∀ m ∈ l, rk (mw m) < 18446744073709551616 ∧ (nm (mw m)).length ≤ maxLen
theorem mvs_len (l : List Mv) : (mvs l).length = l.length * 6 := by
  induction l with
  | nil => rfl
  | cons x l ih =>
    have h : mvs (x :: l) = mcs x ++ mvs l := rfl
    rw [h, List.length_append, List.length_cons, ih, show (mcs x).length = 6 from rfl]
    omega
theorem mvs_append (a b : List Mv) : mvs (a ++ b) = mvs a ++ mvs b := by simp [mvs]
theorem mvs_snoc (l : List Mv) (m : Mv) : mvs (l ++ [m]) = mvs l ++ [.int .i64 (mc m), .int .i64 (mr m), .int .i64 (pa (mw m)), .int .i64 (ch (mw m)), .string (ba (nm (mw m))), .float .f64 (rk (mw m))] := by simp [mvs, mcs]
theorem mvs_one (l : List Mv) : ∀ u ∈ mvs l, u.oneCell' = true := by
  intro u hu
  simp only [mvs, List.mem_flatMap, mcs] at hu
  obtain ⟨x, _, hx⟩ := hu
  simp only [List.mem_cons, List.not_mem_nil, or_false] at hx
  rcases hx with rfl | rfl | rfl | rfl | rfl | rfl <;> rfl
theorem mvs_take (l : List Mv) : ∀ j, mvs (l.take j) = (mvs l).take (j * 6) := by
  induction l with
  | nil => intro j; simp [mvs]
  | cons c l ih =>
    intro j
    cases j with
    | zero => simp [mvs]
    | succ j =>
      rw [List.take_succ_cons, show mvs (c :: l.take j) = mcs c ++ mvs (l.take j) from rfl, ih, show mvs (c :: l) = mcs c ++ mvs l from rfl, List.take_append, List.take_of_length_le (l := mcs c) (by show 6 ≤ (j + 1) * 6; omega), show (j + 1) * 6 - (mcs c).length = j * 6 from by show (j + 1) * 6 - 6 = _; omega]
theorem mvs_drop (l : List Mv) : ∀ j, mvs (l.drop j) = (mvs l).drop (j * 6) := by
  induction l with
  | nil => intro j; simp [mvs]
  | cons c l ih =>
    intro j
    cases j with
    | zero => simp [mvs]
    | succ j =>
      rw [List.drop_succ_cons, ih, show mvs (c :: l) = mcs c ++ mvs l from rfl, List.drop_append, List.drop_of_length_le (l := mcs c) (by show 6 ≤ (j + 1) * 6; omega), show (j + 1) * 6 - (mcs c).length = j * 6 from by show (j + 1) * 6 - 6 = _; omega, List.nil_append]
theorem mvs_at {l : List Mv} {k : Nat} {x : Mv} (h : l[k]? = some x) : (mvs l)[k * 6]? = some (.int .i64 (mc x)) ∧ (mvs l)[k * 6 + 1]? = some (.int .i64 (mr x)) ∧ (mvs l)[k * 6 + 2]? = some (.int .i64 (pa (mw x))) ∧ (mvs l)[k * 6 + 3]? = some (.int .i64 (ch (mw x))) ∧ (mvs l)[k * 6 + 4]? = some (.string (ba (nm (mw x)))) ∧ (mvs l)[k * 6 + 5]? = some (.float .f64 (rk (mw x))) := by
  have hd : mvs (l.drop k) = mcs x ++ mvs (l.drop (k + 1)) := by
    have hk := (List.getElem?_eq_some_iff.1 h).1
    have hc := (List.getElem?_eq_some_iff.1 h).2
    rw [List.drop_eq_getElem_cons hk, hc]; rfl
  rw [mvs_drop] at hd
  have g : ∀ i, (mvs l)[k * 6 + i]? = (mcs x ++ mvs (l.drop (k + 1)))[i]? := fun i => by rw [← hd, List.getElem?_drop]
  exact ⟨by have := g 0; simpa [mcs] using this, by have := g 1; simpa [mcs] using this, by have := g 2; simpa [mcs] using this, by have := g 3; simpa [mcs] using this, by have := g 4; simpa [mcs] using this, by have := g 5; simpa [mcs] using this⟩
theorem move_cells {w : World} {B k : Nat} {A : Option Addr} {l : List Mv} {x : Mv} (h : At w B A (mvs l)) (hk : l[k]? = some x) :
    ∃ b off, A = some ⟨b, off, none⟩ ∧ b < B ∧ w.cell? ⟨b, off + k * 6, none⟩ = some (.int .i64 (mc x)) ∧ w.cell? ⟨b, off + k * 6 + 1, none⟩ = some (.int .i64 (mr x)) ∧ w.cell? ⟨b, off + k * 6 + 2, none⟩ = some (.int .i64 (pa (mw x))) ∧ w.cell? ⟨b, off + k * 6 + 3, none⟩ = some (.int .i64 (ch (mw x))) ∧ w.cell? ⟨b, off + k * 6 + 4, none⟩ = some (.string (ba (nm (mw x)))) ∧ w.cell? ⟨b, off + k * 6 + 5, none⟩ = some (.float .f64 (rk (mw x))) := by
  obtain ⟨h1, h2, h3, h4, h5, h6⟩ := mvs_at hk
  obtain ⟨b, off, hA, hlt, hc⟩ := h _ _ h1
  obtain ⟨b', off', hA', _, hc1⟩ := h _ _ h2
  rw [hA] at hA'
  cases hA'
  obtain ⟨b', off', hA', _, hc2⟩ := h _ _ h3
  rw [hA] at hA'
  cases hA'
  obtain ⟨b', off', hA', _, hc3⟩ := h _ _ h4
  rw [hA] at hA'
  cases hA'
  obtain ⟨b', off', hA', _, hc4⟩ := h _ _ h5
  rw [hA] at hA'
  cases hA'
  obtain ⟨b', off', hA', _, hc5⟩ := h _ _ h6
  rw [hA] at hA'
  cases hA'
  exact ⟨b, off, hA, hlt, hc, hc1, hc2, hc3, hc4, hc5⟩
theorem Try.info38 : (Try.prog.info? 38).map (fun i => (i.zero, i.size, i.bytes)) = some (some (.agg #[.int .i64 0, .int .i64 0, .int .i64 0, .int .i64 0, .string ByteArray.empty, .float .f64 0]), 6, 56) := by kernel_rfl

/-- what a function value says of a move, wherever it is asked -/
def PredM (g : Nat) (lb : Array Value) (p : Mv → Bool) (w : World) (l : List Mv) : Prop :=
  ∀ (W : World) (r : Mv), Below w.heap.size w W → r ∈ l → Calls Try.prog g (#[mv r] ++ lb) W fun e W' => e = .returned (.bool (p r)) ∧ Below W.heap.size W W'
def idxM (p : Mv → Bool) (l : List Mv) : Int := match l.findIdx? p with
  | some i => (i : Int)
  | none => -1
theorem idxM_none {p : Mv → Bool} {l : List Mv} (h : ∀ r ∈ l, p r = false) : idxM p l = -1 := by
  have : l.findIdx? p = none := List.findIdx?_eq_none_iff.2 h
  unfold idxM; rw [this]
theorem idxM_some {p : Mv → Bool} {l : List Mv} {k : Nat} {r : Mv} (hk : l[k]? = some r) (hp : p r = true) (h : ∀ x ∈ l.take k, p x = false) : idxM p l = (k : Int) := by
  have hkl := (List.getElem?_eq_some_iff.1 hk).1
  have hkr := (List.getElem?_eq_some_iff.1 hk).2
  have : l.findIdx? p = some k := by
    rw [List.findIdx?_eq_some_iff_getElem]
    refine ⟨hkl, by rw [hkr]; exact hp, fun j hj => ?_⟩
    have := h l[j] (by rw [List.mem_take_iff_getElem]; exact ⟨j, by omega, rfl⟩)
    simp [this]
  unfold idxM; rw [this]

set_option maxHeartbeats 2000000 in
theorem mindexFunc_c (A : Option Addr) (cap : Nat) (l : List Mv) (g : Nat) (lb : Array Value) (p : Mv → Bool) (hl : l.length ≤ maxLen) (eg : ∀ args w, (callFunc g args).run Try.prog w = .ok (.enter g args) w) (w : World)
    (hc : At w w.heap.size A (mvs l)) (hp : PredM g lb p w l) :
    Calls Try.prog 69 #[.slice A l.length cap, .func (.func g) #[] lb] w fun e w' => e = .returned (.int .i64 (idxM p l)) ∧ Below w.heap.size w w' := by
  unfold maxLen at hl
  obtain ⟨R, hR⟩ : ∃ R, idxM p l = R := ⟨_, rfl⟩
  rw [hR]
  have HR := Lib.hid hR
  have HC := Lib.hid hc
  have HP := Lib.hid hp
  clear hR hc hp
  go_enter Try.func69, Try.ntmps69
  go_wp2_with fail
  go_loopw [8] (fun i wr => ∃ k : Nat, i = .int .i64 (k : Int) ∧ k ≤ l.length ∧ (∀ x ∈ l.take k, p x = false) ∧ Below w.heap.size w wr) (fun i _ => l.length - (intOf i).toNat)
  case atStart => exact ⟨0, rfl, Nat.zero_le _, fun x hx => by simp at hx, Below.refl _ _⟩
  case round =>
    obtain ⟨k, rfl, hk, hno, hb⟩ := hrel
    have HN := Lib.hid hno
    clear hno
    by_cases hlt : k < l.length
    · obtain ⟨r, hr⟩ := some_at hlt
      obtain ⟨b0, o0, rfl, hb0, c0, c1, c2, c3, c4, c5⟩ := move_cells (HC.out.below hb) hr
      have hcall := HP.out wr r hb (mem_at hr)
      have HRR := Lib.hid hr
      clear hr
      cases hq : p r with
      | true =>
        rw [hq] at hcall
        go_wp2_with (go_at_fn g; refine hcall.mono ?_; rintro e w' ⟨rfl, hb'⟩)
        go_ret
        rw [← HR.out, idxM_some HRR.out hq HN.out]
        exact ⟨rfl, hb.trans (hb'.mono hb.size)⟩
      | false =>
        rw [hq] at hcall
        have HQ := Lib.hid hq
        clear hq
        go_wp2_with (go_at_fn g; refine hcall.mono ?_; rintro e w' ⟨rfl, hb'⟩)
        go_roundw
        case rel =>
          refine ⟨k + 1, by go_num, by omega, fun x hx => ?_, hb.trans (hb'.mono hb.size)⟩
          rw [List.take_add_one, HRR.out] at hx
          rcases List.mem_append.1 hx with h | h
          · exact HN.out x h
          · simp at h; rw [h]; exact HQ.out
        case measure => simp only [intOf]; omega
    · obtain rfl : k = l.length := by omega
      have h := HN.out
      rw [List.take_length] at h
      have HNN := Lib.hid h
      clear h
      go_wp2_with fail
      go_ret
      rw [← HR.out, idxM_none HNN.out]
      exact ⟨rfl, hb⟩
end Go.Proofs.Ytfeopchghpihoaa
