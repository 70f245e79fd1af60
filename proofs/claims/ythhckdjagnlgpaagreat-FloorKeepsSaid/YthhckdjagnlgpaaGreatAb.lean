/-
 Moves as cells; the place of the first move that fits (slices.IndexFunc).
 Marks as cells; what they have of a replica, raised, joined: plain.
 Function values that are asked of marks (slices.IndexFunc, slices.ContainsFunc); a copy of marks (slices.Clone).
-/
import Derived.Test.YthhckdjagnlgpaaGreatTe
section
namespace Go.Proofs.YthhckdjagnlgpaaGreat
open Go.RowKit Go.IntWalk
set_option maxRecDepth 100000
attribute [local go_sem] Oper.semAt_some
/-- a move: its time's counter, and replica, and where it lays its node -/
abbrev Mv := Int × Int × Rw
abbrev mc (m : Mv) : Int := m.1
abbrev mr (m : Mv) : Int := m.2.1
abbrev mw (m : Mv) : Rw := m.2.2
def mcs (m : Mv) : List Value := [.int .i64 (mc m), .int .i64 (mr m), .int .i64 (pa (mw m)), .int .i64 (ch (mw m)), .string (ba (nm (mw m))), .float .f64 (rk (mw m))]
def mv (m : Mv) : Value := .agg #[.int .i64 (mc m), .int .i64 (mr m), .int .i64 (pa (mw m)), .int .i64 (ch (mw m)), .string (ba (nm (mw m))), .float .f64 (rk (mw m))]
/-- the cells of a list of moves -/
def mvs (l : List Mv) : List Value := l.flatMap mcs
/-- such moves as a program may have -/
def Moves_ (l : List Mv) : Prop := ∀ m ∈ l, rk (mw m) < 18446744073709551616 ∧ (nm (mw m)).length ≤ maxLen
theorem mvs_len (l : List Mv) : (mvs l).length = l.length * 6 := by
 induction l with
 | nil => rfl
 | cons x l ih =>
  have h : mvs (x :: l) = mcs x ++ mvs l := rfl
  rw [h, List.length_append, List.length_cons, ih, show (mcs x).length = 6 from rfl]
  omega
theorem mvs_append (a b : List Mv) : mvs (a ++ b) = mvs a ++ mvs b := by simp [mvs]
theorem mvs_one (l : List Mv) : ∀ u ∈ mvs l, u.oneCell' = true := by
 intro u hu
 simp only [mvs, List.mem_flatMap, mcs] at hu
 obtain ⟨x, _, hx⟩ := hu
 simp only [List.mem_cons, List.not_mem_nil, or_false] at hx
 rcases hx with rfl | rfl | rfl | rfl | rfl | rfl <;> rfl
theorem mvs_take (l : List Mv) : ∀ j, mvs (l.take j) = (mvs l).take (j * 6) := by
 induction l with
 | nil => intro j; simp [mvs]
 | cons c l ih =>
  intro j
  cases j with
  | zero => simp [mvs]
  | succ j =>
   rw [List.take_succ_cons, show mvs (c :: l.take j) = mcs c ++ mvs (l.take j) from rfl, ih, show mvs (c :: l) = mcs c ++ mvs l from rfl, List.take_append, List.take_of_length_le (l := mcs c) (by show 6 ≤ (j + 1) * 6; omega), show (j + 1) * 6 - (mcs c).length = j * 6 from by show (j + 1) * 6 - 6 = _; omega]
theorem mvs_drop (l : List Mv) : ∀ j, mvs (l.drop j) = (mvs l).drop (j * 6) := by
 induction l with
 | nil => intro j; simp [mvs]
 | cons c l ih =>
  intro j
  cases j with
  | zero => simp [mvs]
  | succ j =>
   rw [List.drop_succ_cons, ih, show mvs (c :: l) = mcs c ++ mvs l from rfl, List.drop_append, List.drop_of_length_le (l := mcs c) (by show 6 ≤ (j + 1) * 6; omega), show (j + 1) * 6 - (mcs c).length = j * 6 from by show (j + 1) * 6 - 6 = _; omega, List.nil_append]
theorem mvs_at {l : List Mv} {k : Nat} {x : Mv} (h : l[k]? = some x) : (mvs l)[k * 6]? = some (.int .i64 (mc x)) ∧ (mvs l)[k * 6 + 1]? = some (.int .i64 (mr x)) ∧ (mvs l)[k * 6 + 2]? = some (.int .i64 (pa (mw x))) ∧ (mvs l)[k * 6 + 3]? = some (.int .i64 (ch (mw x))) ∧ (mvs l)[k * 6 + 4]? = some (.string (ba (nm (mw x)))) ∧ (mvs l)[k * 6 + 5]? = some (.float .f64 (rk (mw x))) := by
 have hd : mvs (l.drop k) = mcs x ++ mvs (l.drop (k + 1)) := by
  have hk := (List.getElem?_eq_some_iff.1 h).1
  have hc := (List.getElem?_eq_some_iff.1 h).2
  rw [List.drop_eq_getElem_cons hk, hc]; rfl
 rw [mvs_drop] at hd
 have g : ∀ i, (mvs l)[k * 6 + i]? = (mcs x ++ mvs (l.drop (k + 1)))[i]? := fun i => by rw [← hd, List.getElem?_drop]
 exact ⟨by have := g 0; simpa [mcs] using this, by have := g 1; simpa [mcs] using this, by have := g 2; simpa [mcs] using this, by have := g 3; simpa [mcs] using this, by have := g 4; simpa [mcs] using this, by have := g 5; simpa [mcs] using this⟩
theorem move_cells {w : World} {B k : Nat} {A : Option Addr} {l : List Mv} {x : Mv} (h : At w B A (mvs l)) (hk : l[k]? = some x) :
  ∃ b off, A = some ⟨b, off, none⟩ ∧ b < B ∧ w.cell? ⟨b, off + k * 6, none⟩ = some (.int .i64 (mc x)) ∧ w.cell? ⟨b, off + k * 6 + 1, none⟩ = some (.int .i64 (mr x)) ∧ w.cell? ⟨b, off + k * 6 + 2, none⟩ = some (.int .i64 (pa (mw x))) ∧ w.cell? ⟨b, off + k * 6 + 3, none⟩ = some (.int .i64 (ch (mw x))) ∧ w.cell? ⟨b, off + k * 6 + 4, none⟩ = some (.string (ba (nm (mw x)))) ∧ w.cell? ⟨b, off + k * 6 + 5, none⟩ = some (.float .f64 (rk (mw x))) := by
 obtain ⟨h1, h2, h3, h4, h5, h6⟩ := mvs_at hk
 obtain ⟨b, off, hA, hlt, hc⟩ := h _ _ h1
 obtain ⟨b', off', hA', _, hc1⟩ := h _ _ h2
 rw [hA] at hA'
 cases hA'
 obtain ⟨b', off', hA', _, hc2⟩ := h _ _ h3
 rw [hA] at hA'
 cases hA'
 obtain ⟨b', off', hA', _, hc3⟩ := h _ _ h4
 rw [hA] at hA'
 cases hA'
 obtain ⟨b', off', hA', _, hc4⟩ := h _ _ h5
 rw [hA] at hA'
 cases hA'
 obtain ⟨b', off', hA', _, hc5⟩ := h _ _ h6
 rw [hA] at hA'
 cases hA'
 exact ⟨b, off, hA, hlt, hc, hc1, hc2, hc3, hc4, hc5⟩
theorem Tryz.info57 : (Tryz.prog.info? 57).map (fun i => (i.zero, i.size, i.bytes)) = some (some (.agg #[.int .i64 0, .int .i64 0, .int .i64 0, .int .i64 0, .string ByteArray.empty, .float .f64 0]), 6, 56) := by kernel_rfl
/-- what a function value says of a move, wherever it is asked -/
def PredM (g : Nat) (lb : Array Value) (p : Mv → Bool) (w : World) (l : List Mv) : Prop :=
 ∀ (W : World) (r : Mv), Below w.heap.size w W → r ∈ l → Calls Tryz.prog g (#[mv r] ++ lb) W fun e W' => e = .returned (.bool (p r)) ∧ Below W.heap.size W W'
def idxM (p : Mv → Bool) (l : List Mv) : Int := match l.findIdx? p with
 | some i => (i : Int)
 | none => -1
theorem idxM_none {p : Mv → Bool} {l : List Mv} (h : ∀ r ∈ l, p r = false) : idxM p l = -1 := by
 have : l.findIdx? p = none := List.findIdx?_eq_none_iff.2 h
 unfold idxM; rw [this]
theorem idxM_some {p : Mv → Bool} {l : List Mv} {k : Nat} {r : Mv} (hk : l[k]? = some r) (hp : p r = true) (h : ∀ x ∈ l.take k, p x = false) : idxM p l = (k : Int) := by
 have hkl := (List.getElem?_eq_some_iff.1 hk).1
 have hkr := (List.getElem?_eq_some_iff.1 hk).2
 have : l.findIdx? p = some k := by
  rw [List.findIdx?_eq_some_iff_getElem]
  refine ⟨hkl, by rw [hkr]; exact hp, fun j hj => ?_⟩
  have := h l[j] (by rw [List.mem_take_iff_getElem]; exact ⟨j, by omega, rfl⟩)
  simp [this]
 unfold idxM; rw [this]
set_option maxHeartbeats 2000000 in
theorem mindexFunc_c (A : Option Addr) (cap : Nat) (l : List Mv) (g : Nat) (lb : Array Value) (p : Mv → Bool) (hl : l.length ≤ maxLen) (eg : ∀ args w, (callFunc g args).run Tryz.prog w = .ok (.enter g args) w) (w : World)
  (hc : At w w.heap.size A (mvs l)) (hp : PredM g lb p w l) :
  Calls Tryz.prog 225 #[.slice A l.length cap, .func (.func g) #[] lb] w fun e w' => e = .returned (.int .i64 (idxM p l)) ∧ Below w.heap.size w w' := by
 unfold maxLen at hl
 obtain ⟨R, hR⟩ : ∃ R, idxM p l = R := ⟨_, rfl⟩
 rw [hR]
 have HR := Lib.hid hR
 have HC := Lib.hid hc
 have HP := Lib.hid hp
 clear hR hc hp
 go_enter Tryz.func225, Tryz.ntmps225
 go_wp2_with fail
 go_loopw [8] (fun i wr => ∃ k : Nat, i = .int .i64 (k : Int) ∧ k ≤ l.length ∧ (∀ x ∈ l.take k, p x = false) ∧ Below w.heap.size w wr) (fun i _ => l.length - (intOf i).toNat)
 case atStart => exact ⟨0, rfl, Nat.zero_le _, fun x hx => by simp at hx, Below.refl _ _⟩
 case round =>
  obtain ⟨k, rfl, hk, hno, hb⟩ := hrel
  have HN := Lib.hid hno
  clear hno
  by_cases hlt : k < l.length
  ·obtain ⟨r, hr⟩ := some_at hlt
   obtain ⟨b0, o0, rfl, hb0, c0, c1, c2, c3, c4, c5⟩ := move_cells (HC.out.below hb) hr
   have hcall := HP.out wr r hb (mem_at hr)
   have HRR := Lib.hid hr
   clear hr
   cases hq : p r with
   | true =>
    rw [hq] at hcall
    go_wp2_with (go_at_fn g; refine hcall.mono ?_; rintro e w' ⟨rfl, hb'⟩)
    go_ret
    rw [← HR.out, idxM_some HRR.out hq HN.out]
    exact ⟨rfl, hb.trans (hb'.mono hb.size)⟩
   | false =>
    rw [hq] at hcall
    have HQ := Lib.hid hq
    clear hq
    go_wp2_with (go_at_fn g; refine hcall.mono ?_; rintro e w' ⟨rfl, hb'⟩)
    go_roundw
    case rel =>
     refine ⟨k + 1, by go_num, by omega, fun x hx => ?_, hb.trans (hb'.mono hb.size)⟩
     rw [List.take_add_one, HRR.out] at hx
     rcases List.mem_append.1 hx with h | h
     ·exact HN.out x h
     ·simp at h; rw [h]; exact HQ.out
    case measure => simp only [intOf]; omega
  ·obtain rfl : k = l.length := by omega
   have h := HN.out
   rw [List.take_length] at h
   have HNN := Lib.hid h
   clear h
   go_wp2_with fail
   go_ret
   rw [← HR.out, idxM_none HNN.out]
   exact ⟨rfl, hb⟩
end Go.Proofs.YthhckdjagnlgpaaGreat
end
section
namespace Go.Proofs.YthhckdjagnlgpaaGreat
open Go.RowKit Go.IntWalk
set_option maxRecDepth 100000
attribute [local go_sem] Oper.semAt_some
/-- a mark: its replica, and its counter -/
abbrev Mk := Int × Int
abbrev kr (m : Mk) : Int := m.1
abbrev kc (m : Mk) : Int := m.2
def kcs (m : Mk) : List Value := [.int .i64 (kr m), .int .i64 (kc m)]
def kv (m : Mk) : Value := .agg #[.int .i64 (kr m), .int .i64 (kc m)]
/-- the cells of a list of marks -/
def kvs (l : List Mk) : List Value := l.flatMap kcs
theorem kvs_len (l : List Mk) : (kvs l).length = l.length * 2 := by
 induction l with
 | nil => rfl
 | cons x l ih =>
  have h : kvs (x :: l) = kcs x ++ kvs l := rfl
  rw [h, List.length_append, List.length_cons, ih, show (kcs x).length = 2 from rfl]
  omega
theorem kvs_append (a b : List Mk) : kvs (a ++ b) = kvs a ++ kvs b := by simp [kvs]
theorem kvs_one (l : List Mk) : ∀ u ∈ kvs l, u.oneCell' = true := by
 intro u hu
 simp only [kvs, List.mem_flatMap, kcs] at hu
 obtain ⟨x, _, hx⟩ := hu
 simp only [List.mem_cons, List.not_mem_nil, or_false] at hx
 rcases hx with rfl | rfl <;> rfl
theorem kvs_take (l : List Mk) : ∀ j, kvs (l.take j) = (kvs l).take (j * 2) := by
 induction l with
 | nil => intro j; simp [kvs]
 | cons c l ih =>
  intro j
  cases j with
  | zero => simp [kvs]
  | succ j =>
   rw [List.take_succ_cons, show kvs (c :: l.take j) = kcs c ++ kvs (l.take j) from rfl, ih, show kvs (c :: l) = kcs c ++ kvs l from rfl, List.take_append, List.take_of_length_le (l := kcs c) (by show 2 ≤ (j + 1) * 2; omega), show (j + 1) * 2 - (kcs c).length = j * 2 from by show (j + 1) * 2 - 2 = _; omega]
theorem kvs_drop (l : List Mk) : ∀ j, kvs (l.drop j) = (kvs l).drop (j * 2) := by
 induction l with
 | nil => intro j; simp [kvs]
 | cons c l ih =>
  intro j
  cases j with
  | zero => simp [kvs]
  | succ j =>
   rw [List.drop_succ_cons, ih, show kvs (c :: l) = kcs c ++ kvs l from rfl, List.drop_append, List.drop_of_length_le (l := kcs c) (by show 2 ≤ (j + 1) * 2; omega), show (j + 1) * 2 - (kcs c).length = j * 2 from by show (j + 1) * 2 - 2 = _; omega, List.nil_append]
theorem kvs_at {l : List Mk} {k : Nat} {x : Mk} (h : l[k]? = some x) : (kvs l)[k * 2]? = some (.int .i64 (kr x)) ∧ (kvs l)[k * 2 + 1]? = some (.int .i64 (kc x)) := by
 have hd : kvs (l.drop k) = kcs x ++ kvs (l.drop (k + 1)) := by
  have hk := (List.getElem?_eq_some_iff.1 h).1
  have hc := (List.getElem?_eq_some_iff.1 h).2
  rw [List.drop_eq_getElem_cons hk, hc]; rfl
 rw [kvs_drop] at hd
 have g : ∀ i, (kvs l)[k * 2 + i]? = (kcs x ++ kvs (l.drop (k + 1)))[i]? := fun i => by rw [← hd, List.getElem?_drop]
 exact ⟨by have := g 0; simpa [kcs] using this, by have := g 1; simpa [kcs] using this⟩
theorem mark_cells {w : World} {B k : Nat} {A : Option Addr} {l : List Mk} {x : Mk} (h : At w B A (kvs l)) (hk : l[k]? = some x) :
  ∃ b off, A = some ⟨b, off, none⟩ ∧ b < B ∧ w.cell? ⟨b, off + k * 2, none⟩ = some (.int .i64 (kr x)) ∧ w.cell? ⟨b, off + k * 2 + 1, none⟩ = some (.int .i64 (kc x)) := by
 obtain ⟨h1, h2⟩ := kvs_at hk
 obtain ⟨b, off, hA, hlt, hc⟩ := h _ _ h1
 obtain ⟨b', off', hA', _, hc1⟩ := h _ _ h2
 rw [hA] at hA'
 cases hA'
 exact ⟨b, off, hA, hlt, hc, hc1⟩
theorem Tryz.info105 : (Tryz.prog.info? 105).map (fun i => (i.zero, i.size, i.bytes)) = some (some (.agg #[.int .i64 0, .int .i64 0]), 2, 16) := by kernel_rfl
theorem kvs_set (m : Mk) : ∀ (l : List Mk) (k : Nat), k < l.length → ((kvs l).set (k * 2) (.int .i64 (kr m))).set (k * 2 + 1) (.int .i64 (kc m)) = kvs (l.set k m)
 | [], k, h => by simp at h
 | x :: l, 0, _ => rfl
 | x :: l, k + 1, h => by
  have h1 : kvs (x :: l) = .int .i64 (kr x) :: .int .i64 (kc x) :: kvs l := rfl
  have h2 : kvs ((x :: l).set (k + 1) m) = .int .i64 (kr x) :: .int .i64 (kc x) :: kvs (l.set k m) := rfl
  rw [h1, h2, ← kvs_set m l k (by simpa using h)]
  rw [show (k + 1) * 2 = k * 2 + 1 + 1 by omega]
  rfl
theorem kvs_setc {l : List Mk} {k : Nat} {x : Mk} (c : Int) (h : l[k]? = some x) : (kvs l).set (k * 2 + 1) (.int .i64 c) = kvs (l.set k (kr x, c)) := by
 have h1 := (kvs_at h).1
 rw [← kvs_set (kr x, c) l k (List.getElem?_eq_some_iff.1 h).1]
 show _ = ((kvs l).set (k * 2) (.int .i64 (kr x))).set (k * 2 + 1) _
 obtain ⟨h2, h3⟩ := List.getElem?_eq_some_iff.1 h1
 rw [← h3, List.set_getElem_self]
def idxK (p : Mk → Bool) (l : List Mk) : Int := match l.findIdx? p with
 | some i => (i : Int)
 | none => -1
theorem idxK_none {p : Mk → Bool} {l : List Mk} (h : ∀ r ∈ l, p r = false) : idxK p l = -1 := by
 have : l.findIdx? p = none := List.findIdx?_eq_none_iff.2 h
 unfold idxK; rw [this]
theorem idxK_some {p : Mk → Bool} {l : List Mk} {k : Nat} {r : Mk} (hk : l[k]? = some r) (hp : p r = true) (h : ∀ x ∈ l.take k, p x = false) : idxK p l = (k : Int) := by
 have hkl := (List.getElem?_eq_some_iff.1 hk).1
 have hkr := (List.getElem?_eq_some_iff.1 hk).2
 have : l.findIdx? p = some k := by
  rw [List.findIdx?_eq_some_iff_getElem]
  refine ⟨hkl, by rw [hkr]; exact hp, fun j hj => ?_⟩
  have := h l[j] (by rw [List.mem_take_iff_getElem]; exact ⟨j, by omega, rfl⟩)
  simp [this]
 unfold idxK; rw [this]
theorem idxK_cases (p : Mk → Bool) (l : List Mk) : (idxK p l = -1 ∧ l.findIdx? p = none) ∨ ∃ (k : Nat) (x : Mk), idxK p l = (k : Int) ∧ l.findIdx? p = some k ∧ l[k]? = some x ∧ k < l.length ∧ p x = true := by
 unfold idxK
 cases h : l.findIdx? p with
 | none => exact .inl ⟨rfl, rfl⟩
 | some k =>
  obtain ⟨h1, h2, _⟩ := List.findIdx?_eq_some_iff_getElem.1 h
  exact .inr ⟨k, l[k], rfl, rfl, by simp [h1], h1, h2⟩
/-- the marks of that replica, and behind it -/
def isK (r : Int) (m : Mk) : Bool := kr m == r
def gtK (r : Int) (m : Mk) : Bool := decide (r < kr m)
def getK (v : List Mk) (r : Int) : Int := match v.find? (isK r) with
 | some m => kc m
 | none => 0
def raiseK (v : List Mk) (c r : Int) : List Mk := match v.findIdx? (isK r) with
 | some k => v.take k ++ (r, max ((v.getD k (0, 0)).2) c) :: v.drop (k + 1)
 | none => if c ≤ 0 then v else match v.findIdx? (gtK r) with
  | some k => v.take k ++ (r, c) :: v.drop k
  | none => v ++ [(r, c)]
def joinK (a b : List Mk) : List Mk := b.foldl (fun v m => raiseK v (kc m) (kr m)) a
def ofK (l : List Mv) : List Mk := l.foldl (fun v m => raiseK v (mc m) (mr m)) []
def belowK (a b : List Mk) : Bool := a.all fun m => decide (getK a (kr m) ≤ getK b (kr m))
def oneK (m : Mk) : Bool := decide (1 ≤ kr m) && (decide (kr m ≤ 255) && (decide (1 ≤ kc m) && decide (kc m ≤ 4611686018427387903)))
def AscK (l : List Mk) : Prop := l.Pairwise fun a b => kr a < kr b
theorem getK_cases (v : List Mk) (r : Int) : (idxK (isK r) v = -1 ∧ getK v r = 0) ∨ ∃ (k : Nat) (x : Mk), idxK (isK r) v = (k : Int) ∧ v[k]? = some x ∧ getK v r = kc x ∧ k < v.length ∧ kr x = r := by
 rcases idxK_cases (isK r) v with ⟨h1, h2⟩ | ⟨k, x, h1, h2, h3, h4, h5⟩
 ·refine .inl ⟨h1, ?_⟩
  have : v.find? (isK r) = none := by
   rw [List.find?_eq_none]
   intro y hy
   have := List.findIdx?_eq_none_iff.1 h2 y hy
   simp [this]
  unfold getK; rw [this]
 ·refine .inr ⟨k, x, h1, h3, ?_, h4, by simpa [isK] using h5⟩
  have : v.find? (isK r) = some x := by
   rw [List.find?_eq_some_iff_getElem]
   obtain ⟨g1, g2, g3⟩ := List.findIdx?_eq_some_iff_getElem.1 h2
   refine ⟨h5, k, h4, by have := (List.getElem?_eq_some_iff.1 h3).2; exact this, fun j hj => by simpa using g3 j hj⟩
  unfold getK; rw [this]
theorem raiseK_cases (v : List Mk) (c r : Int) :
  (∃ (k : Nat) (x : Mk), idxK (isK r) v = (k : Int) ∧ v[k]? = some x ∧ k < v.length ∧ kr x = r ∧ raiseK v c r = v.set k (kr x, max (kc x) c)) ∨
  (idxK (isK r) v = -1 ∧ ((c ≤ 0 ∧ raiseK v c r = v) ∨ (0 < c ∧ ((∃ (k : Nat), idxK (gtK r) v = (k : Int) ∧ k < v.length ∧ raiseK v c r = v.take k ++ (r, c) :: v.drop k) ∨ (idxK (gtK r) v = -1 ∧ raiseK v c r = v ++ [(r, c)]))))) := by
 rcases idxK_cases (isK r) v with ⟨h1, h2⟩ | ⟨k, x, h1, h2, h3, h4, h5⟩
 ·refine .inr ⟨h1, ?_⟩
  unfold raiseK
  rw [h2]
  by_cases hc : c ≤ 0
  ·exact .inl ⟨hc, by simp [hc]⟩
  ·refine .inr ⟨by omega, ?_⟩
   rcases idxK_cases (gtK r) v with ⟨g1, g2⟩ | ⟨k, x, g1, g2, g3, g4, g5⟩
   ·exact .inr ⟨g1, by simp [hc, g2]⟩
   ·exact .inl ⟨k, g1, g4, by simp [hc, g2]⟩
 ·have hr : kr x = r := by simpa [isK] using h5
  refine .inl ⟨k, x, h1, h3, h4, hr, ?_⟩
  unfold raiseK
  rw [h2]
  show v.take k ++ (r, max ((v.getD k (0, 0)).2) c) :: v.drop (k + 1) = _
  rw [show v.getD k (0, 0) = x by rw [List.getD_eq_getElem?_getD, h3]; rfl, hr]
  have := List.set_eq_take_append_cons_drop (l := v) (i := k) (a := (r, max x.2 c))
  rw [this, if_pos h4]
theorem raiseK_len (v : List Mk) (c r : Int) : (raiseK v c r).length ≤ v.length + 1 := by
 rcases raiseK_cases v c r with ⟨k, x, _, _, _, _, h⟩ | ⟨_, ⟨_, h⟩ | ⟨_, ⟨k, _, hk, h⟩ | ⟨_, h⟩⟩⟩ <;> rw [h] <;> simp <;> omega
theorem joinK_len (a : List Mk) : ∀ b : List Mk, (joinK a b).length ≤ a.length + b.length := fun b => by
 induction b generalizing a with
 | nil => exact Nat.le_refl _
 | cons m b ih =>
  have h1 := ih (raiseK a (kc m) (kr m))
  have h2 := raiseK_len a (kc m) (kr m)
  show (joinK (raiseK a (kc m) (kr m)) b).length ≤ _
  rw [List.length_cons]; omega
theorem ofK_len' (l : List Mv) : ∀ v : List Mk, (l.foldl (fun v m => raiseK v (mc m) (mr m)) v).length ≤ v.length + l.length := fun v => by
 induction l generalizing v with
 | nil => exact Nat.le_refl _
 | cons m l ih =>
  have h1 := ih (raiseK v (mc m) (mr m))
  have h2 := raiseK_len v (mc m) (mr m)
  rw [List.foldl_cons, List.length_cons]; omega
theorem ofK_len (l : List Mv) : (ofK l).length ≤ l.length := by have := ofK_len' l []; simpa [ofK] using this
theorem joinK_take {a b : List Mk} {k : Nat} {m : Mk} (h : b[k]? = some m) : joinK a (b.take (k + 1)) = raiseK (joinK a (b.take k)) (kc m) (kr m) := by
 unfold joinK
 rw [List.take_add_one, h, List.foldl_append]; rfl
theorem ofK_take {l : List Mv} {k : Nat} {m : Mv} (h : l[k]? = some m) : ofK (l.take (k + 1)) = raiseK (ofK (l.take k)) (mc m) (mr m) := by
 unfold ofK
 rw [List.take_add_one, h, List.foldl_append]; rfl
theorem getK_some {l : List Mk} {k : Nat} {m : Mk} {r : Int} (h : l[k]? = some m) (hr : kr m = r) (hno : ∀ x ∈ l.take k, isK r x = false) : getK l r = kc m := by
 have : l.find? (isK r) = some m := by
  rw [List.find?_eq_some_iff_getElem]
  obtain ⟨h1, h2⟩ := List.getElem?_eq_some_iff.1 h
  refine ⟨by simp [isK, hr], k, h1, h2, fun j hj => ?_⟩
  have := hno l[j] (by rw [List.mem_take_iff_getElem]; exact ⟨j, by omega, rfl⟩)
  simp [this]
 unfold getK; rw [this]
theorem getK_none {l : List Mk} {r : Int} (hno : ∀ x ∈ l, isK r x = false) : getK l r = 0 := by
 have : l.find? (isK r) = none := by
  rw [List.find?_eq_none]
  intro y hy
  simp [hno y hy]
 unfold getK; rw [this]
theorem isK_take {l : List Mk} {k : Nat} {m : Mk} {r : Int} (h : l[k]? = some m) (hr : ¬ kr m = r) (hno : ∀ x ∈ l.take k, isK r x = false) : ∀ x ∈ l.take (k + 1), isK r x = false := fun x hx => by
 rw [List.take_add_one, h] at hx
 rcases List.mem_append.1 hx with g | g
 ·exact hno x g
 ·simp at g; rw [g]; simpa [isK] using hr
end Go.Proofs.YthhckdjagnlgpaaGreat
end
section
namespace Go.Proofs.YthhckdjagnlgpaaGreat
open Go.RowKit Go.IntWalk
set_option maxRecDepth 100000
attribute [local go_sem] Oper.semAt_some
/-- what a function value says of a mark, wherever it is asked -/
def PredK (g : Nat) (lb : Array Value) (p : Mk → Bool) (w : World) (l : List Mk) : Prop :=
 ∀ (W : World) (r : Mk), Below w.heap.size w W → r ∈ l → Calls Tryz.prog g (#[kv r] ++ lb) W fun e W' => e = .returned (.bool (p r)) ∧ Below W.heap.size W W'
set_option maxHeartbeats 2000000 in
theorem kindexFunc_c (A : Option Addr) (cap : Nat) (l : List Mk) (g : Nat) (lb : Array Value) (p : Mk → Bool) (hl : l.length ≤ maxLen) (eg : ∀ args w, (callFunc g args).run Tryz.prog w = .ok (.enter g args) w) (w : World)
  (hc : At w w.heap.size A (kvs l)) (hp : PredK g lb p w l) :
  Calls Tryz.prog 159 #[.slice A l.length cap, .func (.func g) #[] lb] w fun e w' => e = .returned (.int .i64 (idxK p l)) ∧ Below w.heap.size w w' := by
 unfold maxLen at hl
 obtain ⟨R, hR⟩ : ∃ R, idxK p l = R := ⟨_, rfl⟩
 rw [hR]
 have HR := Lib.hid hR
 have HC := Lib.hid hc
 have HP := Lib.hid hp
 clear hR hc hp
 go_enter Tryz.func159, Tryz.ntmps159
 go_wp2_with fail
 go_loopw [8] (fun i wr => ∃ k : Nat, i = .int .i64 (k : Int) ∧ k ≤ l.length ∧ (∀ x ∈ l.take k, p x = false) ∧ Below w.heap.size w wr) (fun i _ => l.length - (intOf i).toNat)
 case atStart => exact ⟨0, rfl, Nat.zero_le _, fun x hx => by simp at hx, Below.refl _ _⟩
 case round =>
  obtain ⟨k, rfl, hk, hno, hb⟩ := hrel
  have HN := Lib.hid hno
  clear hno
  by_cases hlt : k < l.length
  ·obtain ⟨r, hr⟩ := some_at hlt
   obtain ⟨b0, o0, rfl, hb0, c0, c1⟩ := mark_cells (HC.out.below hb) hr
   have hcall := HP.out wr r hb (mem_at hr)
   have HRR := Lib.hid hr
   clear hr
   cases hq : p r with
   | true =>
    rw [hq] at hcall
    go_wp2_with (go_at_fn g; refine hcall.mono ?_; rintro e w' ⟨rfl, hb'⟩)
    go_ret
    rw [← HR.out, idxK_some HRR.out hq HN.out]
    exact ⟨rfl, hb.trans (hb'.mono hb.size)⟩
   | false =>
    rw [hq] at hcall
    have HQ := Lib.hid hq
    clear hq
    go_wp2_with (go_at_fn g; refine hcall.mono ?_; rintro e w' ⟨rfl, hb'⟩)
    go_roundw
    case rel =>
     refine ⟨k + 1, by go_num, by omega, fun x hx => ?_, hb.trans (hb'.mono hb.size)⟩
     rw [List.take_add_one, HRR.out] at hx
     rcases List.mem_append.1 hx with h | h
     ·exact HN.out x h
     ·simp at h; rw [h]; exact HQ.out
    case measure => simp only [intOf]; omega
  ·obtain rfl : k = l.length := by omega
   have h := HN.out
   rw [List.take_length] at h
   have HNN := Lib.hid h
   clear h
   go_wp2_with fail
   go_ret
   rw [← HR.out, idxK_none HNN.out]
   exact ⟨rfl, hb⟩
set_option maxHeartbeats 2000000 in
theorem kcontainsFunc_c (A : Option Addr) (cap : Nat) (l : List Mk) (g : Nat) (lb : Array Value) (p : Mk → Bool) (hl : l.length ≤ maxLen) (eg : ∀ args w, (callFunc g args).run Tryz.prog w = .ok (.enter g args) w) (w : World)
  (hc : At w w.heap.size A (kvs l)) (hp : PredK g lb p w l) :
  Calls Tryz.prog 121 #[.slice A l.length cap, .func (.func g) #[] lb] w fun e w' => e = .returned (.bool (l.any p)) ∧ Below w.heap.size w w' := by
 have HI := Lib.hid (kindexFunc_c A cap l g lb p hl eg w hc hp)
 have hq : l.any p = decide (0 ≤ idxK p l) := by
  rcases idxK_cases p l with ⟨h1, h2⟩ | ⟨k, x, h1, h2, h3, h4, h5⟩
  ·rw [h1]
   have : l.any p = false := by
    rw [List.any_eq_false]
    intro x hx
    have := List.findIdx?_eq_none_iff.1 h2 x hx
    simp [this]
   rw [this]; rfl
  ·rw [h1]
   have : l.any p = true := List.any_eq_true.2 ⟨x, mem_at h3, h5⟩
   rw [this, decide_eq_true (by omega)]
 rw [hq]
 obtain ⟨z, hz⟩ : ∃ z, idxK p l = z := ⟨_, rfl⟩
 rw [hz] at HI ⊢
 clear hq hz hc hp
 go_enter Tryz.func121, Tryz.ntmps121
 go_wp2_with fail
 refine HI.out.mono ?_
 rintro e w1 ⟨rfl, hb⟩
 go_wp2_with fail
 go_ret
 exact ⟨ret_bool (by simp), hb⟩
theorem made2K (B : Nat) (W : World) (h : B ≤ W.heap.size) : (W.alloc (.cells #[] 105)).ownsRow B 105 2 (.slice (some ⟨W.heap.size, 0, none⟩) 0 0) 0 [] :=
 World.ownsRow_made (base := B) (e := 105) (size := 2) W #[] 0 h (by unfold maxLen; omega) rfl
def FreshK (l : List Mk) (w : World) (e : Ending) (w' : World) : Prop :=
 ∃ A cap, e = .returned (.slice A l.length cap) ∧ w'.ownsRow w.heap.size 105 2 (.slice A l.length cap) l.length (kvs l) ∧ Below w.heap.size w w'
set_option maxHeartbeats 2000000 in
theorem kclone_c (A : Option Addr) (cap : Nat) (l : List Mk) (hl : l.length ≤ 100000) (hA : A = none → cap = 0) (w : World) (hc : At w w.heap.size A (kvs l)) :
  Calls Tryz.prog 123 #[.slice A l.length cap] w (FreshK l w) := by
 obtain ⟨i0, hi, hz0, hz1, hz2⟩ := info_parts Tryz.info105
 have q22 : ∀ (w : World) (a : Option Addr) (n c n' c' : Nat), (binOp .eql 53 (.slice a n c) (.slice none n' c')).run Tryz.prog w = .ok (.bool a.isNone) w := fun w a n c n' c' => Lib.run_eql_slice_nil w _ _ a n c n' c' Tryz.underlying53
 cases A with
 | none =>
  obtain rfl := hA rfl
  have hl0 : l = [] := by
   cases l with
   | nil => rfl
   | cons r l =>
    obtain ⟨b, o, e, _⟩ := hc 0 _ rfl
    cases e
  subst hl0
  go_enter Tryz.func123, Tryz.ntmps123
  go_wp2
  go_ret
  exact ⟨none, 0, rfl, World.ownsRow_nil _ _ _ _, Below.refl _ _⟩
 | some a =>
  by_cases hn : l = []
  ·subst hn
   obtain ⟨b0, o0, sp⟩ := a
   have hm := made2K w.heap.size w (Nat.le_refl _)
   go_enter Tryz.func123, Tryz.ntmps123
   go_wp2_with (at_builtin; refine wpList_append_own _ rfl _ _ 53 rfl w.heap.size 105 i0 _ 2 16 Tryz.underlying53 hi hz0 hz1 hz2 rfl (by decide) _ _ _ rfl hm ⟨b0, o0, sp⟩ 0 cap [] rfl rfl (fun j u hj => by simp at hj) (fun u hu => by simp at hu) (by unfold maxLen; omega) (by omega) (by simp) ?_)
   intro v' w1 hown hgrow _
   have hb := below_own ((Below.refl _ _).alloc (Nat.le_refl _) _) (by simp) hm hgrow
   obtain ⟨A', cap', rfl, -, -, -⟩ := own_at hown
   go_wp2
   go_ret
   exact ⟨A', cap', rfl, hown, hb⟩
  ·obtain ⟨r, hr⟩ : ∃ r, l[0]? = some r := by
    cases l with
    | nil => exact absurd rfl hn
    | cons r l => exact ⟨r, rfl⟩
   obtain ⟨b0, o0, e, _⟩ := mark_cells hc hr
   cases e
   have hm := made2K w.heap.size w (Nat.le_refl _)
   have hb0 := (Below.refl w.heap.size w).alloc (Nat.le_refl _) (.cells #[] 105)
   have hc2 := hc.below hb0
   have HC2 := Lib.hid hc2
   have htl := kvs_len l
   clear hc hc2 hr
   go_enter Tryz.func123, Tryz.ntmps123
   go_wp2_with (at_builtin; refine wpList_append_own _ rfl _ _ 53 rfl w.heap.size 105 i0 _ 2 16 Tryz.underlying53 hi hz0 hz1 hz2 rfl (by decide) _ _ _ rfl hm ⟨b0, o0, none⟩ l.length cap (kvs l) rfl htl (at_news HC2.out) (kvs_one l) (by unfold maxLen; omega) (by omega) (by simp) ?_)
   intro v' w1 hown hgrow _
   have hb := below_own hb0 (by simp) hm hgrow
   obtain ⟨A', cap', rfl, -, -, -⟩ := own_at hown
   go_wp2
   go_ret
   exact ⟨A', cap', rfl, hown, hb⟩
/-- append of rows that came in, or of none -/
theorem append_optK (w : World) {ops : Array Oper} {rest : List Oper} {o : Oper} {a : Act} {Q : Exit → Act → World → Prop}
  (hg : o.guard = none) (s x : Operand) (hop : o.op = Op.call { callee := Callee.builtin Builtin.append, args := #[s, x], argTypes := #[53, 53] })
  (base : Nat) (v : Value) (k : Nat) (us : List Mk) (hs : a.eval s = v) (hown : w.ownsRow base 105 2 v k (kvs us)) (A : Option Addr) (c : Nat) (vs : List Mk) (hx : a.eval x = .slice A vs.length c) (hn : A = none → c = 0) (hvl : vs.length ≤ c)
  (B : Nat) (hc : At w B A (kvs vs)) (hlen : k + vs.length ≤ 200000) (b3 : base ≤ w.heap.size)
  (hK : ∀ v' w', w'.ownsRow base 105 2 v' (k + vs.length) (kvs (us ++ vs)) → w.grownBy w' v.ownBlock → wpList Tryz.prog ops Q rest (a.put o.dst v') w') :
  wpList Tryz.prog ops Q (o :: rest) a w := by
 obtain ⟨i0, hi, hz0, hz1, hz2⟩ := info_parts Tryz.info105
 rcases A with _ | ⟨b, off, spot⟩
 ·obtain rfl : c = 0 := hn rfl
  obtain rfl : vs = [] := List.eq_nil_of_length_eq_zero (by omega)
  exact wpList_append_own_none hg s x _ hop base _ i0 2 Tryz.underlying53 hi v k (kvs us) hs hown hx (hK v w (by simpa using hown) (World.grownBy.refl w _))
 ·by_cases hv : vs = []
  ·subst hv
   refine wpList_append_own w hg s x _ hop base _ i0 _ 2 16 Tryz.underlying53 hi hz0 hz1 hz2 rfl (by decide) v k (kvs us) hs hown ⟨b, off, spot⟩ 0 c [] hx rfl (fun j u hu => by simp at hu) (fun u hu => by simp at hu) (by unfold maxLen; simp at hlen; omega) (by simp at hlen; omega) b3 ?_
   intro v' w' h1 h2 _
   exact hK v' w' (by simpa using h1) h2
  ·obtain ⟨y, ys, rfl⟩ : ∃ y ys, vs = y :: ys := by cases vs with | nil => exact absurd rfl hv | cons y ys => exact ⟨y, ys, rfl⟩
   obtain ⟨b', off', e, _, _⟩ := hc 0 _ rfl
   cases e
   refine wpList_append_own w hg s x _ hop base _ i0 _ 2 16 Tryz.underlying53 hi hz0 hz1 hz2 rfl (by decide) v k (kvs us) hs hown ⟨b, off, none⟩ (y :: ys).length c (kvs (y :: ys)) hx (kvs_len _) (at_news hc) (kvs_one _) (by unfold maxLen; omega) (by omega) b3 ?_
   intro v' w' h1 h2 _
   exact hK v' w' (by rw [kvs_append]; exact h1) h2
end Go.Proofs.YthhckdjagnlgpaaGreat
end
