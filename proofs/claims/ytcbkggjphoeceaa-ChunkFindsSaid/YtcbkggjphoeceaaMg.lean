/-
  Plain mathematics of layer 5: deltas, sums, bytes, rising lists; and numbers that go round. No Go.
-/
import Derived.Test.YtcbkggjphoeceaaMc
namespace Go.Proofs.Ytcbkggjphoeceaa.Pk

/-- a number as 64 bits go round -/
def w64 (x : Int) : Int := (x + 9223372036854775808) % 18446744073709551616 - 9223372036854775808
def In64 (x : Int) : Prop := -9223372036854775808 ≤ x ∧ x ≤ 9223372036854775807
def Ints (l : List Int) : Prop := ∀ x ∈ l, In64 x
theorem w64_in (x : Int) : In64 (w64 x) := by unfold In64 w64; omega
theorem w64_id {x : Int} (h : In64 x) : w64 x = x := by unfold In64 at h; unfold w64; omega
theorem w64_back (a x : Int) (hx : In64 x) : w64 (a + w64 (x - a)) = x := by unfold In64 at hx; unfold w64; omega
theorem w64_forth (a x : Int) (hx : In64 x) : w64 (w64 (a + x) - a) = x := by unfold In64 at hx; unfold w64; omega

/-- each number, with the one ahead of it -/
def prs : Int → List Int → List (Int × Int)
  | _, [] => []
  | a, x :: l => (a, x) :: prs x l
def dl (a : Int) (l : List Int) : List Int := (prs a l).map fun p => w64 (p.2 - p.1)
def sm : Int → List Int → List Int
  | _, [] => []
  | a, x :: l => w64 (a + x) :: sm (w64 (a + x)) l
def encD (d : List Int) : List UInt8 := d.flatMap fun x => put (zig x)
def encL (l : List Int) : List UInt8 := encD (dl 0 l)
def rs : Int → List Int → Bool
  | _, [] => true
  | a, x :: l => decide (a < x) && rs x l
def rises : List Int → Bool
  | [] => true
  | x :: l => rs x l

theorem prs_len (l : List Int) : ∀ a, (prs a l).length = l.length := by
  induction l with
  | nil => intro a; rfl
  | cons x l ih => intro a; simp [prs, ih]
theorem dl_nil (a : Int) : dl a [] = [] := rfl
theorem dl_cons (a x : Int) (l : List Int) : dl a (x :: l) = w64 (x - a) :: dl x l := rfl
theorem dl_len (a : Int) (l : List Int) : (dl a l).length = l.length := by simp [dl, prs_len]
theorem sm_len (l : List Int) : ∀ a, (sm a l).length = l.length := by
  induction l with
  | nil => intro a; rfl
  | cons x l ih => intro a; simp [sm, ih]
theorem dl_in (a : Int) (l : List Int) : Ints (dl a l) := by
  intro x hx
  simp only [dl, List.mem_map] at hx
  obtain ⟨p, _, rfl⟩ := hx
  exact w64_in _
theorem sm_in (l : List Int) : ∀ a, Ints (sm a l) := by
  induction l with
  | nil => intro a x hx; simp [sm] at hx
  | cons y l ih =>
    intro a x hx
    simp only [sm, List.mem_cons] at hx
    rcases hx with rfl | hx
    · exact w64_in _
    · exact ih _ x hx
theorem sm_dl (l : List Int) : ∀ a, Ints l → sm a (dl a l) = l := by
  induction l with
  | nil => intro a _; rfl
  | cons x l ih =>
    intro a h
    rw [dl_cons, sm, w64_back a x (h x (by simp)), ih x (fun y hy => h y (by simp [hy]))]
theorem dl_sm (l : List Int) : ∀ a, Ints l → dl a (sm a l) = l := by
  induction l with
  | nil => intro a _; rfl
  | cons x l ih =>
    intro a h
    rw [sm, dl_cons, w64_forth a x (h x (by simp)), ih _ (fun y hy => h y (by simp [hy]))]
theorem rs_all (l : List Int) : ∀ a, (prs a l).all (fun p => decide (p.1 < p.2)) = rs a l := by
  induction l with
  | nil => intro a; rfl
  | cons x l ih => intro a; simp [prs, rs, ih]

theorem drop_at_cons {α : Type} {l : List α} {k : Nat} {x : α} (h : l[k]? = some x) : l.drop k = x :: l.drop (k + 1) := by
  obtain ⟨hk, rfl⟩ := List.getElem?_eq_some_iff.1 h
  exact List.drop_eq_getElem_cons hk
theorem encD_nil : encD [] = [] := rfl
theorem encD_cons (x : Int) (d : List Int) : encD (x :: d) = put (zig x) ++ encD d := rfl
theorem encD_app (a b : List Int) : encD (a ++ b) = encD a ++ encD b := by simp [encD]
theorem encD_len (d : List Int) (h : Ints d) : d.length ≤ (encD d).length ∧ (encD d).length ≤ 10 * d.length := by
  induction d with
  | nil => simp [encD]
  | cons x d ih =>
    have h1 := h x (by simp)
    have h2 := ih (fun y hy => h y (by simp [hy]))
    have h3 := put_len10 (zig_lt h1.1 (by have := h1.2; omega))
    have h4 := put_len_pos (zig x)
    rw [encD_cons, List.length_append, List.length_cons]
    omega
theorem encL_len (l : List Int) : l.length ≤ (encL l).length ∧ (encL l).length ≤ 10 * l.length := by
  have := encD_len (dl 0 l) (dl_in 0 l)
  rw [dl_len] at this
  exact this

/-- n numbers read of a Reader, whatever comes, and the Reader behind them -/
def rdn : Nat → St → List Int × St
  | 0, s => ([], s)
  | n + 1, s => (zag (numV s) :: (rdn n (numS s)).1, (rdn n (numS s)).2)
theorem rdn_len (n : Nat) : ∀ s, (rdn n s).1.length = n := by
  induction n with
  | zero => intro s; rfl
  | succ n ih => intro s; simp [rdn, ih]
theorem rdn_stuck (n : Nat) : ∀ s, s.e ≠ 0 → (rdn n s).2 = s := by
  induction n with
  | zero => intro s _; rfl
  | succ n ih => intro s h; rw [rdn, (num_err h).2]; exact ih s h
theorem rdn_okay (n : Nat) : ∀ s, Okay s → Okay (rdn n s).2 := by
  induction n with
  | zero => intro s h; exact h
  | succ n ih => intro s h; exact ih _ (numS_okay h)
theorem rdn_in (n : Nat) : ∀ s, Ints (rdn n s).1 := by
  induction n with
  | zero => intro s x hx; simp [rdn] at hx
  | succ n ih =>
    intro s x hx
    simp only [rdn, List.mem_cons] at hx
    rcases hx with rfl | hx
    · have := zag_bd (numV_lt s)
      exact ⟨this.1, by omega⟩
    · exact ih _ x hx
/-- what was encoded is read -/
theorem rdn_enc (d : List Int) : ∀ R, Ints d → rdn d.length ⟨encD d ++ R, 0⟩ = (d, ⟨R, 0⟩) := by
  induction d with
  | nil => intro R _; rfl
  | cons x d ih =>
    intro R h
    have h1 := h x (by simp)
    obtain ⟨e1, e2⟩ := num_put (zig_lt h1.1 (by have := h1.2; omega)) (encD d ++ R)
    have e3 := ih R (fun y hy => h y (by simp [hy]))
    rw [List.length_cons, rdn, encD_cons, List.append_assoc, e1, e2, e3, zag_zig]
/-- what was read was encoded -/
theorem enc_rdn (n : Nat) : ∀ s, s.e = 0 → (rdn n s).2.e = 0 → encD (rdn n s).1 ++ (rdn n s).2.l = s.l := by
  induction n with
  | zero => intro s _ _; rfl
  | succ n ih =>
    intro s h0 h
    by_cases he : (numS s).e = 0
    · obtain ⟨l, e⟩ := s
      simp only at h0
      subst h0
      have h2 := ih _ he h
      obtain ⟨f1, f2, f3⟩ := num_read he
      rw [rdn, encD_cons, zig_zag, List.append_assoc]
      simp only
      rw [h2, ← f1]
      have h3 : (numS ⟨l, 0⟩).l = l.drop (l.length - (numS ⟨l, 0⟩).l.length) := by
        revert he
        unfold numS
        simp only [if_true]
        cases hr : rd l with
        | cut => simp
        | long => simp
        | ok m u =>
          intro _
          have := (rd_inv hr).2.2.1
          simp only [List.length_drop]
          congr 1
          omega
      conv => lhs; rhs; rw [h3]
      exact List.take_append_drop _ _
    · rw [rdn] at h
      rw [rdn_stuck n _ he] at h
      exact absurd h he
end Go.Proofs.Ytcbkggjphoeceaa.Pk

namespace Go.Proofs.Ytcbkggjphoeceaa.Pk

/-- P5.2: the list of n numbers of which s is told, and the error -/
def decV (l : List UInt8) (n : Int) : List Int × Int :=
  if n < 0 then ([], 1) else if (l.length : Int) < n then ([], 2) else
  if doneV (rdn n.toNat ⟨l, 0⟩).2 = 0 then (sm 0 (rdn n.toNat ⟨l, 0⟩).1, 0) else ([], doneV (rdn n.toNat ⟨l, 0⟩).2)

theorem decV_neg {l : List UInt8} {n : Int} (h : n < 0) : decV l n = ([], 1) := by rw [decV, if_pos h]
theorem decV_far {l : List UInt8} {n : Int} (h : (l.length : Int) < n) : decV l n = ([], 2) := by rw [decV, if_neg (by omega), if_pos h]
theorem decV_bad {l : List UInt8} {n : Nat} (h : n ≤ l.length) (hd : doneV (rdn n ⟨l, 0⟩).2 ≠ 0) : decV l n = ([], doneV (rdn n ⟨l, 0⟩).2) := by
  rw [decV, if_neg (by omega), if_neg (by omega), Int.toNat_natCast, if_neg hd]
theorem decV_ok {l : List UInt8} {n : Nat} (h : n ≤ l.length) (hd : doneV (rdn n ⟨l, 0⟩).2 = 0) : decV l n = (sm 0 (rdn n ⟨l, 0⟩).1, 0) := by
  rw [decV, if_neg (by omega), if_neg (by omega), Int.toNat_natCast, if_pos hd]
theorem doneV_zero {s : St} (h : doneV s = 0) : s.e = 0 ∧ s.l = [] := by
  unfold doneV at h
  split at h
  · split at h
    · omega
    · exact ⟨by assumption, List.eq_nil_of_length_eq_zero (by omega)⟩
  · contradiction
theorem decV_short (l : List UInt8) (n : Int) : (decV l n).1.length ≤ l.length := by
  rcases Int.lt_or_le n 0 with hn | hn
  · rw [decV_neg hn]; simp
  · rcases Int.lt_or_le (l.length : Int) n with hf | hf
    · rw [decV_far hf]; simp
    · obtain ⟨k, rfl⟩ := Int.eq_ofNat_of_zero_le hn
      by_cases hd : doneV (rdn k ⟨l, 0⟩).2 = 0
      · rw [decV_ok (by omega) hd]; simp [sm_len, rdn_len]; omega
      · rw [decV_bad (by omega) hd]; simp
theorem decV_err {l : List UInt8} {n : Int} (h : (decV l n).2 ≠ 0) : (decV l n).1 = [] := by
  rcases Int.lt_or_le n 0 with hn | hn
  · rw [decV_neg hn]
  · rcases Int.lt_or_le (l.length : Int) n with hf | hf
    · rw [decV_far hf]
    · obtain ⟨k, rfl⟩ := Int.eq_ofNat_of_zero_le hn
      by_cases hd : doneV (rdn k ⟨l, 0⟩).2 = 0
      · rw [decV_ok (by omega) hd] at h; simp at h
      · rw [decV_bad (by omega) hd]
/-- what is encoded is decoded -/
theorem dec_enc (l : List Int) (h : Ints l) : decV (encL l) l.length = (l, 0) := by
  have hr := rdn_enc (dl 0 l) [] (dl_in 0 l)
  rw [dl_len, List.append_nil] at hr
  have hr' : rdn l.length ⟨encL l, 0⟩ = (dl 0 l, ⟨[], 0⟩) := hr
  rw [decV_ok (encL_len l).1 (by rw [hr']; rfl), hr', sm_dl l 0 h]
/-- what is decoded was encoded -/
theorem enc_dec {s : List UInt8} {n : Int} (h : (decV s n).2 = 0) : encL (decV s n).1 = s ∧ ((decV s n).1.length : Int) = n := by
  rcases Int.lt_or_le n 0 with hn | hn
  · rw [decV_neg hn] at h; simp at h
  · rcases Int.lt_or_le (s.length : Int) n with hf | hf
    · rw [decV_far hf] at h; simp at h
    · obtain ⟨k, rfl⟩ := Int.eq_ofNat_of_zero_le hn
      have hk : k ≤ s.length := by omega
      by_cases hd : doneV (rdn k ⟨s, 0⟩).2 = 0
      · rw [decV_ok hk hd]
        obtain ⟨h1, h2⟩ := doneV_zero hd
        have h3 := enc_rdn k ⟨s, 0⟩ rfl h1
        rw [h2, List.append_nil] at h3
        refine ⟨?_, by simp [sm_len, rdn_len]⟩
        simp only [encL]
        rw [dl_sm _ 0 (rdn_in k _)]
        exact h3
      · rw [decV_bad hk hd] at h
        exact absurd h hd
theorem encD_inj : ∀ (a b : List Int), Ints a → Ints b → encD a = encD b → a = b
  | [], [], _, _, _ => rfl
  | [], y :: b, _, _, h => by
    have := put_len_pos (zig y)
    have h2 := congrArg List.length h
    rw [encD_cons, List.length_append, encD_nil, List.length_nil] at h2
    omega
  | x :: a, [], _, _, h => by
    have := put_len_pos (zig x)
    have h2 := congrArg List.length h
    rw [encD_cons, List.length_append, encD_nil, List.length_nil] at h2
    omega
  | x :: a, y :: b, ha, hb, h => by
    have h1 := ha x (by simp)
    have h2 := hb y (by simp)
    have e1 := num_put (zig_lt h1.1 (by have := h1.2; omega)) (encD a)
    have e2 := num_put (zig_lt h2.1 (by have := h2.2; omega)) (encD b)
    rw [encD_cons, encD_cons] at h
    rw [h] at e1
    have hz : zig x = zig y := by rw [← e1.1, e2.1]
    have hR : encD a = encD b := by have := e1.2.symm.trans e2.2; injection this
    have hxy : x = y := by rw [← zag_zig x, hz, zag_zig]
    rw [hxy, encD_inj a b (fun z hz => ha z (by simp [hz])) (fun z hz => hb z (by simp [hz])) hR]
/-- by its own length alone -/
theorem dec_len {l : List Int} {n : Int} (hne : n ≠ l.length) : (decV (encL l) n).2 ≠ 0 := by
  intro h
  obtain ⟨h1, h2⟩ := enc_dec h
  have h3 := encD_inj _ _ (dl_in 0 _) (dl_in 0 _) h1
  have h4 := congrArg List.length h3
  rw [dl_len, dl_len] at h4
  exact hne (by rw [← h2, h4])
end Go.Proofs.Ytcbkggjphoeceaa.Pk
