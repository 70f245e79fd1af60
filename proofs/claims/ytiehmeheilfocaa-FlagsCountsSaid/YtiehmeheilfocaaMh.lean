/-
  Plain mathematics of layer 5: what is decoded. No Go.
-/
import Derived.Test.YtiehmeheilfocaaMg
namespace Go.Proofs.Ytiehmeheilfocaa.Pk

/-- P5.2: the list of n numbers of which s is told, and the error -/
def decV (l : List UInt8) (n : Int) : List Int × Int :=
  if n < 0 then ([], 1) else if (l.length : Int) < n then ([], 2) else
  if doneV (rdn n.toNat ⟨l, 0⟩).2 = 0 then (sm 0 (rdn n.toNat ⟨l, 0⟩).1, 0) else ([], doneV (rdn n.toNat ⟨l, 0⟩).2)

theorem decV_neg {l : List UInt8} {n : Int} (h : n < 0) : decV l n = ([], 1) := by rw [decV, if_pos h]
theorem decV_far {l : List UInt8} {n : Int} (h : (l.length : Int) < n) : decV l n = ([], 2) := by rw [decV, if_neg (by omega), if_pos h]
theorem decV_bad {l : List UInt8} {n : Nat} (h : n ≤ l.length) (hd : doneV (rdn n ⟨l, 0⟩).2 ≠ 0) : decV l n = ([], doneV (rdn n ⟨l, 0⟩).2) := by
  rw [decV, if_neg (by omega), if_neg (by omega), Int.toNat_natCast, if_neg hd]
theorem decV_ok {l : List UInt8} {n : Nat} (h : n ≤ l.length) (hd : doneV (rdn n ⟨l, 0⟩).2 = 0) : decV l n = (sm 0 (rdn n ⟨l, 0⟩).1, 0) := by
  rw [decV, if_neg (by omega), if_neg (by omega), Int.toNat_natCast, if_pos hd]
theorem doneV_zero {s : St} (h : doneV s = 0) : s.e = 0 ∧ s.l = [] := by
  unfold doneV at h
  split at h
  · split at h
    · omega
    · exact ⟨by assumption, List.eq_nil_of_length_eq_zero (by omega)⟩
  · contradiction
theorem decV_short (l : List UInt8) (n : Int) : (decV l n).1.length ≤ l.length := by
  rcases Int.lt_or_le n 0 with hn | hn
  · rw [decV_neg hn]; simp
  · rcases Int.lt_or_le (l.length : Int) n with hf | hf
    · rw [decV_far hf]; simp
    · obtain ⟨k, rfl⟩ := Int.eq_ofNat_of_zero_le hn
      by_cases hd : doneV (rdn k ⟨l, 0⟩).2 = 0
      · rw [decV_ok (by omega) hd]; simp [sm_len, rdn_len]; omega
      · rw [decV_bad (by omega) hd]; simp
theorem decV_err {l : List UInt8} {n : Int} (h : (decV l n).2 ≠ 0) : (decV l n).1 = [] := by
  rcases Int.lt_or_le n 0 with hn | hn
  · rw [decV_neg hn]
  · rcases Int.lt_or_le (l.length : Int) n with hf | hf
    · rw [decV_far hf]
    · obtain ⟨k, rfl⟩ := Int.eq_ofNat_of_zero_le hn
      by_cases hd : doneV (rdn k ⟨l, 0⟩).2 = 0
      · rw [decV_ok (by omega) hd] at h; simp at h
      · rw [decV_bad (by omega) hd]
/-- what is encoded is decoded -/
theorem dec_enc (l : List Int) (h : Ints l) : decV (encL l) l.length = (l, 0) := by
  have hr := rdn_enc (dl 0 l) [] (dl_in 0 l)
  rw [dl_len, List.append_nil] at hr
  have hr' : rdn l.length ⟨encL l, 0⟩ = (dl 0 l, ⟨[], 0⟩) := hr
  rw [decV_ok (encL_len l).1 (by rw [hr']; rfl), hr', sm_dl l 0 h]
/-- what is decoded was encoded -/
theorem enc_dec {s : List UInt8} {n : Int} (h : (decV s n).2 = 0) : encL (decV s n).1 = s ∧ ((decV s n).1.length : Int) = n := by
  rcases Int.lt_or_le n 0 with hn | hn
  · rw [decV_neg hn] at h; simp at h
  · rcases Int.lt_or_le (s.length : Int) n with hf | hf
    · rw [decV_far hf] at h; simp at h
    · obtain ⟨k, rfl⟩ := Int.eq_ofNat_of_zero_le hn
      have hk : k ≤ s.length := by omega
      by_cases hd : doneV (rdn k ⟨s, 0⟩).2 = 0
      · rw [decV_ok hk hd]
        obtain ⟨h1, h2⟩ := doneV_zero hd
        have h3 := enc_rdn k ⟨s, 0⟩ rfl h1
        rw [h2, List.append_nil] at h3
        refine ⟨?_, by simp [sm_len, rdn_len]⟩
        simp only [encL]
        rw [dl_sm _ 0 (rdn_in k _)]
        exact h3
      · rw [decV_bad hk hd] at h
        exact absurd h hd
theorem encD_inj : ∀ (a b : List Int), Ints a → Ints b → encD a = encD b → a = b
  | [], [], _, _, _ => rfl
  | [], y :: b, _, _, h => by
    have := put_len_pos (zig y)
    have h2 := congrArg List.length h
    rw [encD_cons, List.length_append, encD_nil, List.length_nil] at h2
    omega
  | x :: a, [], _, _, h => by
    have := put_len_pos (zig x)
    have h2 := congrArg List.length h
    rw [encD_cons, List.length_append, encD_nil, List.length_nil] at h2
    omega
  | x :: a, y :: b, ha, hb, h => by
    have h1 := ha x (by simp)
    have h2 := hb y (by simp)
    have e1 := num_put (zig_lt h1.1 (by have := h1.2; omega)) (encD a)
    have e2 := num_put (zig_lt h2.1 (by have := h2.2; omega)) (encD b)
    rw [encD_cons, encD_cons] at h
    rw [h] at e1
    have hz : zig x = zig y := by rw [← e1.1, e2.1]
    have hR : encD a = encD b := by have := e1.2.symm.trans e2.2; injection this
    have hxy : x = y := by rw [← zag_zig x, hz, zag_zig]
    rw [hxy, encD_inj a b (fun z hz => ha z (by simp [hz])) (fun z hz => hb z (by simp [hz])) hR]
/-- by its own length alone -/
theorem dec_len {l : List Int} {n : Int} (hne : n ≠ l.length) : (decV (encL l) n).2 ≠ 0 := by
  intro h
  obtain ⟨h1, h2⟩ := enc_dec h
  have h3 := encD_inj _ _ (dl_in 0 _) (dl_in 0 _) h1
  have h4 := congrArg List.length h3
  rw [dl_len, dl_len] at h4
  exact hne (by rw [← h2, h4])
end Go.Proofs.Ytiehmeheilfocaa.Pk
