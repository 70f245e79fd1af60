/-
  The walk of DictWords.
-/
import Derived.Test.YtiehmeheilfocaaTm
namespace Go.Proofs.Ytiehmeheilfocaa
open Go.RowKit Go.IntWalk
open Pk Dc Wd
set_option maxRecDepth 100000
attribute [local go_sem] Oper.semAt_some

theorem pl_ahead {l : List Tx} {k : Nat} {t : Tx} (h : l[k]? = some t) : ix t (ws [] l) = ix t (ws [] (l.take k)) := by
  have h1 := pl_at l [] k t h
  have h2 : pl [] l = pl [] (l.take (k + 1)) ++ pl (ws [] (l.take (k + 1))) (l.drop (k + 1)) := by rw [← pl_app, List.take_append_drop]
  have h3 := pl_take h []
  have hk : k < l.length := (List.getElem?_eq_some_iff.1 h).1
  have hl : (pl [] (l.take k)).length = k := by rw [pl_len, List.length_take]; omega
  rw [h2, h3, List.append_assoc, List.getElem?_append_right (by omega), hl, Nat.sub_self] at h1
  simp at h1
  exact h1.symm
theorem ws_step {l : List Tx} {k : Nat} {t : Tx} (h : l[k]? = some t) : (ws [] (l.take (k + 1))).length = (ws [] (l.take k)).length + (if ix t (ws [] l) = (ws [] (l.take k)).length then 1 else 0) := by
  rw [ws_take h [], pl_ahead h]
  by_cases hm : t ∈ ws [] (l.take k)
  · have := (ix_mem hm).1
    rw [add_mem hm, if_neg (by omega)]; rfl
  · rw [add_not hm, if_pos (ix_not hm), List.length_append]; rfl

namespace dictWords
set_option maxHeartbeats 16000000 in
theorem walk (A : Option Addr) (cap : Nat) (l : List Tx) (hz : l.length ≤ maxLen) (hlt : ∀ t ∈ l, t.length ≤ maxLen) (w : World) (hc : At w w.heap.size A (svs l)) :
    Calls Try.prog 11 #[.slice A l.length cap] w fun e w' => e = .returned (.bool true) ∧ Below w.heap.size w w' := by
  have hnot : ∀ (x : Bool) (w : World), (Op.unary .not (.bool x)).run Try.prog w = .ok (.bool (!x)) w := fun _ _ => rfl
  have HC := Lib.hid hc
  have HF1 := Lib.hid (few_c A cap l 60 60 60 60 rfl rfl (by decide) (by decide) hz hlt w hc)
  clear hc hlt
  cases hf1 : fewV l 60 60
  · rw [hf1] at HF1
    clear hf1
    go_enter Try.func11, Try.ntmps11
    go_wp2_with fail
    refine HF1.out.mono ?_
    rintro e w ⟨rfl, rfl⟩
    go_wp2_with fail
    refine (live8_c _).mono ?_
    rintro e w1 ⟨rfl, hb1⟩
    go_wp2
    go_ret
    exact ⟨rfl, hb1⟩
  · obtain ⟨l60, lt60⟩ := few_true hf1
    rw [hf1] at HF1
    clear hf1 hz
    have hx : l.length ≤ 100000 := by omega
    have HT := Lib.hid (show ∀ t ∈ l, t.length ≤ 100000 from fun t ht => Nat.le_trans (lt60 t ht) (by omega))
    obtain ⟨V, hV⟩ : ∃ V, V = ws [] l := ⟨_, rfl⟩
    have hVl : V.length ≤ l.length := by rw [hV]; have := ws_len l []; simp at this; omega
    have hND : V.Nodup := by rw [hV]; exact ws_nil_nodup l
    have HND := Lib.hid hND
    have HV := Lib.hid hV
    clear lt60 hV hND
    go_enter Try.func11, Try.ntmps11
    go_wp2_with fail
    refine HF1.out.mono ?_
    rintro e w ⟨rfl, rfl⟩
    go_wp2_with fail
    refine (words_k l V (pl [] l) HV.out.symm rfl rfl rfl hx HT.out HC.out).mono ?_
    rintro e w1 ⟨B1, k1, B2, k2, rfl, -, -, hat1, hat2, hb1⟩
    have H1 := Lib.hid hat1
    have H2 := Lib.hid hat2
    have H0 := Lib.hid (HC.out.keep hb1)
    have HB1 := Lib.hid hb1
    have g1 : ((l.length : Int) != (l.length : Int)) = false := by simp
    have g2 : decide ((l.length : Int) < (V.length : Int)) = false := by simp; omega
    clear hat1 hat2 hb1
    go_wp2_with fail
    go_loopg [5, 6] l.length (fun m mt i wr => ∃ k : Nat, i = .int .i64 (k : Int) ∧ l.length - k ≤ m ∧ k ≤ l.length ∧ mt = .int .u64 ((ws [] (l.take k)).length : Int) ∧ ∃ q, wr = w1.drewN q)
    case atStart => exact ⟨0, rfl, Nat.le_refl _, Nat.zero_le _, rfl, 0, rfl⟩
    case round =>
      obtain ⟨k, rfl, hmk, hk, rfl, hq⟩ := hrel
      have HQ := Lib.hid hq
      clear hq
      by_cases hlt : k < l.length
      · obtain ⟨t, htk⟩ := some_at hlt
        have hstep := ws_step htk
        have hpa := pl_at l [] k t htk
        have hle := ix_le t (ws [] (l.take k))
        rw [← pl_ahead htk] at hle
        have hmem : t ∈ ws [] l := (mem_ws l [] t).2 (.inr (mem_at htk))
        obtain ⟨hpl, hpv⟩ := ix_mem hmem
        rw [← HV.out] at hstep hpa hle hpl hpv
        have hwl := ws_len (l.take k) []
        rw [List.length_take, List.length_nil] at hwl
        obtain ⟨p, hp⟩ : ∃ p, p = ix t V := ⟨_, rfl⟩
        rw [← hp] at hstep hpa hle hpl hpv
        obtain ⟨c, hcc⟩ : ∃ c, c = (ws [] (l.take k)).length := ⟨_, rfl⟩
        rw [← hcc] at hstep hle hwl ⊢
        have HSTEP := Lib.hid hstep
        obtain ⟨b2, o2, rfl, _, hcp⟩ := (at_drewE H2.out HQ.out) k _ (uvs_at hpa)
        obtain ⟨b1, o1, rfl, _, hcw⟩ := (at_drewE H1.out HQ.out) p _ (svs_at hpv)
        obtain ⟨b0, o0, hbe, _, hcl⟩ := (at_drewE H0.out HQ.out) k _ (svs_at htk)
        cases hbe
        have hc60 : c ≤ 60 := by omega
        have hs0 : (!((ba t).toList == (ba t).toList)) = false := by simp
        have g3 : decide ((c : Int) < (p : Int)) = false := by simp; omega
        have g4 : decide ((V.length : Int) ≤ (p : Int)) = false := by simp; omega
        have g31 : decide (c < p) = false := by simp; omega
        have g41 : decide (V.length ≤ p) = false := by simp; omega
        have g5 : IntKind.u64.wrap (V.length : Int) = (V.length : Int) := by rw [IntKind.wrap_u64]; omega
        have hpl2 : (p : Int) < (V.length : Int) := by omega
        have hlt2 : (k : Int) < (l.length : Int) := by omega
        clear htk hstep hpa hmem hpv hp hcc hwl
        go_wp2_with fail
        go_quiet (fail)
        by_cases hpc : p = c
        · have hee : ((p : Int) == (c : Int)) = true := by simp [hpc]
          have HPC := Lib.hid hpc
          clear hpc
          go_wp2_with fail
          go_roundg (l.length - (k + 1))
          case measure => omega
          case rel => exact ⟨k + 1, by go_num, Nat.le_refl _, by omega, by rw [HSTEP.out, if_pos HPC.out]; go_num, drewE HQ.out _⟩
        · have hee : ((p : Int) == (c : Int)) = false := by simp only [beq_eq_false_iff_ne, ne_eq]; omega
          have HPC := Lib.hid hpc
          clear hpc
          go_wp2_with fail
          go_roundg (l.length - (k + 1))
          case measure => omega
          case rel => exact ⟨k + 1, by go_num, Nat.le_refl _, by omega, by rw [HSTEP.out, if_neg HPC.out]; rfl, drewE HQ.out _⟩
      · obtain rfl : k = l.length := by omega
        rw [List.take_length, ← HV.out]
        have g5 : IntKind.u64.wrap (V.length : Int) = (V.length : Int) := by rw [IntKind.wrap_u64]; omega
        have g6 : ((V.length : Int) == (V.length : Int)) = true := by simp
        clear hmk hk hlt
        go_wp2_with fail
        go_loopg [7] V.length (fun m i wr2 => ∃ k : Nat, i = .int .i64 (k : Int) ∧ V.length - k ≤ m ∧ k ≤ V.length ∧ ∃ q, wr2 = w1.drewN q)
        case atStart => exact ⟨0, rfl, Nat.le_refl _, Nat.zero_le _, HQ.out⟩
        case round =>
          clear HQ
          obtain ⟨k, rfl, hmk, hk, hq⟩ := hrel
          have HQ := Lib.hid hq
          clear hq
          by_cases hlt : k < V.length
          · go_wp2_with fail
            go_loopg [8] k (fun m j wr2 => ∃ i : Nat, j = .int .i64 (i : Int) ∧ k - i ≤ m ∧ i ≤ k ∧ ∃ q, wr2 = w1.drewN q)
            case atStart => exact ⟨0, rfl, Nat.le_refl _, Nat.zero_le _, HQ.out⟩
            case round =>
              clear HQ
              obtain ⟨i, rfl, hmi, hi, hq⟩ := hrel
              have HQ := Lib.hid hq
              clear hq
              by_cases hik : i < k
              · obtain ⟨x, hxk⟩ := some_at hlt
                obtain ⟨y, hyi⟩ := some_at (show i < V.length by omega)
                have hne : x ≠ y := fun e => by
                  obtain ⟨h1, h2⟩ := List.getElem?_eq_some_iff.1 hxk
                  obtain ⟨h3, h4⟩ := List.getElem?_eq_some_iff.1 hyi
                  have := (List.getElem_inj HND.out).1 (h2.trans (e.trans h4.symm))
                  omega
                have hs0 : ((ba x).toList == (ba y).toList) = false := by rw [ba_beq]; simp [hne]
                obtain ⟨b1, o1, rfl, _, hcx⟩ := (at_drewE H1.out HQ.out) k _ (svs_at hxk)
                obtain ⟨b2, o2, hbe, _, hcy⟩ := (at_drewE H1.out HQ.out) i _ (svs_at hyi)
                cases hbe
                have hk2 : (k : Int) < (V.length : Int) := by omega
                have hi2 : (i : Int) < (V.length : Int) := by omega
                clear hxk hyi hne
                go_wp2_with fail
                go_quiet (fail)
                go_wp2_with fail
                go_roundg (k - (i + 1))
                case measure => omega
                case rel => exact ⟨i + 1, by go_num, Nat.le_refl _, by omega, drewE HQ.out _⟩
              · obtain rfl : i = k := by omega
                go_wp2_with fail
                go_roundg (V.length - (i + 1))
                case measure => omega
                case rel => exact ⟨i + 1, by go_num, Nat.le_refl _, by omega, HQ.out⟩
          · obtain rfl : k = V.length := by omega
            obtain ⟨q, hq⟩ := HQ.out
            have hb4 : Below w.heap.size w wr := by rw [hq]; exact below_drewN HB1.out q
            clear hq hmk hk hlt
            go_wp2_with fail
            refine (live8_c _).mono ?_
            rintro e w4 ⟨rfl, hm4⟩
            go_wp2
            go_ret
            exact ⟨rfl, hb4.trans (hm4.mono hb4.size)⟩
end dictWords
end Go.Proofs.Ytiehmeheilfocaa
