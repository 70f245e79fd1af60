/-
  Tables as values: 32 numbers; the contract of a table's step.
-/
import Derived.Test.YtjjbiepmfngipaaKc
namespace Go.Proofs.Ytjjbiepmfngipaa
open Go.RowKit
open Cr
set_option maxRecDepth 100000

/-- numbers as cells -/
def tvs (l : List Nat) : List Value := l.map fun (n : Nat) => .int .u32 (n : Int)
theorem tvs_len (l : List Nat) : (tvs l).length = l.length := by simp [tvs]
/-- a table -/
def tv (l : List Nat) : Value := .agg (tvs l).toArray
@[go_sem] theorem tv_cells (l : List Nat) : (tv l).cells = (tvs l).toArray := rfl
theorem tv_size (l : List Nat) (h : l.length = 32) : (tvs l).toArray.size = 32 := by simp [tvs, h]
theorem tvs_get {l : List Nat} {k n : Nat} (h : l[k]? = some n) : (tvs l)[k]? = some (.int .u32 (n : Int)) := by simp [tvs, h]
theorem tvs_one (l : List Nat) : (tvs l).toArray.all (·.oneCell') = true := by
  rw [Array.all_eq_true']
  intro v hv
  simp only [tvs, List.mem_toArray, List.mem_map] at hv
  obtain ⟨n, _, rfl⟩ := hv
  rfl
theorem info_tb : (Try.prog.info? 74).map (·.size) = some 32 := by kernel_rfl
theorem info_u32 : (Try.prog.info? 37).map (·.size) = some 1 := by kernel_rfl
theorem info_tb' {l : List Nat} (h : l.length = 32) : (Try.prog.info? 74).map (·.size) = some (tvs l).toArray.size := by rw [tv_size l h]; exact info_tb
/-- a table's number -/
theorem index_tb {l : List Nat} {k n : Nat} (hk : k < 32) (h : l[k]? = some n) (w : World) : (Instr.index 74 (tv l) (.int .i64 (k : Int))).run Try.prog w = .ok (.int .u32 (n : Int)) w := by
  obtain ⟨i, hi, hs⟩ : ∃ i, Try.prog.info? 37 = some i ∧ i.size = 1 := by
    have := info_u32
    cases hi : Try.prog.info? 37 with
    | none => rw [hi] at this; simp at this
    | some i => rw [hi] at this; exact ⟨i, rfl, by simpa using this⟩
  have hg := tvs_get h
  have h0 : (0 : Int) ≤ (k : Int) ∧ (k : Int) < 32 := by omega
  simp [Instr.index, tv, run_underlying Try.underlying74, run_underlying Try.underlying37, asIntOf, sizeOf, typeInfo, hi, hs, part, isAgg, hg, hk]

theorem bit_of (c k : Nat) (hc : c < 4294967296) : bits .and .u32 ((c : Int) / 2 ^ k) 1 = ((c / 2 ^ k % 2 : Nat) : Int) := by
  have := and1_32 (c / 2 ^ k) (Nat.lt_of_le_of_lt (Nat.div_le_self _ _) hc)
  have e : (c : Int) / 2 ^ k = ((c / 2 ^ k : Nat) : Int) := by simp
  rw [e]; exact this

theorem tstep_c (t c : Nat) (hc : c < 4294967296) (w : World) :
    Calls Try.prog 56 #[tv (tb t), .int .u32 (c : Int)] w fun e w' => e = .returned (.int .u32 (zr t c : Nat)) ∧ Below w.heap.size w w' := by
  show Calls _ _ #[Value.agg (tvs (tb t)).toArray, _] _ _
  go_enter Try.func56, Try.ntmps56
  go_wp2_with (refine wpList_load_row rfl 74 (.tmp 2) rfl w.heap.size rfl 74 (tvs (tb t)).toArray (0, 0) _ (heap_alloc_new _ _) Try.underlying74 rfl (info_tb' (tb_len t)) ?_)
  go_loop [5, 6, 7, 9] (fun x _ _ i => ∃ (k : Nat), k ≤ 32 ∧ i = .int .i64 (k : Int) ∧ x = .int .u32 (zr t (c % 2 ^ k) : Nat)) (fun _ _ _ i => 32 - (intOf i).toNat)
  case atStart => exact ⟨0, by omega, rfl, by rw [Nat.pow_zero, Nat.mod_one, zr_zero]; rfl⟩
  case round =>
    obtain ⟨k, hk, rfl, rfl⟩ := hrel
    by_cases hlt : k < 32
    · have hidx : ∀ wx : World, (Instr.index 74 (.agg (tvs (tb t)).toArray) (.int .i64 (k : Int))).run Try.prog wx = .ok (.int .u32 (zr t (2 ^ k) : Nat)) wx := fun wx => index_tb hlt (tb_get t k hlt) wx
      have hmin : min k 32 = k := by omega
      have h1 := bit_of c k hc
      have hs := tb_step t c k
      have hz1 : zr t (c % 2 ^ k) < 4294967296 := zr_lt (Nat.lt_of_le_of_lt (Nat.mod_le _ _) hc)
      have hz2 : zr t (2 ^ k) < 4294967296 := zr_lt (by rw [w32]; exact Nat.pow_lt_pow_right (by decide) hlt)
      have h2 := u32_xor_nat _ _ hz1 hz2
      have hcast : (c : Int) / 2 ^ k % 2 = ((c / 2 ^ k % 2 : Nat) : Int) := by simp
      have hs := Lib.hid hs
      by_cases ho : c / 2 ^ k % 2 = 1
      · have ht : ((c : Int) / 2 ^ k % 2 == 1) = true := by rw [hcast, ho]; rfl
        clear hcast
        go_wp2
        go_round
        case rel => exact ⟨k + 1, by omega, by go_num, by rw [hs.out, if_pos ho]⟩
        case measure => simp [intOf]; omega
      · have ht : ((c : Int) / 2 ^ k % 2 == 1) = false := by rw [hcast, show c / 2 ^ k % 2 = 0 by omega]; rfl
        clear hcast
        go_wp2
        go_round
        case rel => exact ⟨k + 1, by omega, by go_num, by rw [hs.out, if_neg ho]⟩
        case measure => simp [intOf]; omega
    · obtain rfl : k = 32 := by omega
      go_wp2
      go_ret
      refine ⟨ret_int (by rw [show c % 2 ^ 32 = c from Nat.mod_eq_of_lt hc]), (Below.refl _ _).alloc (Nat.le_refl _) _⟩

/-- a table is loaded whole -/
theorem load_tb {ops : Array Oper} {rest : List Oper} {o : Oper} {a : Act} {w : World} {Q : Exit → Act → World → Prop} (hgd : o.guard = none) (x : Operand) (ho : o.op = .load 74 x) (B : Nat) (l : List Nat) (hl : l.length = 32)
    (hx : a.eval x = .pointer (some ⟨B, 0, none⟩)) (hi : Is w B 74 (tvs l)) (h : wpList Try.prog ops Q rest (a.put o.dst (tv l)) w) : wpList Try.prog ops Q (o :: rest) a w :=
  wpList_load_row hgd 74 x ho B hx 74 (tvs l).toArray (0, 0) _ hi Try.underlying74 rfl (info_tb' hl) h
/-- and stored whole -/
theorem store_tb {ops : Array Oper} {rest : List Oper} {o : Oper} {a : Act} {w : World} {Q : Exit → Act → World → Prop} (hgd : o.guard = none) (x y : Operand) (ho : o.op = .store 74 x y) (hd : o.dst = none) (B : Nat) (l old : List Nat) (hl : l.length = 32) (hold : old.length = 32)
    (hx : a.eval x = .pointer (some ⟨B, 0, none⟩)) (hy : a.eval y = tv l) (hi : Is w B 74 (tvs old)) (h : wpList Try.prog ops Q rest a (w.setRow B (tvs l).toArray)) : wpList Try.prog ops Q (o :: rest) a w :=
  wpList_store_row hgd 74 x y ho B (tvs l).toArray hx hy 74 (tvs old).toArray hi (info_tb' hl) (by rw [tv_size _ hl, tv_size _ hold]) (tvs_one _) (by rw [hd]; exact h)
theorem is_row {w : World} {B : Nat} {t : TypeId} {l old : List Value} (h : Is w B t old) : Is (w.setRow B l.toArray) B t l := setRow_heap _ _ _ _ _ _ h

/-- the first k numbers of one table, the rest of another one -/
def mixl (new old : List Nat) (k : Nat) : List Nat := new.take k ++ old.drop k
theorem mixl_zero (new old : List Nat) : mixl new old 0 = old := by simp [mixl]
theorem mixl_all {new old : List Nat} (h1 : new.length = 32) (h2 : old.length = 32) : mixl new old 32 = new := by
  unfold mixl; rw [List.take_of_length_le (by omega), List.drop_of_length_le (by omega), List.append_nil]
theorem mixl_len {new old : List Nat} {k : Nat} (h1 : new.length = 32) (h2 : old.length = 32) (hk : k ≤ 32) : (mixl new old k).length = 32 := by
  simp [mixl]; omega
theorem mixl_set {new old : List Nat} {k n : Nat} (h1 : new.length = 32) (h2 : old.length = 32) (hk : k < 32) (hn : new[k]? = some n) : (tvs (mixl new old k)).set k (.int .u32 (n : Int)) = tvs (mixl new old (k + 1)) := by
  have e : (tvs (mixl new old k)).set k (.int .u32 (n : Int)) = tvs ((mixl new old k).set k n) := by simp [tvs, List.map_set]
  rw [e]; congr 1
  obtain ⟨hk1, rfl⟩ := List.getElem?_eq_some_iff.1 hn
  unfold mixl
  rw [List.set_append_right _ _ (by simp; omega), List.length_take, show k - min k new.length = 0 by omega, List.drop_eq_getElem_cons (show k < old.length by omega), List.set_cons_zero, List.take_succ_eq_append_getElem hk1, List.append_assoc]
  rfl
theorem is_other {w w' : World} {g B : Nat} {t : TypeId} {l : List Value} (h : Is w g t l) (hb : Below B w w') (hB : w.heap.size ≤ B) : Is w' g t l := is_below h hb (Nat.lt_of_lt_of_le (is_lt h) hB)
theorem below_set {B g i : Nat} {w w1 : World} {v : Value} (hb : Below B w w1) (hg : B ≤ g) : Below B w (w1.setCell ⟨g, i, none⟩ v) := Below.setCell hb (p := ⟨g, i, none⟩) hg v

theorem below_setRowT {B g : Nat} {w0 w : World} (hb : Below B w0 w) (hBg : B ≤ g) (cs : Array Value) : Below B w0 (w.setRow g cs) := by
  refine ⟨hb.os, hb.tape, hb.output, by rw [size_setRow]; exact hb.size, fun k hk => ?_⟩
  rw [setRow_other w g k cs (by omega)]
  exact hb.block k hk

def noughts : List Nat := List.replicate 32 0
theorem noughts_len : noughts.length = 32 := by simp [noughts]

/-- the table of one nought -/
theorem zero_c (w : World) :
    Calls Try.prog 55 #[] w fun e w' => e = .returned (tv (tb 1)) ∧ Below w.heap.size w w' := by
  go_enter Try.func55, Try.ntmps55
  go_wp2_with fail
  go_loopw [2, 3] (fun _ i wr => ∃ (k : Nat), k ≤ 32 ∧ i = .int .i64 (k : Int) ∧ Is wr (w.heap.size + 1) 74 (tvs (mixl (tb 1) noughts k)) ∧ Is wr w.heap.size 74 (tvs noughts) ∧ Below w.heap.size w wr) (fun _ i _ => 32 - (intOf i).toNat)
  case atStart => exact ⟨0, by omega, rfl, heap_alloc2_new _ _ _, heap_alloc2_old _ _ _, ((Below.refl _ _).alloc (Nat.le_refl _) _).alloc (by simp) _⟩
  case round =>
    obtain ⟨k, hk, rfl, hi1, hi0, hb⟩ := hrel
    by_cases hlt : k < 32
    · have hmin : min k 32 = k := by omega
      have hpow : (2 : Int) ^ k % 4294967296 = ((2 ^ k : Nat) : Int) := by
        have : (2 : Nat) ^ k < 4294967296 := by rw [w32]; exact Nat.pow_lt_pow_right (by decide) hlt
        have e : (2 : Int) ^ k = ((2 ^ k : Nat) : Int) := by simp
        rw [e]
        generalize 2 ^ k = p at this
        omega
      have hset := mixl_set (tb_len 1) noughts_len hlt (tb_get 1 k hlt)
      obtain ⟨u, hc⟩ := is_at hi1 (i := k) (by rw [tvs_len, mixl_len (tb_len 1) noughts_len hk]; exact hlt)
      have hf := is_free hi1 k
      go_wp2_with fail
      refine (step_c (2 ^ k) 0 (by rw [w32]; exact Nat.pow_lt_pow_right (by decide) hlt) (by decide) _).mono ?_
      rintro e w2 ⟨rfl, rfl⟩
      go_wp2
      go_roundw
      case rel => exact ⟨k + 1, by omega, by go_num, by rw [← hset]; exact is_set hi1 k _, is_far hi0 _ (by show w.heap.size ≠ w.heap.size + 1; omega) _, below_set hb (by omega)⟩
      case measure => simp [intOf]; omega
    · obtain rfl : k = 32 := by omega
      rw [mixl_all (tb_len 1) noughts_len] at hi1
      go_wp2_with (first | refine wpList_load_row rfl 74 (.tmp 1) rfl (w.heap.size + 1) rfl 74 (tvs (tb 1)).toArray (0, 0) _ hi1 Try.underlying74 rfl (info_tb' (tb_len 1)) ?_ | refine wpList_store_row rfl 74 (.tmp 0) (.tmp 12) rfl w.heap.size (tvs (tb 1)).toArray rfl rfl 74 (tvs noughts).toArray hi0 (info_tb' (tb_len 1)) (by rw [tv_size _ (tb_len 1), tv_size _ noughts_len]) (tvs_one _) ?_)
      refine bodyPost_ret (v := tv (tb 1)) (results_cell_row Try.results55 _ _ w.heap.size 74 (tvs (tb 1)).toArray (0, 0) _ rfl (setRow_heap _ _ _ _ _ _ hi0) Try.underlying74 rfl (info_tb' (tb_len 1))) rfl ⟨rfl, ?_⟩
      exact below_setRowT hb (Nat.le_refl _) _

/-- the table of twice as many -/
theorem squared_c (t : Nat) (w : World) :
    Calls Try.prog 57 #[tv (tb t)] w fun e w' => e = .returned (tv (tb (2 * t))) ∧ Below w.heap.size w w' := by
  show Calls _ _ #[Value.agg (tvs (tb t)).toArray] _ _
  go_enter Try.func57, Try.ntmps57
  have hmf : ∀ (fn : Fn) (first cap : Array Value) (w : World), (Instr.makeFunc fn first cap).run Try.prog w = .ok (.func fn first cap) w := fun _ _ _ _ => rfl
  go_wp2_with (first | refine wpList_load_row rfl 74 (.tmp 1) rfl w.heap.size rfl 74 (tvs (tb t)).toArray (0, 0) _ (heap_alloc2_old _ _ _) Try.underlying74 rfl (info_tb' (tb_len t)) ?_)
  go_loopw [4, 5, 9] (fun _ _ i wr => ∃ (k : Nat), k ≤ 32 ∧ i = .int .i64 (k : Int) ∧ Is wr w.heap.size 74 (tvs (mixl (tb (2 * t)) (tb t) k)) ∧ Is wr (w.heap.size + 1) 74 (tvs noughts) ∧ Below w.heap.size w wr) (fun _ _ i _ => 32 - (intOf i).toNat)
  case atStart => exact ⟨0, by omega, rfl, by rw [mixl_zero]; exact heap_alloc2_old _ _ _, heap_alloc2_new _ _ _, ((Below.refl _ _).alloc (Nat.le_refl _) _).alloc (by simp) _⟩
  case round =>
    obtain ⟨k, hk, rfl, hi1, hi0, hb⟩ := hrel
    by_cases hlt : k < 32
    · have hidx : ∀ wx : World, (Instr.index 74 (.agg (tvs (tb t)).toArray) (.int .i64 (k : Int))).run Try.prog wx = .ok (.int .u32 (zr t (2 ^ k) : Nat)) wx := fun wx => index_tb hlt (tb_get t k hlt) wx
      have hz : zr t (2 ^ k) < 4294967296 := zr_lt (by rw [w32]; exact Nat.pow_lt_pow_right (by decide) hlt)
      have hset := mixl_set (tb_len (2 * t)) (tb_len t) hlt (tb_get (2 * t) k hlt)
      have hzz : zr (2 * t) (2 ^ k) = zr t (zr t (2 ^ k)) := by rw [show 2 * t = t + t by omega, zr_add]
      go_wp2_with fail
      refine (tstep_c t (zr t (2 ^ k)) hz _).mono ?_
      rintro e w2 ⟨rfl, hb2⟩
      have hj1 := is_other hi1 hb2 (Nat.le_refl _)
      have hj0 := is_other hi0 hb2 (Nat.le_refl _)
      have hbb := hb.trans (hb2.mono hb.size)
      obtain ⟨u, hc⟩ := is_at hj1 (i := k) (by rw [tvs_len, mixl_len (tb_len _) (tb_len _) hk]; exact hlt)
      have hf := is_free hj1 k
      go_wp2
      go_roundw
      case rel => exact ⟨k + 1, by omega, by go_num, by rw [← hset, hzz]; exact is_set hj1 k _, is_far hj0 _ (by show w.heap.size + 1 ≠ w.heap.size; omega) _, below_set hbb (Nat.le_refl _)⟩
      case measure => simp [intOf]; omega
    · obtain rfl : k = 32 := by omega
      rw [mixl_all (tb_len _) (tb_len _)] at hi1
      go_wp2_with (first | refine wpList_load_row rfl 74 (.tmp 1) rfl w.heap.size rfl 74 (tvs (tb (2 * t))).toArray (0, 0) _ hi1 Try.underlying74 rfl (info_tb' (tb_len _)) ?_ | refine wpList_store_row rfl 74 (.tmp 2) (.tmp 19) rfl (w.heap.size + 1) (tvs (tb (2 * t))).toArray rfl rfl 74 (tvs noughts).toArray hi0 (info_tb' (tb_len _)) (by rw [tv_size _ (tb_len _), tv_size _ noughts_len]) (tvs_one _) ?_)
      refine bodyPost_ret (v := tv (tb (2 * t))) (results_cell_row Try.results57 _ _ (w.heap.size + 1) 74 (tvs (tb (2 * t))).toArray (0, 0) _ rfl (setRow_heap _ _ _ _ _ _ hi0) Try.underlying74 rfl (info_tb' (tb_len _))) rfl ⟨rfl, ?_⟩
      exact below_setRowT hb (by omega) _
end Go.Proofs.Ytjjbiepmfngipaa
