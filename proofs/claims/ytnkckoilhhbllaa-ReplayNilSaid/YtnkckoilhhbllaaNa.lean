/-
  Contracts of the small functions that bits leans on (math's, and the two of the document's answer that take nothing), and of bits.powers.
  The contract of bits.powers: the ten rows of powers of two.
  The contract of bits.times: a number times a power of two, where the format holds what comes of it and what lies between.
  Contracts of bits.size and bits.Float: the word of e and m, and of any 64 bits.
  Contracts of bits.part, bits.Kind, bits.Minus, bits.Canon.
  Contracts of bits.Canon, bits.Bits, bits.Same.
  Contracts of the document's answer for layer 1: Minus, Bits.
  Contract of the document's answer for layer 1: Bits. By where the number lies: no number, nought, endless, plain from one on, plain below one, tiny.
  Contract of the document's answer for layer 1: Bits, of plain and tiny numbers.
  Contracts of the document's answer for layer 1: Bits in all, Canon, Kind, Same, and Float.
  Contract of the document's answer for layer 1: Float, and what an operation that has no answer gives.
  Contract of the document's answer for layer 1: Float in all; contracts at whatever integer; and 'live' of layer 1's statements.
  Contracts of package rank's Key, Compare, Unkey, Between and of the document's.
  Contracts of package rank's Unkey and Between and of the document's.
  Contracts of package rank's Between and of the document's.
  Contracts of cmp.Compare of ints, and of the closures of package rank.
  Contract of package rank's first, at the two pairs of ways that are handed to it.
  Contracts of package rank's Before and Less, and of the document's.
  Contracts of the document's Before and Less; and 'live' of layer 2's statements.
-/
import Derived.Test.YtnkckoilhhbllaaRows
import Derived.Test.YtnkckoilhhbllaaFa
import Derived.WalkKit
import Derived.WalkLawsBesides
import Derived.Lib.Hide
import Derived.Outline
import Derived.Deep.QuietTactic
import Derived.BigQuiet
import Derived.LoopN
import Derived.Handy
section
section
namespace Go.Proofs.Ytnkckoilhhbllaa
open Go.RowKit
open Fl
set_option maxRecDepth 100000

/-- a float is stored in its one cell -/
@[go_sem] theorem run_store_float {P : Program} (w : World) (a : Addr) (m : Mode) (k : FloatKind) (x : Nat) : (store a (.float k x) m).run P w = stored P w a (.float k x) m := run_store P w a _ m rfl

/-- the minus before a float -/
@[go_sem] theorem run_neg_float {P : Program} (w : World) (x : Nat) : (Op.unary .neg (.float .f64 x)).run P w = .ok (.float .f64 (Op.negFloat .f64 x)) w := rfl

theorem bits_of (x : Nat) (w : World) : (callFunc 179 #[.float .f64 x]).run Try.prog w = .ok (.value (.int .u64 x)) w := by
  rw [run_callFunc_extern Try.func179 (by kernel_rfl) (by kernel_rfl) (by kernel_rfl) (e := Extern.MathFloatBits.float64bits) (by kernel_rfl)]
  rfl
theorem from_bits (n : Int) (w : World) : (callFunc 178 #[.int .u64 n]).run Try.prog w = .ok (.value (.float .f64 n.toNat)) w := by
  rw [run_callFunc_extern Try.func178 (by kernel_rfl) (by kernel_rfl) (by kernel_rfl) (e := Extern.MathFloatBits.float64frombits) (by kernel_rfl)]
  rfl

theorem isNaN_c (x : Nat) (hx : x < 18446744073709551616) (w : World) :
    Calls Try.prog 175 #[.float .f64 x] w fun e w' => e = .returned (.bool (nn x)) ∧ w = w' := by
  have h1 := o_self x hx
  go_enter Try.func175, Try.ntmps175
  go_wp2
  go_ret
  exact ⟨rfl, rfl⟩

theorem abs_c (x : Nat) (hx : x < 18446744073709551616) (w : World) :
    Calls Try.prog 161 #[.float .f64 x] w fun e w' => e = .returned (.float .f64 (mg x)) ∧ w = w' := by
  have h1 := bits_of x
  have h2 := andnot_top x hx
  have h3 := from_bits ((mg x : Nat) : Int)
  go_enter Try.func161, Try.ntmps161
  go_wp2
  go_ret
  exact ⟨rfl, rfl⟩

theorem isInf_c (x : Nat) (hx : x < 18446744073709551616) (w : World) :
    Calls Try.prog 176 #[.float .f64 x, .int .i64 0] w fun e w' => e = .returned (.bool (decide (mg x = 9218868437227405312))) ∧ w = w' := by
  have hm := mg_lt x
  have h1 : (FloatKind.f64.format.order (mg x) 9218868437227405311 == some Ordering.gt) = decide (mg x = 9218868437227405312) := by
    cases h : nn (mg x)
    · have hq : mg x ≤ 9218868437227405312 := by
        unfold nn at h; rw [Nat.mod_eq_of_lt hm] at h; simpa using h
      rw [o_gt (mg x) _ (by omega) (by omega) h (nn_small _ (by omega)), vl_small _ hm, vl_small _ (by omega)]
      exact decide_eq_decide.2 (by omega)
    · rw [order_nn_left (mg x) _ (by omega) h]
      have hq : 9218868437227405312 < mg x := by
        unfold nn at h; rw [Nat.mod_eq_of_lt hm] at h; simpa using h
      have : ¬ mg x = 9218868437227405312 := by omega
      rw [decide_eq_false this]; rfl
  go_enter Try.func176, Try.ntmps176
  go_wp2_with fail
  refine (abs_c x hx _).mono ?_
  rintro e w' ⟨rfl, rfl⟩
  go_wp2
  go_ret
  exact ⟨rfl, rfl⟩

theorem signbit_c (x : Nat) (hx : x < 18446744073709551616) (w : World) :
    Calls Try.prog 180 #[.float .f64 x] w fun e w' => e = .returned (.bool (ng x)) ∧ w = w' := by
  have h1 := bits_of x
  have h2 : decide (wrap64 (x : Int) < 0) = ng x := by
    unfold wrap64 ng
    exact decide_eq_decide.2 (by omega)
  go_enter Try.func180, Try.ntmps180
  go_wp2
  go_ret
  exact ⟨rfl, rfl⟩

theorem top_c (w : World) :
    Calls Try.prog 135 #[] w fun e w' => e = .returned (.int .u64 9223372036854775808) ∧ w = w' := by
  go_enter Try.func135, Try.ntmps135
  go_wp2
  go_ret
  exact ⟨rfl, rfl⟩

theorem none_c (w : World) :
    Calls Try.prog 133 #[] w fun e w' => e = .returned (.int .u64 9221120237041090560) ∧ w = w' := by
  go_enter Try.func133, Try.ntmps133
  go_wp2
  go_ret
  exact ⟨rfl, rfl⟩
end Go.Proofs.Ytnkckoilhhbllaa
end

section
namespace Go.Proofs.Ytnkckoilhhbllaa
open Go.RowKit
open Fl
set_option maxRecDepth 100000

/-- the cells of the rows -/
def powCells : Array Value := #[.int .i64 512, .float .f64 6913025428013711360, .float .f64 2301339409586323456, .int .i64 256, .float .f64 5760103923406864384, .float .f64 3454260914193170432,
  .int .i64 128, .float .f64 5183643171103440896, .float .f64 4030721666496593920, .int .i64 64, .float .f64 4895412794951729152, .float .f64 4318952042648305664,
  .int .i64 32, .float .f64 4751297606875873280, .float .f64 4463067230724161536, .int .i64 16, .float .f64 4679240012837945344, .float .f64 4535124824762089472,
  .int .i64 8, .float .f64 4643211215818981376, .float .f64 4571153621781053440, .int .i64 4, .float .f64 4625196817309499392, .float .f64 4589168020290535424,
  .int .i64 2, .float .f64 4616189618054758400, .float .f64 4598175219545276416, .int .i64 1, .float .f64 4611686018427387904, .float .f64 4602678819172646912]
def powRows : Value := .agg powCells
/-- one row, as it is built -/
def powRow (a : Int) (x y : Nat) : Value := .agg #[.int .i64 a, .float .f64 x, .float .f64 y]

theorem build_row (a : Int) (x y : Nat) (w : World) : (Instr.build 187 #[(0, .int .i64 a), (1, .float .f64 x), (2, .float .f64 y)]).run Try.prog w = .ok (powRow a x y) w :=
  run_build w 187 _ _ (by kernel_rfl)
theorem build_all (w : World) : (Instr.build 188 #[(0, powRow 512 6913025428013711360 2301339409586323456), (1, powRow 256 5760103923406864384 3454260914193170432), (2, powRow 128 5183643171103440896 4030721666496593920),
    (3, powRow 64 4895412794951729152 4318952042648305664), (4, powRow 32 4751297606875873280 4463067230724161536), (5, powRow 16 4679240012837945344 4535124824762089472), (6, powRow 8 4643211215818981376 4571153621781053440),
    (7, powRow 4 4625196817309499392 4589168020290535424), (8, powRow 2 4616189618054758400 4598175219545276416), (9, powRow 1 4611686018427387904 4602678819172646912)]).run Try.prog w = .ok powRows w :=
  run_build w 188 _ _ (by kernel_rfl)

theorem below_setRow1 {B g : Nat} {w0 w : World} (hb : Below B w0 w) (hBg : B ≤ g) (cs : Array Value) : Below B w0 (w.setRow g cs) := by
  refine ⟨hb.os, hb.tape, hb.output, by rw [size_setRow]; exact hb.size, fun k hk => ?_⟩
  rw [setRow_other w g k cs (by omega)]
  exact hb.block k hk

theorem powers_c (w : World) :
    Calls Try.prog 177 #[] w fun e w' => e = .returned powRows ∧ Below w.heap.size w w' := by
  have b1 := build_row
  have b2 := build_all
  go_enter Try.func177, Try.ntmps177
  go_wp2_with (refine wpList_store_row rfl _ _ _ rfl w.heap.size powCells rfl rfl _ _ (heap_alloc_new _ _) (by kernel_rfl) (by kernel_rfl) (by kernel_rfl) ?_)
  refine bodyPost_ret (v := powRows) (results_cell_row Try.results177 _ _ w.heap.size 188 powCells (0, 0) _ rfl (setRow_heap _ _ _ _ _ _ (heap_alloc_new _ _)) Try.underlying188 (by kernel_rfl) (by kernel_rfl)) rfl ⟨rfl, ?_⟩
  exact below_setRow1 ((Below.refl _ _).alloc (Nat.le_refl _) _) (Nat.le_refl _) _
end Go.Proofs.Ytnkckoilhhbllaa
end

section
namespace Go.Proofs.Ytnkckoilhhbllaa
open Go.RowKit
open Fl
set_option maxRecDepth 100000

theorem index_row (k : Nat) (hk : k < 10) (w : World) : (Instr.index 188 powRows (.int .i64 (k : Int))).run Try.prog w = .ok (.agg #[.int .i64 (pw k), .float .f64 (pUp k), .float .f64 (pDn k)]) w := by
  have h : k = 0 ∨ k = 1 ∨ k = 2 ∨ k = 3 ∨ k = 4 ∨ k = 5 ∨ k = 6 ∨ k = 7 ∨ k = 8 ∨ k = 9 := by omega
  rcases h with rfl | rfl | rfl | rfl | rfl | rfl | rfl | rfl | rfl | rfl
  all_goals (refine Eq.trans (b := .ok _ w) ?_ rfl; kernel_rfl)

/-- block B holds row k -/
def HasRow (B k : Nat) (w : World) : Prop := w.cell? ⟨B, 0, none⟩ = some (.int .i64 (pw k)) ∧ w.cell? ⟨B, 1, none⟩ = some (.float .f64 (pUp k)) ∧ w.cell? ⟨B, 2, none⟩ = some (.float .f64 (pDn k))

theorem hasRow_drewN {B k : Nat} {w : World} (h : HasRow B k w) (n : Nat) : HasRow B k (w.drewN n) := h

theorem hasRow_new (w : World) (k : Nat) : HasRow w.heap.size k (w.alloc (.cells #[.int .i64 (pw k), .float .f64 (pUp k), .float .f64 (pDn k)] 187)) :=
  ⟨by rw [World.cell?_alloc_at _ _ _ _ rfl]; rfl, by rw [World.cell?_alloc_at _ _ _ _ rfl]; rfl, by rw [World.cell?_alloc_at _ _ _ _ rfl]; rfl⟩

set_option maxHeartbeats 1000000 in
theorem times_c (m t t' : Nat) (x : Int) (hm : m < 9007199254740992) (ht : t ≤ 2045) (ht' : t' ≤ 2045) (hx1 : (t : Int) + x ≤ t') (hx2 : (t' : Int) ≤ t + x) (w : World) :
    Calls Try.prog 160 #[.float .f64 (en m t), .int .i64 x] w fun e w' => e = .returned (.float .f64 (en m t')) ∧ Below w.heap.size w w' := by
  go_enter Try.func160, Try.ntmps160
  go_wp2_with fail
  refine (powers_c _).mono ?_
  rintro e w1 ⟨rfl, hb1⟩
  go_wp2_with fail
  go_loopw [0, 1, 8] (fun f x i wr => ∃ (k s : Nat) (y : Int), k ≤ 10 ∧ i = .int .i64 k ∧ f = .float .f64 (en m s) ∧ x = .int .i64 y ∧ s ≤ 2045 ∧ (s : Int) + y ≤ t' ∧ (t' : Int) ≤ s + y ∧ -(bd k) < y ∧ y < bd k ∧ Below w.heap.size w wr)
    (fun _ _ i _ => 10 - (intOf i).toNat)
  case atStart => exact ⟨0, t, x, by omega, rfl, rfl, rfl, ht, hx1, hx2, by rw [bd_zero]; omega, by rw [bd_zero]; omega, hb1⟩
  case round =>
    obtain ⟨k, s, y, hk, rfl, rfl, rfl, hs, hy1, hy2, hb3, hb4, hb⟩ := hrel
    obtain ⟨wo, rfl⟩ : ∃ wo : World, wo = wr := ⟨_, rfl⟩
    by_cases hlt : k < 10
    · have hp := pw_bd k
      have hidx := index_row k hlt
      go_wp2_with fail
      clear hidx
      go_loopw [0, 1] (fun f x wi => ∃ (s1 : Nat) (y1 : Int), f = .float .f64 (en m s1) ∧ x = .int .i64 y1 ∧ s1 ≤ 2045 ∧ (s1 : Int) + y1 ≤ t' ∧ (t' : Int) ≤ s1 + y1 ∧ -(bd k) < y1 ∧ HasRow wo.heap.size k wi ∧ Below w.heap.size w wi)
        (fun _ x _ => (intOf x).toNat)
      case atStart => exact ⟨s, y, rfl, rfl, hs, hy1, hy2, hb3, hasRow_new _ _, hb.alloc hb.size _⟩
      case round =>
        obtain ⟨s1, y1, rfl, rfl, hs1, hz1, hz2, hz3, hrow, hbi⟩ := hrel
        obtain ⟨c0, c1, c2⟩ := id hrow
        by_cases hge : pw k ≤ y1
        · have hmul := fun wx => run_float_arith (P := Try.prog) wx .mul 25 .f64 _ _ _ (mul_up m s1 k hm (by omega))
          go_wp2_with fail
          go_quiet (fail)
          go_wp2
          go_roundw
          case rel => exact ⟨s1 + (pw k).toNat, y1 - pw k, rfl, rfl, by omega, by omega, by omega, by omega, hasRow_drewN hrow _, below_drewN hbi _⟩
          case measure => simp only [intOf]; omega
        · clear hs hy1 hy2 hb3 hb4
          go_wp2_with fail
          clear c0 c1 c2
          go_loopw [0, 1] (fun f x wi => ∃ (s2 : Nat) (y2 : Int), f = .float .f64 (en m s2) ∧ x = .int .i64 y2 ∧ s2 ≤ 2045 ∧ (s2 : Int) + y2 ≤ t' ∧ (t' : Int) ≤ s2 + y2 ∧ y2 < pw k ∧ HasRow wo.heap.size k wi ∧ Below w.heap.size w wi)
            (fun _ x _ => (-(intOf x)).toNat)
          case atStart => exact ⟨s1, y1, rfl, rfl, hs1, hz1, hz2, by omega, hrow, hbi⟩
          case round =>
            clear hs1 hz1 hz2 hz3 hge hrow hbi
            obtain ⟨s2, y2, rfl, rfl, hs2, hz1, hz2, hz3, hrow, hbi⟩ := hrel
            obtain ⟨c0, c1, c2⟩ := id hrow
            by_cases hle : y2 ≤ -(pw k)
            · have hmul := fun wx => run_float_arith (P := Try.prog) wx .mul 25 .f64 _ _ _ (mul_dn m s2 k hm hs2 (by omega))
              go_wp2_with fail
              go_quiet (fail)
              go_wp2
              go_roundw
              case rel => exact ⟨s2 - (pw k).toNat, y2 + pw k, rfl, rfl, by omega, by omega, by omega, by omega, hasRow_drewN hrow _, below_drewN hbi _⟩
              case measure => simp only [intOf]; omega
            · go_wp2
              go_roundw
              case rel => exact ⟨k + 1, s2, y2, by omega, by go_num, rfl, rfl, hs2, hz1, hz2, by rw [bd_succ]; omega, by rw [bd_succ]; omega, hbi⟩
              case measure => simp only [intOf]; omega
    · obtain rfl : k = 10 := by omega
      rw [bd_ten] at hb3 hb4
      obtain rfl : s = t' := by omega
      go_wp2
      go_ret
      exact ⟨rfl, hb⟩
end Go.Proofs.Ytnkckoilhhbllaa
end

section
namespace Go.Proofs.Ytnkckoilhhbllaa
open Go.RowKit
open Fl
set_option maxRecDepth 100000

/-- the word that size makes -/
def szw (e m : Nat) : Nat := if e = 2047 then (if m = 0 then 9218868437227405312 else 9221120237041090561) else e * 4503599627370496 + m

theorem ofNat_en (m : Nat) (hm : m < 9007199254740992) : floatOfInt .f64 (m : Int) = en m B := ofNat_eq m hm

theorem ng_cases (u : Nat) : (ng u = true ∧ 9223372036854775808 ≤ u) ∨ (ng u = false ∧ u < 9223372036854775808) := by
  unfold ng
  by_cases h : 9223372036854775808 ≤ u
  · exact .inl ⟨by simp [h], h⟩
  · exact .inr ⟨by simp [h], by omega⟩

/-- what size makes of e and m, and the minus before it -/
theorem szw_fl (u : Nat) (hu : u < 18446744073709551616) :
    (ng u = false → fl u = szw (u / 4503599627370496 % 2048) (u % 4503599627370496)) ∧ (ng u = true → fl u = Op.negFloat .f64 (szw (u / 4503599627370496 % 2048) (u % 4503599627370496))) := by
  have hs : szw (u / 4503599627370496 % 2048) (u % 4503599627370496) < 9223372036854775808 := by
    unfold szw; split <;> (try split) <;> omega
  have hn := neg_eq false _ hs
  have e1 : wd false (szw (u / 4503599627370496 % 2048) (u % 4503599627370496)) = szw (u / 4503599627370496 % 2048) (u % 4503599627370496) := by simp [wd]
  rw [e1] at hn
  rw [hn]
  unfold fl nn wd
  rcases ng_cases u with ⟨h1, h2⟩ | ⟨h1, h2⟩
  · refine ⟨fun h => absurd (h.symm.trans h1) (by simp), fun _ => ?_⟩
    rw [h1]
    simp only [Bool.not_false, if_true]
    unfold szw
    by_cases hq : 9218868437227405312 < u % 9223372036854775808
    · rw [decide_eq_true hq, if_pos rfl, if_pos (by omega), if_neg (by omega)]
    · rw [decide_eq_false hq, if_neg (by simp)]
      split
      · rw [if_pos (by omega)]; omega
      · omega
  · refine ⟨fun _ => ?_, fun h => absurd (h.symm.trans h1) (by simp)⟩
    rw [h1]
    simp only [Bool.false_eq_true, if_false]
    unfold szw
    by_cases hq : 9218868437227405312 < u % 9223372036854775808
    · rw [decide_eq_true hq, if_pos rfl, if_pos (by omega), if_neg (by omega)]
    · rw [decide_eq_false hq, if_neg (by simp)]
      split
      · rw [if_pos (by omega)]; omega
      · omega

end Go.Proofs.Ytnkckoilhhbllaa
end

section
namespace Go.Proofs.Ytnkckoilhhbllaa
open Go.RowKit
open Fl
set_option maxRecDepth 100000

set_option maxHeartbeats 1000000 in
theorem part_c (q m : Nat) (hq1 : 1 ≤ q) (hq2 : q ≤ 2046) (hm : m < 4503599627370496) (w : World) :
    Calls Try.prog 162 #[.float .f64 (nw q m)] w fun e w' => e = .returned (.tuple #[.float .f64 (nw 1023 m), .int .i64 ((q : Int) - 1023)]) ∧ Below w.heap.size w w' := by
  go_enter Try.func162, Try.ntmps162
  go_wp2_with fail
  refine (powers_c _).mono ?_
  rintro e w1 ⟨rfl, hb1⟩
  go_wp2_with fail
  go_loopw [0, 4, 8] (fun f x i wr => ∃ (k d : Nat) (y : Int), k ≤ 10 ∧ i = .int .i64 k ∧ f = .float .f64 (nw d m) ∧ x = .int .i64 y ∧ 1 ≤ d ∧ d ≤ 2046 ∧ (d : Int) + y ≤ q ∧ (q : Int) ≤ d + y ∧ 1023 - bd k < d ∧ (d : Int) < 1023 + bd k ∧ Below w.heap.size w wr)
    (fun _ _ i _ => 10 - (intOf i).toNat)
  case atStart => exact ⟨0, q, 0, by omega, rfl, rfl, rfl, hq1, hq2, by omega, by omega, by rw [bd_zero]; omega, by rw [bd_zero]; omega, hb1⟩
  case round =>
    obtain ⟨k, d, y, hk, rfl, rfl, rfl, hd1, hd2, hy1, hy2, hb3, hb4, hb⟩ := hrel
    by_cases hlt : k < 10
    · have hp := pw_bd k
      have hpd := bd_dbl k hlt
      have hidx := index_row k hlt
      have hup : pUp k = nw (1023 + (pw k).toNat) 0 := by unfold pUp nw; omega
      have hge := s_ge (nw d m) (pUp k) (by unfold nw; omega) (by unfold pUp; omega)
      by_cases h1 : 1023 + pw k ≤ d
      · have h2 : pUp k ≤ nw d m := by unfold pUp nw; omega
        rw [decide_eq_true h2] at hge
        have hmul := fun wx => run_float_arith (P := Try.prog) wx .mul 25 .f64 _ _ _ (mul_nw d (d - (pw k).toNat) (1023 - (pw k).toNat) m hm hd1 hd2 (by omega) (by omega) (by omega) (by omega) (by omega))
        have hdn : (1023 - (pw k).toNat) * 4503599627370496 = pDn k := rfl
        rw [hdn] at hmul
        clear hup hdn h2
        go_wp2_with fail
        go_quiet (fail)
        go_wp2
        go_roundw
        case rel => exact ⟨k + 1, d - (pw k).toNat, y + pw k, by omega, by go_num, rfl, rfl, by omega, by omega, by omega, by omega, by rw [bd_succ]; omega, by rw [bd_succ]; omega, below_drewN (hb.alloc hb.size _) _⟩
        case measure => simp only [intOf]; omega
      · have h2 : ¬ pUp k ≤ nw d m := by unfold pUp nw; omega
        rw [decide_eq_false h2] at hge
        have hmul := fun wx => run_float_arith (P := Try.prog) wx .mul 25 .f64 _ _ _ (mul_nw d (d + (pw k).toNat) (1023 + (pw k).toNat) m hm hd1 hd2 (by omega) (by omega) (by omega) (by omega) (by omega))
        have hdn : (1023 + (pw k).toNat) * 4503599627370496 = pUp k := rfl
        rw [hdn] at hmul
        have htw := s_lt (nw (d + (pw k).toNat) m) 4611686018427387904 (by unfold nw; omega) (by omega)
        clear hup hdn h2
        by_cases h3 : (d : Int) + pw k ≤ 1023
        · have h4 : nw (d + (pw k).toNat) m < 4611686018427387904 := by unfold nw; omega
          rw [decide_eq_true h4] at htw
          go_wp2_with fail
          go_quiet (fail)
          go_wp2
          go_roundw
          case rel => exact ⟨k + 1, d + (pw k).toNat, y - pw k, by omega, by go_num, rfl, rfl, by omega, by omega, by omega, by omega, by rw [bd_succ]; omega, by rw [bd_succ]; omega, below_drewN (hb.alloc hb.size _) _⟩
          case measure => simp only [intOf]; omega
        · have h4 : ¬ nw (d + (pw k).toNat) m < 4611686018427387904 := by unfold nw; omega
          rw [decide_eq_false h4] at htw
          go_wp2
          go_roundw
          case rel => exact ⟨k + 1, d, y, by omega, by go_num, rfl, rfl, by omega, by omega, by omega, by omega, by rw [bd_succ]; omega, by rw [bd_succ]; omega, hb.alloc hb.size _⟩
          case measure => simp only [intOf]; omega
    · obtain rfl : k = 10 := by omega
      rw [bd_ten] at hb3 hb4
      obtain rfl : d = 1023 := by omega
      obtain rfl : y = (q : Int) - 1023 := by omega
      go_wp2
      go_ret2
      exact ⟨rfl, hb⟩

theorem kind_c (x : Nat) (hx : x < 18446744073709551616) (w : World) :
    Calls Try.prog 159 #[.float .f64 x] w fun e w' => e = .returned (.int .i64 (kd x)) ∧ w = w' := by
  have hm := mg_lt x
  cases hn : nn x
  · have hz := o_zero x hx hn
    have hle : mg x ≤ 9218868437227405312 := by rw [nn_mg] at hn; simpa using hn
    by_cases h1 : mg x = 9218868437227405312
    · have hk : kd x = 3 := by simp [kd, hn, h1]
      rw [hk]
      clear hz
      go_enter Try.func159, Try.ntmps159
      go_wp2_with (first | (go_at_call 175; refine (isNaN_c x hx _).mono ?_; rintro e w' ⟨rfl, rfl⟩; rw [hn]) | (go_at_call 176; refine (isInf_c x hx _).mono ?_; rintro e w' ⟨rfl, rfl⟩; rw [decide_eq_true h1]))
      go_ret
      exact ⟨rfl, rfl⟩
    · by_cases h0 : mg x = 0
      · have hk : kd x = 0 := by simp [kd, hn, h0]
        rw [hk]
        rw [decide_eq_true h0] at hz
        go_enter Try.func159, Try.ntmps159
        go_wp2_with (first | (go_at_call 175; refine (isNaN_c x hx _).mono ?_; rintro e w' ⟨rfl, rfl⟩; rw [hn]) | (go_at_call 176; refine (isInf_c x hx _).mono ?_; rintro e w' ⟨rfl, rfl⟩; rw [decide_eq_false h1]))
        go_ret
        exact ⟨rfl, rfl⟩
      · rw [decide_eq_false h0] at hz
        have ht := s_lt (mg x) 4503599627370496 hle (by omega)
        by_cases h2 : mg x < 4503599627370496
        · have hk : kd x = 1 := by simp [kd, hn, h0, h1, h2]
          rw [hk]
          rw [decide_eq_true h2] at ht
          go_enter Try.func159, Try.ntmps159
          go_wp2_with (first | (go_at_call 175; refine (isNaN_c x hx _).mono ?_; rintro e w' ⟨rfl, rfl⟩; rw [hn]) | (go_at_call 176; refine (isInf_c x hx _).mono ?_; rintro e w' ⟨rfl, rfl⟩; rw [decide_eq_false h1]) | (go_at_call 161; refine (abs_c x hx _).mono ?_; rintro e w' ⟨rfl, rfl⟩))
          go_ret
          exact ⟨rfl, rfl⟩
        · have hk : kd x = 2 := by simp [kd, hn, h0, h1, h2]
          rw [hk]
          rw [decide_eq_false h2] at ht
          go_enter Try.func159, Try.ntmps159
          go_wp2_with (first | (go_at_call 175; refine (isNaN_c x hx _).mono ?_; rintro e w' ⟨rfl, rfl⟩; rw [hn]) | (go_at_call 176; refine (isInf_c x hx _).mono ?_; rintro e w' ⟨rfl, rfl⟩; rw [decide_eq_false h1]) | (go_at_call 161; refine (abs_c x hx _).mono ?_; rintro e w' ⟨rfl, rfl⟩))
          go_ret
          exact ⟨rfl, rfl⟩
  · have hk : kd x = 4 := by simp [kd, hn]
    rw [hk]
    go_enter Try.func159, Try.ntmps159
    go_wp2_with (first | (go_at_call 175; refine (isNaN_c x hx _).mono ?_; rintro e w' ⟨rfl, rfl⟩; rw [hn]))
    go_ret
    exact ⟨rfl, rfl⟩

theorem minus_c (x : Nat) (hx : x < 18446744073709551616) (w : World) :
    Calls Try.prog 163 #[.float .f64 x] w fun e w' => e = .returned (.bool (!nn x && ng x)) ∧ w = w' := by
  cases hn : nn x
  · go_enter Try.func163, Try.ntmps163
    go_wp2_with (first | (go_at_call 175; refine (isNaN_c x hx _).mono ?_; rintro e w' ⟨rfl, rfl⟩; rw [hn]) | (go_at_call 180; refine (signbit_c x hx _).mono ?_; rintro e w' ⟨rfl, rfl⟩))
    go_ret
    exact ⟨by simp, rfl⟩
  · go_enter Try.func163, Try.ntmps163
    go_wp2_with (first | (go_at_call 175; refine (isNaN_c x hx _).mono ?_; rintro e w' ⟨rfl, rfl⟩; rw [hn]) | (go_at_call 180; refine (signbit_c x hx _).mono ?_; rintro e w' ⟨rfl, rfl⟩))
    go_ret
    exact ⟨rfl, rfl⟩
end Go.Proofs.Ytnkckoilhhbllaa
end

section
namespace Go.Proofs.Ytnkckoilhhbllaa
open Go.RowKit
open Fl
set_option maxRecDepth 100000

theorem kd_of (x : Nat) : (nn x = true ∧ kd x = 4 ∧ cb x = 9221120237041090560) ∨ (nn x = false ∧ cb x = x ∧ mg x ≤ 9218868437227405312 ∧
    ((kd x = 3 ∧ mg x = 9218868437227405312) ∨ (kd x = 0 ∧ mg x = 0) ∨ (kd x = 1 ∧ mg x < 4503599627370496) ∨ (kd x = 2 ∧ 4503599627370496 ≤ mg x ∧ mg x < 9218868437227405312))) := by
  cases hn : nn x
  · right
    have hle : mg x ≤ 9218868437227405312 := by rw [nn_mg] at hn; simpa using hn
    refine ⟨rfl, by simp [cb, hn], hle, ?_⟩
    by_cases h1 : mg x = 9218868437227405312
    · exact .inl ⟨by simp [kd, hn, h1], h1⟩
    · by_cases h0 : mg x = 0
      · exact .inr (.inl ⟨by simp [kd, hn, h0], h0⟩)
      · by_cases h2 : mg x < 4503599627370496
        · exact .inr (.inr (.inl ⟨by simp [kd, hn, h0, h1, h2], h2⟩))
        · exact .inr (.inr (.inr ⟨by simp [kd, hn, h0, h1, h2], by omega, by omega⟩))
  · exact .inl ⟨rfl, by simp [kd, hn], by simp [cb, hn]⟩

set_option maxHeartbeats 1000000 in
theorem bits_c (x : Nat) (hx : x < 18446744073709551616) (w : World) :
    Calls Try.prog 137 #[.float .f64 x] w fun e w' => e = .returned (.int .u64 (cb x)) ∧ Below w.heap.size w w' := by
  have hm := mg_lt x
  rcases kd_of x with ⟨hn, hk, hc⟩ | ⟨hn, hc, hle, hkk⟩
  · rw [hc]
    clear hc
    go_enter Try.func137, Try.ntmps137
    go_wp2_with fail
    refine (kind_c x hx _).mono ?_
    rintro e w' ⟨rfl, rfl⟩
    rw [hk]
    go_wp2
    go_ret
    exact ⟨rfl, Below.refl _ _⟩
  · rw [hc]
    have hor := or_top (mg x) hm
    have hsp := mg_split x hx
    rcases hkk with ⟨hk, h3⟩ | ⟨hk, h3⟩ | ⟨hk, h3⟩ | ⟨hk, h3, h4⟩
    · rw [h3] at hor hsp
      clear h3 hm hle hc
      rcases hsp with ⟨hg, hv⟩ | ⟨hg, hv⟩
      all_goals
        have HV := Lib.hid hv
        clear hv
        go_enter Try.func137, Try.ntmps137
        go_wp2_with fail
        refine (kind_c x hx _).mono ?_
        rintro e w' ⟨rfl, rfl⟩
        rw [hk]
        go_wp2_with fail
        refine (minus_c x hx _).mono ?_
        rintro e w' ⟨rfl, rfl⟩
        rw [hn, hg]
        go_wp2
        go_ret
        exact ⟨by rw [HV.out]; rfl, Below.refl _ _⟩
    · rw [h3] at hor hsp
      clear h3 hm hle hc
      rcases hsp with ⟨hg, hv⟩ | ⟨hg, hv⟩
      all_goals
        have HV := Lib.hid hv
        clear hv
        go_enter Try.func137, Try.ntmps137
        go_wp2_with fail
        refine (kind_c x hx _).mono ?_
        rintro e w' ⟨rfl, rfl⟩
        rw [hk]
        go_wp2_with fail
        refine (minus_c x hx _).mono ?_
        rintro e w' ⟨rfl, rfl⟩
        rw [hn, hg]
        go_wp2
        go_ret
        exact ⟨by rw [HV.out]; rfl, Below.refl _ _⟩
    · have hcv := fun wx => run_convert_float_int (P := Try.prog) wx 25 125 .f64 .u64 (en (mg x) B) (mg x : Int) (by kernel_rfl) Try.underlying125 (whole_en (mg x) (by omega))
      have h5 := small_en (mg x) h3
      rcases hsp with ⟨hg, hv⟩ | ⟨hg, hv⟩
      all_goals
        have HV := Lib.hid hv
        have H5 := Lib.hid h5
        clear hv hc h5
        go_enter Try.func137, Try.ntmps137
        go_wp2_with fail
        refine (kind_c x hx _).mono ?_
        rintro e w' ⟨rfl, rfl⟩
        rw [hk]
        go_wp2_with fail
        refine (abs_c x hx _).mono ?_
        rintro e w' ⟨rfl, rfl⟩
        go_wp2_with fail
        rw [show Value.float .f64 (mg x) = Value.float .f64 (en (mg x) 0) from by rw [← H5.out]]
        refine (times_c (mg x) 0 B _ (by omega) (by omega) (by rw [B_eq]; omega) (by rw [B_eq]; omega) (by rw [B_eq]; omega) _).mono ?_
        rintro e w' ⟨rfl, hb⟩
        go_wp2_with fail
        refine (minus_c x hx _).mono ?_
        rintro e w' ⟨rfl, rfl⟩
        rw [hn, hg]
        go_wp2
        go_ret
        exact ⟨congrArg (fun n : Nat => Ending.returned (Value.int .u64 (n : Int))) HV.out.symm, hb⟩
    · obtain ⟨q, f, hq1, hq2, hf, hqf⟩ : ∃ q f, 1 ≤ q ∧ q ≤ 2046 ∧ f < 4503599627370496 ∧ mg x = nw q f := ⟨mg x / 4503599627370496, mg x % 4503599627370496, by omega, by omega, by omega, by unfold nw; omega⟩
      have hmul := fun wx => run_float_arith (P := Try.prog) wx .mul 25 .f64 _ _ _ (mul_nw 1023 1075 1075 f hf (by omega) (by omega) (by omega) (by omega) (by omega) (by omega) (by omega))
      have hcv := fun wx => run_convert_float_int (P := Try.prog) wx 25 125 .f64 .u64 (nw 1075 f) ((4503599627370496 + f : Nat) : Int) (by kernel_rfl) Try.underlying125 (whole_nw f hf)
      have hand := and_part (4503599627370496 + f) (by omega)
      rw [show (4503599627370496 + f) % 4503599627370496 = f from by omega] at hand
      have hj : bits .or .u64 ((q : Int) * 4503599627370496) (f : Int) = ((mg x : Nat) : Int) := by
        rw [show (q : Int) * 4503599627370496 = ((q * 4503599627370496 : Nat) : Int) from by omega, or_join q f (by omega) hf, hqf]; rfl
      have h1075 : (1075 * 4503599627370496 : Nat) = 4841369599423283200 := by decide
      rw [h1075] at hmul
      generalize 4503599627370496 + f = hid at *
      rcases hsp with ⟨hg, hv⟩ | ⟨hg, hv⟩
      all_goals
        have HV := Lib.hid hv
        have H5 := Lib.hid hqf
        clear hv hc hqf h1075
        go_enter Try.func137, Try.ntmps137
        go_wp2_with fail
        refine (kind_c x hx _).mono ?_
        rintro e w' ⟨rfl, rfl⟩
        rw [hk]
        go_wp2_with fail
        refine (abs_c x hx _).mono ?_
        rintro e w' ⟨rfl, rfl⟩
        go_wp2_with fail
        rw [show Value.float .f64 (mg x) = Value.float .f64 (nw q f) from by rw [← H5.out]]
        refine (part_c q f hq1 hq2 hf _).mono ?_
        rintro e w' ⟨rfl, hb⟩
        go_wp2_with fail
        refine (minus_c x hx _).mono ?_
        rintro e w' ⟨rfl, rfl⟩
        rw [hn, hg]
        go_wp2
        go_ret
        exact ⟨congrArg (fun n : Nat => Ending.returned (Value.int .u64 (n : Int))) HV.out.symm, hb⟩

theorem same_c (x y : Nat) (hx : x < 18446744073709551616) (hy : y < 18446744073709551616) (w : World) :
    Calls Try.prog 117 #[.float .f64 x, .float .f64 y] w fun e w' => e = .returned (.bool ((cb x : Int) == (cb y : Int))) ∧ Below w.heap.size w w' := by
  go_enter Try.func117, Try.ntmps117
  go_wp2_with fail
  refine (bits_c x hx _).mono ?_
  rintro e w1 ⟨rfl, hb1⟩
  go_wp2_with fail
  refine (bits_c y hy _).mono ?_
  rintro e w2 ⟨rfl, hb2⟩
  go_wp2
  go_ret
  exact ⟨rfl, hb1.trans (hb2.mono hb1.size)⟩
end Go.Proofs.Ytnkckoilhhbllaa
end
end

section
section
namespace Go.Proofs.Ytnkckoilhhbllaa
open Go.RowKit
open Fl
set_option maxRecDepth 100000

theorem rMinus_c (x : Nat) (hx : x < 18446744073709551616) (w : World) :
    Calls Try.prog 134 #[.float .f64 x] w fun e w' => e = .returned (.bool (!nn x && ng x)) ∧ w = w' := by
  cases hn : nn x
  · have hz := o_zero x hx hn
    by_cases h0 : mg x = 0
    · rcases nought_of x hx h0 with ⟨hg, rfl⟩ | ⟨hg, rfl⟩
      · rw [hg]
        have h1 : (FloatKind.f64.format.order 9223372036854775808 0 == some Ordering.lt) = false := by decide
        have h2 : (FloatKind.f64.format.order 9223372036854775808 0 == some Ordering.eq) = true := by decide
        have h3 := fun wx => run_float_arith (P := Try.prog) wx .quo 25 .f64 _ _ _ inv_neg
        have h4 : (FloatKind.f64.format.order 18442240474082181120 0 == some Ordering.lt) = true := by decide
        clear hz h0 hg
        go_enter Try.func134, Try.ntmps134
        go_wp2
        go_ret
        exact ⟨rfl, rfl⟩
      · rw [hg]
        have h1 : (FloatKind.f64.format.order 0 0 == some Ordering.lt) = false := by decide
        have h2 : (FloatKind.f64.format.order 0 0 == some Ordering.eq) = true := by decide
        have h3 := fun wx => run_float_arith (P := Try.prog) wx .quo 25 .f64 _ _ _ inv_pos
        have h4 : (FloatKind.f64.format.order 9218868437227405312 0 == some Ordering.lt) = false := by decide
        clear hz h0 hg
        go_enter Try.func134, Try.ntmps134
        go_wp2
        go_ret
        exact ⟨rfl, rfl⟩
    · rw [decide_eq_false h0] at hz
      cases hg : ng x
      · have h1 := minus_pos x hx hn hg
        go_enter Try.func134, Try.ntmps134
        go_wp2
        go_ret
        exact ⟨rfl, rfl⟩
      · have h1 := minus_neg x hx hn hg h0
        go_enter Try.func134, Try.ntmps134
        go_wp2
        go_ret
        exact ⟨rfl, rfl⟩
  · have h1 : (FloatKind.f64.format.order x 0 == some Ordering.lt) = false := by rw [order_nn_left x 0 hx hn]; rfl
    have h2 : (FloatKind.f64.format.order x 0 == some Ordering.eq) = false := by rw [order_nn_left x 0 hx hn]; rfl
    go_enter Try.func134, Try.ntmps134
    go_wp2
    go_ret
    exact ⟨rfl, rfl⟩
end Go.Proofs.Ytnkckoilhhbllaa
end

section
namespace Go.Proofs.Ytnkckoilhhbllaa
open Go.RowKit
open Fl
set_option maxRecDepth 100000

/-- what comes behind the sign, as the function goes on: from slot 0 (the size) and slot 3 (the sign's share) on -/
theorem rBits_nan (x : Nat) (hx : x < 18446744073709551616) (hn : nn x = true) (w : World) :
    Calls Try.prog 109 #[.float .f64 x] w fun e w' => e = .returned (.int .u64 9221120237041090560) ∧ w = w' := by
  have h1 := o_self x hx
  rw [hn] at h1
  go_enter Try.func109, Try.ntmps109
  go_wp2_with fail
  refine (none_c _).mono ?_
  rintro e w' ⟨rfl, rfl⟩
  go_wp2
  go_ret
  exact ⟨rfl, rfl⟩

theorem rBits_zero (x : Nat) (hx : x < 18446744073709551616) (hn : nn x = false) (h0 : mg x = 0) (w : World) :
    Calls Try.prog 109 #[.float .f64 x] w fun e w' => e = .returned (.int .u64 (x : Int)) ∧ w = w' := by
  have h1 := o_self x hx
  rw [hn] at h1
  have h3 : (FloatKind.f64.format.order 0 0 == some Ordering.eq) = true := by decide
  have hmin := rMinus_c x hx
  rcases nought_of x hx h0 with ⟨hg, hv⟩ | ⟨hg, hv⟩
  · have h4 := neg_mg x hx hg
    rw [h0] at h4
    have HV := Lib.hid hv
    clear hv h0
    rw [hn, hg] at hmin
    have HM := Lib.hid hmin
    clear hmin
    go_enter Try.func109, Try.ntmps109
    go_wp2_with fail
    refine (HM.out _).mono ?_
    rintro e w' ⟨rfl, rfl⟩
    go_wp2_with fail
    refine (top_c _).mono ?_
    rintro e w' ⟨rfl, rfl⟩
    go_wp2
    go_ret
    exact ⟨congrArg (fun n : Nat => Ending.returned (Value.int .u64 (n : Int))) HV.out.symm, rfl⟩
  · subst hv
    rw [hn, hg] at hmin
    have HM := Lib.hid hmin
    clear hmin h0
    go_enter Try.func109, Try.ntmps109
    go_wp2_with fail
    refine (HM.out _).mono ?_
    rintro e w' ⟨rfl, rfl⟩
    go_wp2
    go_ret
    exact ⟨rfl, rfl⟩

theorem rBits_inf (x : Nat) (hx : x < 18446744073709551616) (hn : nn x = false) (h0 : mg x = 9218868437227405312) (w : World) :
    Calls Try.prog 109 #[.float .f64 x] w fun e w' => e = .returned (.int .u64 (x : Int)) ∧ w = w' := by
  have h1 := o_self x hx
  rw [hn] at h1
  have h3 : (FloatKind.f64.format.order 9218868437227405312 0 == some Ordering.eq) = false := by decide
  have h5 : (FloatKind.f64.format.order 9218868437227405312 9218868437227405312 == some Ordering.eq) = true := by decide
  have h6 := fun wx => run_float_arith (P := Try.prog) wx .mul 25 .f64 _ _ _ dbl_inf
  have hmin := rMinus_c x hx
  rcases mg_split x hx with ⟨hg, hv⟩ | ⟨hg, hv⟩
  · have h4 := neg_mg x hx hg
    rw [h0] at h4 hv
    have HV := Lib.hid hv
    clear hv h0
    rw [hn, hg] at hmin
    have HM := Lib.hid hmin
    clear hmin
    go_enter Try.func109, Try.ntmps109
    go_wp2_with fail
    refine (HM.out _).mono ?_
    rintro e w' ⟨rfl, rfl⟩
    go_wp2_with fail
    refine (top_c _).mono ?_
    rintro e w' ⟨rfl, rfl⟩
    go_wp2
    go_ret
    exact ⟨congrArg (fun n : Nat => Ending.returned (Value.int .u64 (n : Int))) HV.out.symm, rfl⟩
  · rw [h0] at hv
    subst hv
    rw [hn, hg] at hmin
    have HM := Lib.hid hmin
    clear hmin h0
    go_enter Try.func109, Try.ntmps109
    go_wp2_with fail
    refine (HM.out _).mono ?_
    rintro e w' ⟨rfl, rfl⟩
    go_wp2
    go_ret
    exact ⟨rfl, rfl⟩
end Go.Proofs.Ytnkckoilhhbllaa
end

section
namespace Go.Proofs.Ytnkckoilhhbllaa
open Go.RowKit
open Fl
set_option maxRecDepth 100000

theorem ret_u64 {a b : Int} (h : a = b) : Ending.returned (.int .u64 a) = .returned (.int .u64 b) := by rw [h]

set_option maxHeartbeats 1000000 in
theorem rBits_big (x q m : Nat) (hx : x < 18446744073709551616) (hn : nn x = false) (hq1 : 1023 ≤ q) (hq2 : q ≤ 2046) (hm : m < 4503599627370496) (h0 : mg x = nw q m) (w : World) :
    Calls Try.prog 109 #[.float .f64 x] w fun e w' => e = .returned (.int .u64 (x : Int)) ∧ w = w' := by
  have h1 := o_self x hx
  rw [hn] at h1
  have hmin := rMinus_c x hx
  have hnw : nw q m < 9218868437227405312 := nw_lt q m hq2 hm
  have hnw0 : 0 < nw q m := by unfold nw; omega
  have h3 : (FloatKind.f64.format.order (nw q m) 0 == some Ordering.eq) = false := by
    rw [s_eq (nw q m) 0 (by omega) (by omega)]; exact decide_eq_false (by omega)
  obtain ⟨d, hd, hde⟩ := dbl_ne (nw q m) hnw0 hnw
  have hmul := fun wx => run_float_arith (P := Try.prog) wx .mul 25 .f64 _ _ _ hd
  have hsub := fun wx => run_float_arith (P := Try.prog) wx .sub 25 .f64 _ _ _ (sub_nw m hm)
  have hcv := fun wx => run_convert_float_int (P := Try.prog) wx 25 125 .f64 .u64 (en m B) (m : Int) (by kernel_rfl) Try.underlying125 (whole_en m (by omega))
  rcases mg_split x hx with ⟨hg, hv⟩ | ⟨hg, hv⟩
  case' inl =>
    have h4 := neg_mg x hx hg
    rw [h0] at hv h4
    have HV : Hid ((x : Int) = 9223372036854775808 + (q : Int) * 4503599627370496 + m) := by
      show (x : Int) = _
      unfold nw at hv
      omega
    clear hv h0 hd
    rw [hn, hg] at hmin
    have HM := Lib.hid hmin
    clear hmin
    go_enter Try.func109, Try.ntmps109
    go_wp2_with fail
    refine (HM.out _).mono ?_
    rintro e w' ⟨rfl, rfl⟩
    go_wp2_with fail
    refine (top_c _).mono ?_
    rintro e w' ⟨rfl, rfl⟩
    go_wp2
  case' inr =>
    rw [h0] at hv
    subst hv
    have HV : Hid (((nw q m : Nat) : Int) = 0 + (q : Int) * 4503599627370496 + m) := by
      show ((nw q m : Nat) : Int) = _
      unfold nw
      omega
    rw [hn, hg] at hmin
    have HM := Lib.hid hmin
    clear hmin h0 hd
    go_enter Try.func109, Try.ntmps109
    go_wp2_with fail
    refine (HM.out _).mono ?_
    rintro e w' ⟨rfl, rfl⟩
    go_wp2
  all_goals
    clear hmul h1 h3 hde
    go_loop [0, 4] (fun f v => ∃ (k : Nat) (e : Int), f = .float .f64 (nw (q - k) m) ∧ v = .int .u64 e ∧ e ≤ 1023 + k ∧ 1023 + k ≤ e ∧ k + 1023 ≤ q) (fun _ v => (3000 - intOf v).toNat)
    case atStart => exact ⟨0, 1023, rfl, rfl, by omega, by omega, by omega⟩
    case round =>
      obtain ⟨k, e, rfl, rfl, he1, he2, hkq⟩ := hrel
      have hge := s_ge (nw (q - k) m) 4611686018427387904 (by unfold nw; omega) (by omega)
      by_cases hk : k + 1023 < q
      · rw [decide_eq_true (show 4611686018427387904 ≤ nw (q - k) m from by unfold nw; omega)] at hge
        have hmul := fun wx => run_float_arith (P := Try.prog) wx .mul 25 .f64 _ _ _ (mul_nw (q - k) (q - (k + 1)) 1022 m hm (by omega) (by omega) (by omega) (by omega) (by omega) (by omega) (by omega))
        rw [show (1022 * 4503599627370496 : Nat) = 4602678819172646912 from by decide] at hmul
        go_wp2
        go_round
        case rel => exact ⟨k + 1, e + 1, rfl, rfl, by omega, by omega, by omega⟩
        case measure => simp only [intOf]; omega
      · rw [decide_eq_false (show ¬ 4611686018427387904 ≤ nw (q - k) m from by unfold nw; omega)] at hge
        have hqk : q - k = 1023 := by omega
        rw [hqk] at hge ⊢
        clear hqk
        have hlt := s_lt (nw 1023 m) 4607182418800017408 (by unfold nw; omega) (by omega)
        rw [decide_eq_false (show ¬ nw 1023 m < 4607182418800017408 from by unfold nw; omega)] at hlt
        go_wp2
        refine wp_loop_rounds 1 ?_
        rw [rounds_succ]
        go_wp2
        clear hlt hge hsub
        go_loop [0, 5] (fun f v => ∃ j : Nat, j ≤ 52 ∧ v = .int .i64 j ∧ f = .float .f64 (en m (1022 + j))) (fun _ v => (52 - intOf v).toNat)
        case atStart => exact ⟨0, by omega, rfl, rfl⟩
        case round =>
          obtain ⟨j, hj, rfl, rfl⟩ := hrel
          by_cases hj2 : j < 52
          · have hmul := fun wx => run_float_arith (P := Try.prog) wx .mul 25 .f64 _ _ _ (mul_two m (1022 + j) (by omega) (by omega))
            go_wp2
            go_round
            case rel => exact ⟨j + 1, by omega, by go_num, rfl⟩
            case measure => simp only [intOf]; omega
          · obtain rfl : j = 52 := by omega
            rw [show en m (1022 + 52) = en m B from congrArg (en m) (show 1022 + 52 = B from rfl)]
            go_wp2
            go_ret
            exact ⟨ret_u64 (by rw [HV.out]; omega), rfl⟩
set_option maxHeartbeats 1000000 in
theorem rBits_low (x q m : Nat) (hx : x < 18446744073709551616) (hn : nn x = false) (hq1 : 1 ≤ q) (hq2 : q < 1023) (hm : m < 4503599627370496) (h0 : mg x = nw q m) (w : World) :
    Calls Try.prog 109 #[.float .f64 x] w fun e w' => e = .returned (.int .u64 (x : Int)) ∧ w = w' := by
  have h1 := o_self x hx
  rw [hn] at h1
  have hmin := rMinus_c x hx
  have hnw : nw q m < 9218868437227405312 := nw_lt q m (by omega) hm
  have hnw0 : 0 < nw q m := by unfold nw; omega
  have h3 : (FloatKind.f64.format.order (nw q m) 0 == some Ordering.eq) = false := by
    rw [s_eq (nw q m) 0 (by omega) (by omega)]; exact decide_eq_false (by omega)
  obtain ⟨d, hd, hde⟩ := dbl_ne (nw q m) hnw0 hnw
  have hmul := fun wx => run_float_arith (P := Try.prog) wx .mul 25 .f64 _ _ _ hd
  have hsub := fun wx => run_float_arith (P := Try.prog) wx .sub 25 .f64 _ _ _ (sub_nw m hm)
  have hcv := fun wx => run_convert_float_int (P := Try.prog) wx 25 125 .f64 .u64 (en m B) (m : Int) (by kernel_rfl) Try.underlying125 (whole_en m (by omega))
  rcases mg_split x hx with ⟨hg, hv⟩ | ⟨hg, hv⟩
  case' inl =>
    have h4 := neg_mg x hx hg
    rw [h0] at hv h4
    have HV : Hid ((x : Int) = 9223372036854775808 + (q : Int) * 4503599627370496 + m) := by
      show (x : Int) = _
      unfold nw at hv
      omega
    clear hv h0 hd
    rw [hn, hg] at hmin
    have HM := Lib.hid hmin
    clear hmin
    go_enter Try.func109, Try.ntmps109
    go_wp2_with fail
    refine (HM.out _).mono ?_
    rintro e w' ⟨rfl, rfl⟩
    go_wp2_with fail
    refine (top_c _).mono ?_
    rintro e w' ⟨rfl, rfl⟩
    go_wp2
  case' inr =>
    rw [h0] at hv
    subst hv
    have HV : Hid (((nw q m : Nat) : Int) = 0 + (q : Int) * 4503599627370496 + m) := by
      show ((nw q m : Nat) : Int) = _
      unfold nw
      omega
    rw [hn, hg] at hmin
    have HM := Lib.hid hmin
    clear hmin h0 hd
    go_enter Try.func109, Try.ntmps109
    go_wp2_with fail
    refine (HM.out _).mono ?_
    rintro e w' ⟨rfl, rfl⟩
    go_wp2
  all_goals
    clear hmul h1 h3 hde
    have hge := s_ge (nw q m) 4611686018427387904 (by unfold nw; omega) (by omega)
    rw [decide_eq_false (show ¬ 4611686018427387904 ≤ nw q m from by unfold nw; omega)] at hge
    refine wp_loop_rounds 1 ?_
    rw [rounds_succ]
    go_wp2
    clear hge
    go_loop [0, 4] (fun f v => ∃ (j : Nat) (e : Int), f = .float .f64 (nw (q + j) m) ∧ v = .int .u64 e ∧ e + j ≤ 1023 ∧ 1023 ≤ e + j ∧ q + j ≤ 1023) (fun _ v => (intOf v).toNat)
    case atStart => exact ⟨0, 1023, rfl, rfl, by omega, by omega, by omega⟩
    case round =>
      obtain ⟨j, e, rfl, rfl, he1, he2, hjq⟩ := hrel
      have hlt := s_lt (nw (q + j) m) 4607182418800017408 (by unfold nw; omega) (by omega)
      by_cases hj : q + j < 1023
      · rw [decide_eq_true (show nw (q + j) m < 4607182418800017408 from by unfold nw; omega)] at hlt
        have hmul := fun wx => run_float_arith (P := Try.prog) wx .mul 25 .f64 _ _ _ (mul_nw (q + j) (q + (j + 1)) 1024 m hm (by omega) (by omega) (by omega) (by omega) (by omega) (by omega) (by omega))
        rw [show (1024 * 4503599627370496 : Nat) = 4611686018427387904 from by decide] at hmul
        go_wp2
        go_round
        case rel => exact ⟨j + 1, e - 1, rfl, rfl, by omega, by omega, by omega⟩
        case measure => simp only [intOf]; omega
      · rw [decide_eq_false (show ¬ nw (q + j) m < 4607182418800017408 from by unfold nw; omega)] at hlt
        have hqk : q + j = 1023 := by omega
        rw [hqk] at hlt ⊢
        clear hqk
        go_wp2
        clear hlt hsub
        go_loop [0, 5] (fun f v => ∃ j : Nat, j ≤ 52 ∧ v = .int .i64 j ∧ f = .float .f64 (en m (1022 + j))) (fun _ v => (52 - intOf v).toNat)
        case atStart => exact ⟨0, by omega, rfl, rfl⟩
        case round =>
          obtain ⟨j, hj, rfl, rfl⟩ := hrel
          by_cases hj2 : j < 52
          · have hmul := fun wx => run_float_arith (P := Try.prog) wx .mul 25 .f64 _ _ _ (mul_two m (1022 + j) (by omega) (by omega))
            go_wp2
            go_round
            case rel => exact ⟨j + 1, by omega, by go_num, rfl⟩
            case measure => simp only [intOf]; omega
          · obtain rfl : j = 52 := by omega
            rw [show en m (1022 + 52) = en m B from congrArg (en m) (show 1022 + 52 = B from rfl)]
            go_wp2
            go_ret
            exact ⟨ret_u64 (by rw [HV.out]; omega), rfl⟩
set_option maxHeartbeats 1000000 in
theorem rBits_tiny (x m : Nat) (hx : x < 18446744073709551616) (hn : nn x = false) (hm1 : 0 < m) (hm : m < 4503599627370496) (h0 : mg x = m) (w : World) :
    Calls Try.prog 109 #[.float .f64 x] w fun e w' => e = .returned (.int .u64 (x : Int)) ∧ w = w' := by
  have h1 := o_self x hx
  rw [hn] at h1
  have hmin := rMinus_c x hx
  have hnw : m < 9218868437227405312 := by omega
  have hnw0 : 0 < m := hm1
  have h7 := small_en m hm
  have H7 := Lib.hid h7
  clear h7
  have h3 : (FloatKind.f64.format.order (m) 0 == some Ordering.eq) = false := by
    rw [s_eq (m) 0 (by omega) (by omega)]; exact decide_eq_false (by omega)
  obtain ⟨d, hd, hde⟩ := dbl_ne (m) hnw0 hnw
  have hmul := fun wx => run_float_arith (P := Try.prog) wx .mul 25 .f64 _ _ _ hd
  have hcv := fun wx => run_convert_float_int (P := Try.prog) wx 25 125 .f64 .u64 (en m B) (m : Int) (by kernel_rfl) Try.underlying125 (whole_en m (by omega))
  rcases mg_split x hx with ⟨hg, hv⟩ | ⟨hg, hv⟩
  case' inl =>
    have h4 := neg_mg x hx hg
    rw [h0] at hv h4
    have HV : Hid ((x : Int) = 9223372036854775808 + m) := by
      show (x : Int) = _
      omega
    clear hv h0 hd
    rw [hn, hg] at hmin
    have HM := Lib.hid hmin
    clear hmin
    go_enter Try.func109, Try.ntmps109
    go_wp2_with fail
    refine (HM.out _).mono ?_
    rintro e w' ⟨rfl, rfl⟩
    go_wp2_with fail
    refine (top_c _).mono ?_
    rintro e w' ⟨rfl, rfl⟩
    go_wp2
  case' inr =>
    rw [h0] at hv
    subst x
    have HV : Hid (((m : Nat) : Int) = 0 + m) := by
      show ((m : Nat) : Int) = _
      omega
    rw [hn, hg] at hmin
    have HM := Lib.hid hmin
    clear hmin h0 hd
    go_enter Try.func109, Try.ntmps109
    go_wp2_with fail
    refine (HM.out _).mono ?_
    rintro e w' ⟨rfl, rfl⟩
    go_wp2
  all_goals
    clear hmul h1 h3 hde
    have hge := s_ge m 4611686018427387904 (by omega) (by omega)
    rw [decide_eq_false (show ¬ 4611686018427387904 ≤ m from by omega)] at hge
    refine wp_loop_rounds 1 ?_
    rw [rounds_succ]
    go_wp2
    clear hge
    go_loop [0, 4] (fun f v => ∃ (j : Nat) (e : Int), f = .float .f64 (en m j) ∧ v = .int .u64 e ∧ e + j ≤ 1023 ∧ 1023 ≤ e + j ∧ j ≤ 1022) (fun _ v => (intOf v).toNat)
    case atStart => exact ⟨0, 1023, congrArg (Value.float .f64) H7.out, rfl, by omega, by omega, by omega⟩
    case round =>
      obtain ⟨j, e, rfl, rfl, he1, he2, hjq⟩ := hrel
      have hlm := en_small_lt m j hm hjq
      have hlt := s_lt (en m j) 4607182418800017408 (by omega) (by omega)
      rw [decide_eq_true hlm] at hlt
      by_cases hj : j < 1022
      · have hmul := fun wx => run_float_arith (P := Try.prog) wx .mul 25 .f64 _ _ _ (mul_two m j (by omega) (by omega))
        go_wp2
        go_round
        case rel => exact ⟨j + 1, e - 1, rfl, rfl, by omega, by omega, by omega⟩
        case measure => simp only [intOf]; omega
      · obtain rfl : j = 1022 := by omega
        go_wp2
        clear hlt hlm
        go_loop [0, 5] (fun f v => ∃ j : Nat, j ≤ 52 ∧ v = .int .i64 j ∧ f = .float .f64 (en m (1022 + j))) (fun _ v => (52 - intOf v).toNat)
        case atStart => exact ⟨0, by omega, rfl, rfl⟩
        case round =>
          obtain ⟨j, hj, rfl, rfl⟩ := hrel
          by_cases hj2 : j < 52
          · have hmul := fun wx => run_float_arith (P := Try.prog) wx .mul 25 .f64 _ _ _ (mul_two m (1022 + j) (by omega) (by omega))
            go_wp2
            go_round
            case rel => exact ⟨j + 1, by omega, by go_num, rfl⟩
            case measure => simp only [intOf]; omega
          · obtain rfl : j = 52 := by omega
            rw [show en m (1022 + 52) = en m B from congrArg (en m) (show 1022 + 52 = B from rfl)]
            go_wp2
            go_ret
            exact ⟨ret_u64 (by have := HV.out; omega), rfl⟩
end Go.Proofs.Ytnkckoilhhbllaa
end

section
namespace Go.Proofs.Ytnkckoilhhbllaa
open Go.RowKit
open Fl
set_option maxRecDepth 100000

theorem rBits_c (x : Nat) (hx : x < 18446744073709551616) (w : World) :
    Calls Try.prog 109 #[.float .f64 x] w fun e w' => e = .returned (.int .u64 (cb x : Int)) ∧ w = w' := by
  rcases kd_of x with ⟨hn, _, hc⟩ | ⟨hn, hc, hle, hkk⟩
  · rw [hc]
    exact rBits_nan x hx hn w
  · rw [hc]
    rcases hkk with ⟨_, h3⟩ | ⟨_, h3⟩ | ⟨_, h3⟩ | ⟨_, h3, h4⟩
    · exact rBits_inf x hx hn h3 w
    · exact rBits_zero x hx hn h3 w
    · rcases Nat.eq_zero_or_pos (mg x) with h0 | h0
      · exact rBits_zero x hx hn h0 w
      · exact rBits_tiny x (mg x) hx hn h0 h3 rfl w
    · have hq : mg x = nw (mg x / 4503599627370496) (mg x % 4503599627370496) := by unfold nw; omega
      rcases Nat.lt_or_ge (mg x / 4503599627370496) 1023 with h5 | h5
      · exact rBits_low x _ _ hx hn (by omega) h5 (by omega) hq w
      · exact rBits_big x _ _ hx hn h5 (by omega) (by omega) hq w

theorem rSame_c (x y : Nat) (hx : x < 18446744073709551616) (hy : y < 18446744073709551616) (w : World) :
    Calls Try.prog 78 #[.float .f64 x, .float .f64 y] w fun e w' => e = .returned (.bool ((cb x : Int) == (cb y : Int))) ∧ w = w' := by
  go_enter Try.func78, Try.ntmps78
  go_wp2_with fail
  refine (rBits_c x hx _).mono ?_
  rintro e w1 ⟨rfl, rfl⟩
  go_wp2_with fail
  refine (rBits_c y hy _).mono ?_
  rintro e w2 ⟨rfl, rfl⟩
  go_wp2
  go_ret
  exact ⟨rfl, rfl⟩

/-- e and m of the bits tell the kind -/
theorem kd_cb (x : Nat) :
    (kd x = 4 ∧ cb x / 4503599627370496 % 2048 = 2047 ∧ 0 < cb x % 4503599627370496) ∨ (kd x = 3 ∧ cb x / 4503599627370496 % 2048 = 2047 ∧ cb x % 4503599627370496 = 0) ∨
    (kd x = 2 ∧ cb x / 4503599627370496 % 2048 < 2047 ∧ 0 < cb x / 4503599627370496 % 2048) ∨ (kd x = 1 ∧ cb x / 4503599627370496 % 2048 = 0 ∧ 0 < cb x % 4503599627370496) ∨ (kd x = 0 ∧ cb x / 4503599627370496 % 2048 = 0 ∧ cb x % 4503599627370496 = 0) := by
  rcases kd_of x with ⟨_, hk, hc⟩ | ⟨hn, hc, hle, hkk⟩
  · left
    refine ⟨hk, ?_, ?_⟩ <;> rw [hc] <;> decide
  · right
    rw [hc]
    have hm : mg x = x % 9223372036854775808 := rfl
    rcases hkk with ⟨h, h3⟩ | ⟨h, h3⟩ | ⟨h, h3⟩ | ⟨h, h3, h4⟩
    · exact .inl ⟨h, by omega, by omega⟩
    · exact .inr (.inr (.inr ⟨h, by omega, by omega⟩))
    · by_cases h0 : mg x = 0
      · have : kd x = 0 := by simp [kd, hn, h0]
        rw [this] at h; cases h
      · exact .inr (.inr (.inl ⟨h, by omega, by omega⟩))
    · exact .inr (.inl ⟨h, by omega, by omega⟩)

end Go.Proofs.Ytnkckoilhhbllaa
end

section
namespace Go.Proofs.Ytnkckoilhhbllaa
open Go.RowKit
open Fl
set_option maxRecDepth 100000

/-- the bits of no number that the run gives where an operation has no answer -/
def nanW (x y : Nat) (w : World) : Nat := (Question.nanBits .f64 x y).cut (w.tape w.drawn (Question.nanBits .f64 x y))
theorem nanW_nn (x y : Nat) (w : World) : nn (nanW x y w) = true ∧ nanW x y w < 18446744073709551616 := by
  unfold nanW
  generalize w.tape w.drawn (Question.nanBits .f64 x y) = t
  have h : (Question.nanBits .f64 x y).cut t = (t % 2) * 2 ^ 63 + 0x7ff0000000000000 + 1 + (t / 2) % (2 ^ 52 - 1) := rfl
  rw [h, p63]
  have h2 : (2 : Nat) ^ 52 - 1 = 4503599627370495 := by decide
  rw [h2]
  unfold nn
  have hr : t / 2 % 4503599627370495 < 4503599627370495 := Nat.mod_lt _ (by omega)
  generalize t / 2 % 4503599627370495 = r at *
  rcases Nat.mod_two_eq_zero_or_one t with h0 | h0
  · rw [h0]
    exact ⟨decide_eq_true (by omega), by omega⟩
  · rw [h0]
    exact ⟨decide_eq_true (by omega), by omega⟩

theorem run_float_none (P : Program) (w : World) (op : BinOp) (t : TypeId) (x y : Nat) (ho : op = .quo ∨ op = .mul ∨ op = .add ∨ op = .sub) (h : floatBits op .f64 x y = none) :
    (binOp op t (.float .f64 x) (.float .f64 y)).run P w = .ok (.float .f64 (nanW x y w)) w.drew := by
  rcases ho with rfl | rfl | rfl | rfl
  all_goals
    have h' := h
    simp only [floatBits] at h'
    simp only [binOp, Op.floatArith]
    rw [h']
    rfl

theorem neg_cases (u r : Nat) (hr : r < 9223372036854775808) (h : mg u = r) (hu : u < 18446744073709551616) : (ng u = true → Op.negFloat .f64 r = u) ∧ (ng u = false → r = u) := by
  rcases mg_split u hu with ⟨h1, h2⟩ | ⟨h1, h2⟩
  · refine ⟨fun _ => ?_, fun h3 => absurd (h3.symm.trans h1) (by simp)⟩
    have := neg_eq false r hr
    have e1 : wd false r = r := by simp [wd]
    have e2 : wd (!false) r = u := by simp only [wd, Bool.not_false, if_true]; omega
    rw [e1, e2] at this
    exact this
  · exact ⟨fun h3 => absurd (h3.symm.trans h1) (by simp), fun _ => by omega⟩

theorem ge_top {u : Nat} {b : Bool} (h : ng u = b) : decide ((9223372036854775808 : Int) ≤ (u : Int)) = b := by
  rw [← h]; unfold ng; exact decide_eq_decide.2 (by omega)

theorem ret_f64 {a b : Nat} (h : a = b) : Ending.returned (.float .f64 a) = .returned (.float .f64 b) := by rw [h]

end Go.Proofs.Ytnkckoilhhbllaa
end

section
namespace Go.Proofs.Ytnkckoilhhbllaa
open Go.RowKit
open Fl
set_option maxRecDepth 100000

/-- what the document's Float gives for u -/
def RF (u y : Nat) : Prop := y < 18446744073709551616 ∧ (nn u = false → y = u) ∧ (nn u = true → nn y = true)

theorem kd_nan {N : Nat} (h : nn N = true) : kd N = 4 := by simp [kd, h]

end Go.Proofs.Ytnkckoilhhbllaa
end
end

section
section
namespace Go.Proofs.Ytnkckoilhhbllaa
open Go.RowKit
open Fl
set_option maxRecDepth 100000

end Go.Proofs.Ytnkckoilhhbllaa
end

section
namespace Go.Proofs.Ytnkckoilhhbllaa
open Go.RowKit
open Fl
set_option maxRecDepth 100000

theorem uk_neg {k : Nat} (h : ng k = false) : uk k = 18446744073709551615 - k := by unfold uk; rw [if_pos (ng_false.1 h)]
theorem uk_pos {k : Nat} (h : ng k = true) (hk : k < 18446744073709551616) : uk k = mg k := by
  have := ng_true.1 h
  unfold uk mg; rw [if_neg (by omega)]; omega

theorem ret_fb {a b : Nat} {p q : Bool} (h1 : a = b) (h2 : p = q) : Ending.returned (.tuple #[.float .f64 a, .bool p]) = .returned (.tuple #[.float .f64 b, .bool q]) := by rw [h1, h2]

theorem cb_rf2 {u y : Nat} (h : RF u y) : cb y = cb u := by
  obtain ⟨_, h1, h2⟩ := h
  cases hn : nn u
  · rw [h1 hn]
  · rw [cb_nan hn, cb_nan (h2 hn)]

/-- what the document's Unkey gives beside the number's word y -/
def rw' (k y : Nat) : Nat := if cn (uk k) then y else 0

theorem key_back {k y : Nat} (hk : k < 18446744073709551616) (h : RF (uk k) y) : ((ky y : Int) != (k : Int)) = !cn (uk k) := by
  have hu := uk_lt k hk
  have e := cb_rf2 h
  have hi := ky_iff h.1 hk
  cases hc : cn (uk k)
  · rw [Bool.not_false, bne_iff_ne]
    intro h2
    have h3 := hi.1 (by omega)
    rw [e] at h3
    have h4 := cn_cb hu
    rw [h3, hc] at h4
    cases h4
  · have h3 : cb (uk k) = uk k := by
      rcases (cn_iff _ hu).1 hc with h4 | h4
      · exact cb_num h4
      · rw [h4]; decide
    have h4 := hi.2 (by rw [e, h3])
    rw [h4]; simp

end Go.Proofs.Ytnkckoilhhbllaa
end

section
namespace Go.Proofs.Ytnkckoilhhbllaa
open Go.RowKit
open Fl
set_option maxRecDepth 100000

theorem far_iff (a b : Nat) : far a b = true ↔ 2 ≤ max a b - min a b := by unfold far; simp
theorem far_iff' (a b : Nat) : far a b = false ↔ max a b - min a b < 2 := by unfold far; simp

/-- the word that Between gives, and whether there is one -/
def bw (a b : Nat) : Nat := if far (ky a) (ky b) then uw (md (ky a) (ky b)) else 0
def bo (a b : Nat) : Bool := far (ky a) (ky b) && cn (uk (md (ky a) (ky b)))

end Go.Proofs.Ytnkckoilhhbllaa
end

section
namespace Go.Proofs.Ytnkckoilhhbllaa
open Go.RowKit
open Fl
set_option maxRecDepth 100000

/-- how two ints stand -/
def ci (x y : Int) : Int := if x < y then -1 else if y < x then 1 else 0

theorem cmpInt_c (x y : Int) (w : World) :
    Calls Try.prog 124 #[.int .i64 x, .int .i64 y] w fun e w' => e = .returned (.int .i64 (ci x y)) ∧ w = w' := by
  rcases Int.lt_trichotomy x y with h | h | h
  · have hc : ci x y = -1 := by unfold ci; rw [if_pos h]
    rw [hc]
    go_enter Try.func124, Try.ntmps124
    go_wp2
    go_ret
    exact ⟨rfl, rfl⟩
  · subst h
    have hc : ci x x = 0 := by unfold ci; rw [if_neg (by omega), if_neg (by omega)]
    rw [hc]
    go_enter Try.func124, Try.ntmps124
    go_wp2
    go_ret
    exact ⟨rfl, rfl⟩
  · have hc : ci x y = 1 := by unfold ci; rw [if_neg (by omega), if_pos h]
    rw [hc]
    go_enter Try.func124, Try.ntmps124
    go_wp2
    go_ret
    exact ⟨rfl, rfl⟩


end Go.Proofs.Ytnkckoilhhbllaa
end

section
namespace Go.Proofs.Ytnkckoilhhbllaa
open Go.RowKit
open Fl
set_option maxRecDepth 100000

/-- what 'first' tells of two ways, by what these tell -/
def fr (v1 v2 : Int) : Int := if v1 = 0 then v2 else v1

end Go.Proofs.Ytnkckoilhhbllaa
end

section
namespace Go.Proofs.Ytnkckoilhhbllaa
open Go.RowKit
open Fl
set_option maxRecDepth 100000

/-- three blocks, laid one behind the other -/
def three (w : World) (A B C : Array Value) (T T2 : TypeId) : World := ((w.alloc (.cells A T)).alloc (.cells B T)).alloc (.cells C T2)
theorem three_facts (w : World) (A B C : Array Value) (T T2 : TypeId) :
    (∀ j, (three w A B C T T2).cell? ⟨w.heap.size, j, none⟩ = A[j]?) ∧ (∀ j, (three w A B C T T2).cell? ⟨w.heap.size + 1, j, none⟩ = B[j]?) ∧ (∀ j, (three w A B C T T2).cell? ⟨w.heap.size + 1 + 1, j, none⟩ = C[j]?) ∧
    w.heap.size + 1 + 1 < (three w A B C T T2).heap.size ∧ Below w.heap.size w (three w A B C T T2) := by
  have s1 : (w.alloc (.cells A T)).heap.size = w.heap.size + 1 := by simp
  have s2 : ((w.alloc (.cells A T)).alloc (.cells B T)).heap.size = w.heap.size + 1 + 1 := by simp
  have s3 : (three w A B C T T2).heap.size = w.heap.size + 1 + 1 + 1 := by simp [three]
  refine ⟨fun j => ?_, fun j => ?_, fun j => ?_, by omega, ?_⟩
  · unfold three
    rw [World.cell?_alloc_past _ _ _ (by omega), World.cell?_alloc_past _ _ _ (by omega), World.cell?_alloc_at _ _ _ _ rfl]
  · unfold three
    rw [World.cell?_alloc_past _ _ _ (by omega), World.cell?_alloc_at _ _ _ _ s1.symm]
  · unfold three
    rw [World.cell?_alloc_at _ _ _ _ s2.symm]
  · exact (((Below.refl _ _).alloc (Nat.le_refl _) _).alloc (by omega) _).alloc (by omega) _

end Go.Proofs.Ytnkckoilhhbllaa
end

section
namespace Go.Proofs.Ytnkckoilhhbllaa
open Go.RowKit
open Fl
set_option maxRecDepth 100000

theorem ci_lt {x y : Int} (h : x < y) : ci x y = -1 := by unfold ci; rw [if_pos h]
theorem ci_eq (x : Int) : ci x x = 0 := by unfold ci; rw [if_neg (by omega), if_neg (by omega)]
theorem ci_gt {x y : Int} (h : y < x) : ci x y = 1 := by unfold ci; rw [if_neg (by omega), if_pos h]
theorem ci_neg (x y : Int) : decide (ci x y < 0) = decide (x < y) := by
  rcases Int.lt_trichotomy x y with h | h | h
  · rw [ci_lt h]; exact decide_eq_decide.2 (by omega)
  · subst h; rw [ci_eq]; exact decide_eq_decide.2 (by omega)
  · rw [ci_gt h]; exact decide_eq_decide.2 (by omega)
theorem fr_zero (v : Int) : fr 0 v = v := by simp [fr]
theorem ret_bool {a b : Bool} (h : a = b) : Ending.returned (.bool a) = .returned (.bool b) := by rw [h]

theorem cm_cases (a b : Nat) : (cm a b = -1 ∧ a < b) ∨ (cm a b = 0 ∧ a = b) ∨ (cm a b = 1 ∧ b < a) := by
  unfold cm
  by_cases h : a < b
  · rw [if_pos h]; exact .inl ⟨rfl, h⟩
  · rw [if_neg h]
    by_cases h2 : b < a
    · rw [if_pos h2]; exact .inr (.inr ⟨rfl, h2⟩)
    · rw [if_neg h2]; exact .inr (.inl ⟨rfl, by omega⟩)

end Go.Proofs.Ytnkckoilhhbllaa
end
end
