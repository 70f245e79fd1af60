/-
 Contract of the Reader's fix, which leaves by a panic.
 What the Reader's recovering closures do.
-/
import Derived.Test.YtojhenpaeedimaaBe
import Derived.Defers
import Derived.Recover
import Derived.Laws.Pointers
section
namespace Go.Proofs.Ytojhenpaeedimaa
open Go.RowKit
open Pk
set_option maxRecDepth 100000
theorem or8 (acc c k N : Nat) (hk : k ≤ 7) (ha : acc < 256 ^ k) (hc : c < 256) (hN : N = acc + c * 256 ^ k) :
  bits BinOp.or IntKind.u64 (acc : Int) (IntKind.u64.wrap ((c : Int) * 2 ^ (8 * k))) = (N : Int) := by
 subst hN
 have h2 : (256 : Nat) ^ k = 2 ^ (8 * k) := by rw [Nat.pow_mul]
 have hp : 256 ^ k ≤ 256 ^ 7 := Nat.pow_le_pow_right (by omega) hk
 have hcl : c * 256 ^ k < 18446744073709551616 := Nat.lt_of_le_of_lt (Nat.mul_le_mul (show c ≤ 255 by omega) hp) (by decide)
 have e : (c : Int) * 2 ^ (8 * k) = ((c * 256 ^ k : Nat) : Int) := by rw [h2]; simp
 rw [e, IntKind.wrap_u64]
 have e2 : (((c * 256 ^ k : Nat) : Int) % 18446744073709551616) = ((c * 256 ^ k : Nat) : Int) := by omega
 rw [e2, u64_or_nat _ _ (by omega) hcl, h2, or_add (by rw [← h2]; exact ha)]
theorem fix_out (g : Nat) (s : St) (hl : s.l.length < 8) (w : World) (h : Rdr w g s) :
  Calls Try.prog 99 #[.pointer (some ⟨g, 0, none⟩)] w fun e w' => e = .panicked [{ v := .iface 31 (.int .i64 2), recovered := false }] ∧ w = w' := by
 go_enter Try.func99, Try.ntmps99
 go_wp2_with (go_at_call 96; refine (take_out g 8 s (.inr (by omega)) _ h).mono ?_; rintro e wz ⟨rfl, rfl⟩)
 exact ⟨rfl, rfl, rfl⟩
theorem num8_take {l : List UInt8} {k : Nat} {b : UInt8} (h : l[k]? = some b) : num8 (l.take (k + 1)) = num8 (l.take k) + b.toNat * 256 ^ k := by
 obtain ⟨hk, rfl⟩ := List.getElem?_eq_some_iff.1 h
 rw [List.take_succ_eq_append_getElem hk, num8_snoc, List.length_take, Nat.min_eq_left (by omega)]
/-- block B holds the bytes l, as numbers -/
def BytesAt (w : World) (B : Nat) (l : List UInt8) : Prop := ∀ (j : Nat) (b : UInt8), l[j]? = some b → w.cell? ⟨B, j, none⟩ = some (.int .u8 (b.toNat : Int))
theorem bytesAt_new (w : World) (l : List UInt8) (cap : Nat) (t : TypeId) (fr : Nat × Nat) : BytesAt (w.alloc (.cells (bytesRow (ba l) cap) t fr)).drew w.heap.size l := by
 intro j b h
 obtain ⟨hj, rfl⟩ := List.getElem?_eq_some_iff.1 h
 have h1 : (w.alloc (.cells (bytesRow (ba l) cap) t fr)).drew.cell? ⟨w.heap.size, j, none⟩ = (w.alloc (.cells (bytesRow (ba l) cap) t fr)).cell? ⟨w.heap.size, j, none⟩ := rfl
 rw [h1, World.cell?_alloc_mark, bytesRow_at (ba l) cap j (by simpa [ba] using hj)]
 rfl
set_option maxHeartbeats 1000000 in
theorem fix_in (g : Nat) (s : St) (hl : 8 ≤ s.l.length) (w : World) (h : Rdr w g s) :
  Calls Try.prog 99 #[.pointer (some ⟨g, 0, none⟩)] w fun e w' => e = .returned (.int .u64 ((num8 (s.l.take 8) : Nat) : Int)) ∧ Rdr w' g ⟨s.l.drop 8, s.e⟩ ∧ w.grownBy w' (some g) := by
 obtain ⟨t, ht⟩ : ∃ t, t = s.l.take 8 := ⟨_, rfl⟩
 have HT := Lib.hid ht
 have htl : t.length = 8 := by rw [ht, List.length_take]; omega
 have HL := Lib.hid htl
 have hsz : (ba t).size = 8 := by rw [ba_size, htl]
 rw [← ht]
 clear ht htl
 go_enter Try.func99, Try.ntmps99
 go_wp2_with (go_at_call 96; refine (take_in g 8 _ rfl s hl _ h).mono ?_; rintro e w1 ⟨rfl, hr1, ho1⟩; rw [← HT.out]; have hcv := run_bytes_of_string (P := Try.prog) w1 9 42 5 (ba t) Try.underlying9 Try.underlying42 Try.underlying5)
 have hcells : BytesAt (w1.alloc (.cells (bytesRow (ba t) (grownCap w1 8 0 5)) 5 ((bytesRow (ba t) (grownCap w1 8 0 5)).size, (bytesRow (ba t) (grownCap w1 8 0 5)).size + 1))).drew w1.heap.size t := bytesAt_new _ _ _ _ _
 have hr2 : Rdr (w1.alloc (.cells (bytesRow (ba t) (grownCap w1 8 0 5)) 5 ((bytesRow (ba t) (grownCap w1 8 0 5)).size, (bytesRow (ba t) (grownCap w1 8 0 5)).size + 1))).drew g ⟨s.l.drop 8, s.e⟩ := is_drew (is_alloc hr1 _)
 have ho2 : w.grownBy (w1.alloc (.cells (bytesRow (ba t) (grownCap w1 8 0 5)) 5 ((bytesRow (ba t) (grownCap w1 8 0 5)).size, (bytesRow (ba t) (grownCap w1 8 0 5)).size + 1))).drew (some g) := only_trans ho1 (only_below ((Below.refl _ _).alloc (Nat.le_refl _) _).drew g)
 clear h hl hsz
 go_loopw [3, 4, 5, 10] (fun u _ _ i wr => ∃ k v : Nat, k ≤ 8 ∧ i = .int .i64 (k : Int) ∧ u = .int .u64 (v : Int) ∧ v = num8 (t.take k) ∧ BytesAt wr w1.heap.size t ∧ Rdr wr g ⟨s.l.drop 8, s.e⟩ ∧ w.grownBy wr (some g))
  (fun _ _ _ i _ => 8 - (Go.RowKit.intOf i).toNat)
 case atStart => exact ⟨0, 0, by omega, rfl, rfl, rfl, hcells, hr2, ho2⟩
 case round =>
  clear hr2 ho2 hcells
  obtain ⟨k, v, hk, rfl, rfl, hv, hbs, hr, ho⟩ := hrel
  have HV := Lib.hid hv
  clear hv
  by_cases hlt : k < 8
  ·obtain ⟨b, hb⟩ : ∃ b, t[k]? = some b := ⟨_, List.getElem?_eq_getElem (by rw [HL.out]; exact hlt)⟩
   have hc := hbs k b hb
   have HB := Lib.hid hb
   have HS := Lib.hid hbs
   clear hb hbs
   have hbb := b.toNat_lt
   obtain ⟨N, hN⟩ : ∃ N, N = v + b.toNat * 256 ^ k := ⟨_, rfl⟩
   have hor := or8 v b.toNat k N (by omega) (by rw [HV.out]; exact Nat.lt_of_lt_of_le (num8_lt _) (by rw [List.length_take, HL.out, Nat.min_eq_left hk]; exact Nat.le_refl _)) (by omega) hN
   have HN := Lib.hid hN
   clear hN
   go_wp2
   go_roundw
   case rel => exact ⟨k + 1, N, by omega, by go_num, rfl, by rw [HN.out, HV.out, num8_take HB.out], HS.out, hr, ho⟩
   case measure => simp [Go.RowKit.intOf]; omega
  ·obtain rfl : k = 8 := by omega
   go_wp2
   go_ret
   exact ⟨ret_int (by rw [HV.out, List.take_of_length_le (by rw [HL.out]; omega)]), hr, ho⟩
end Go.Proofs.Ytojhenpaeedimaa
end
section
namespace Go.Proofs.Ytojhenpaeedimaa
open Go.RowKit
open Pk
set_option maxRecDepth 100000
theorem assert_errno (x : Int) (w : World) : (Instr.typeAssert (.iface 31 (.int .i64 x)) 20 31 true).run Try.prog w = .ok (.tuple #[.int .i64 x, .bool true]) w := by kernel_rfl
theorem assert_nil (w : World) : (Instr.typeAssert .nilIface 20 31 true).run Try.prog w = .ok (.tuple #[.int .i64 0, .bool false]) w := by kernel_rfl
theorem catch_num_panic (p : Addr) (g : Nat) (s : St) (x : Int) (older : List PanicEntry) (w : World) (hp : w.cell? p = some (.pointer (some ⟨g, 0, none⟩))) (h : Rdr w g s) :
  CallsD Try.prog 94 #[.pointer (some p)] (.panicking ({ v := .iface 31 (.int .i64 x), recovered := false } :: older)) w fun e u' w' =>
   e = .returned (.tuple #[]) ∧ u' = .panicking ({ v := .iface 31 (.int .i64 x), recovered := true } :: older) ∧ w' = w.setCell ⟨g, 1, none⟩ (.int .i64 x) := by
 have h1 := rdr_err h
 have hf := is_free h 1
 have hta := assert_errno x
 clear h
 refine callsD_of_wpS Try.func94 rfl fun c₀ cs hu => ?_
 rw [show (#[Value.pointer (some p)] ++ Array.replicate (Try.f94.ntmps - #[Value.pointer (some p)].size) undef) = #[Value.pointer (some p), undef, undef, undef, undef, undef, undef, undef, undef, undef, undef, undef, undef] from rfl]
 apply wpS_seq
 apply wpS_region
 simp [wpOpsS, go_sem, recoverD, hu, hta, Exit.thenS]
 apply wpS_seq
 apply wpS_region
 simp [wpOpsS, go_sem, Exit.thenS]
 refine wpS_cond (t := true) rfl ?_
 simp only [if_true]
 apply wpS_region
 simp [wpOpsS, go_sem, hp, h1, hf, bodyPostS, results, Try.results94]
theorem catch_num_idle (p : Addr) (w : World) :
  CallsD Try.prog 94 #[.pointer (some p)] .returning w fun e u' w' => e = .returned (.tuple #[]) ∧ u' = .returning ∧ w' = w := by
 have hta := assert_nil
 refine callsD_of_wpS Try.func94 rfl fun c₀ cs hu => ?_
 rw [show (#[Value.pointer (some p)] ++ Array.replicate (Try.f94.ntmps - #[Value.pointer (some p)].size) undef) = #[Value.pointer (some p), undef, undef, undef, undef, undef, undef, undef, undef, undef, undef, undef, undef] from rfl]
 apply wpS_seq
 apply wpS_region
 simp [wpOpsS, go_sem, recoverD, hu, hta, Exit.thenS]
 apply wpS_seq
 apply wpS_region
 simp [wpOpsS, go_sem, Exit.thenS]
 refine wpS_cond (t := false) rfl ?_
 simp only [Bool.false_eq_true, if_false]
 refine wpS_of_wp (wp_skip ?_)
 cases c₀
 simp_all [bodyPostS, results, Try.results94]
theorem catch_take_panic (p : Addr) (g : Nat) (s : St) (x : Int) (older : List PanicEntry) (w : World) (hp : w.cell? p = some (.pointer (some ⟨g, 0, none⟩))) (h : Rdr w g s) :
  CallsD Try.prog 112 #[.pointer (some p)] (.panicking ({ v := .iface 31 (.int .i64 x), recovered := false } :: older)) w fun e u' w' =>
   e = .returned (.tuple #[]) ∧ u' = .panicking ({ v := .iface 31 (.int .i64 x), recovered := true } :: older) ∧ w' = w.setCell ⟨g, 1, none⟩ (.int .i64 x) := by
 have h1 := rdr_err h
 have hf := is_free h 1
 have hta := assert_errno x
 clear h
 refine callsD_of_wpS Try.func112 rfl fun c₀ cs hu => ?_
 rw [show (#[Value.pointer (some p)] ++ Array.replicate (Try.f112.ntmps - #[Value.pointer (some p)].size) undef) = #[Value.pointer (some p), undef, undef, undef, undef, undef, undef, undef, undef, undef, undef, undef, undef] from rfl]
 apply wpS_seq
 apply wpS_region
 simp [wpOpsS, go_sem, recoverD, hu, hta, Exit.thenS]
 apply wpS_seq
 apply wpS_region
 simp [wpOpsS, go_sem, Exit.thenS]
 refine wpS_cond (t := true) rfl ?_
 simp only [if_true]
 apply wpS_region
 simp [wpOpsS, go_sem, hp, h1, hf, bodyPostS, results, Try.results112]
theorem catch_take_idle (p : Addr) (w : World) :
  CallsD Try.prog 112 #[.pointer (some p)] .returning w fun e u' w' => e = .returned (.tuple #[]) ∧ u' = .returning ∧ w' = w := by
 have hta := assert_nil
 refine callsD_of_wpS Try.func112 rfl fun c₀ cs hu => ?_
 rw [show (#[Value.pointer (some p)] ++ Array.replicate (Try.f112.ntmps - #[Value.pointer (some p)].size) undef) = #[Value.pointer (some p), undef, undef, undef, undef, undef, undef, undef, undef, undef, undef, undef, undef] from rfl]
 apply wpS_seq
 apply wpS_region
 simp [wpOpsS, go_sem, recoverD, hu, hta, Exit.thenS]
 apply wpS_seq
 apply wpS_region
 simp [wpOpsS, go_sem, Exit.thenS]
 refine wpS_cond (t := false) rfl ?_
 simp only [Bool.false_eq_true, if_false]
 refine wpS_of_wp (wp_skip ?_)
 cases c₀
 simp_all [bodyPostS, results, Try.results112]
end Go.Proofs.Ytojhenpaeedimaa
end
