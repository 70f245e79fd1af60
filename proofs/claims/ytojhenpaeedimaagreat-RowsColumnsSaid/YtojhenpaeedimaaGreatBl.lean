/-
 Contract of the Reader's fix, which leaves by a panic.
 What the Reader's recovering closures do.
 Contracts of read, at num, fix and Take: an error leaves by a panic, which is recovered and kept.
 Contracts of the Reader's methods: Num, Int, Fix, Take; of a nil Reader; and New.
 Worlds that only grow.
-/
import Derived.Test.YtojhenpaeedimaaGreatBe
import Derived.Defers
import Derived.Recover
import Derived.Laws.Pointers
import Derived.Test.YtojhenpaeedimaaGreatBc
import Derived.Deep.QuietTactic
import Derived.BigQuiet
section
namespace Go.Proofs.YtojhenpaeedimaaGreat
open Go.RowKit
open Pk
set_option maxRecDepth 100000
theorem or8 (acc c k N : Nat) (hk : k ≤ 7) (ha : acc < 256 ^ k) (hc : c < 256) (hN : N = acc + c * 256 ^ k) :
  bits BinOp.or IntKind.u64 (acc : Int) (IntKind.u64.wrap ((c : Int) * 2 ^ (8 * k))) = (N : Int) := by
 subst hN
 have h2 : (256 : Nat) ^ k = 2 ^ (8 * k) := by rw [Nat.pow_mul]
 have hp : 256 ^ k ≤ 256 ^ 7 := Nat.pow_le_pow_right (by omega) hk
 have hcl : c * 256 ^ k < 18446744073709551616 := Nat.lt_of_le_of_lt (Nat.mul_le_mul (show c ≤ 255 by omega) hp) (by decide)
 have e : (c : Int) * 2 ^ (8 * k) = ((c * 256 ^ k : Nat) : Int) := by rw [h2]; simp
 rw [e, IntKind.wrap_u64]
 have e2 : (((c * 256 ^ k : Nat) : Int) % 18446744073709551616) = ((c * 256 ^ k : Nat) : Int) := by omega
 rw [e2, u64_or_nat _ _ (by omega) hcl, h2, or_add (by rw [← h2]; exact ha)]
theorem fix_out (g : Nat) (s : St) (hl : s.l.length < 8) (w : World) (h : Rdr w g s) :
  Calls Tryz.prog 218 #[.pointer (some ⟨g, 0, none⟩)] w fun e w' => e = .panicked [{ v := .iface 27 (.int .i64 2), recovered := false }] ∧ w = w' := by
 go_enter Tryz.func218, Tryz.ntmps218
 go_wp2_with (go_at_call 106; refine (take_out g 8 s (.inr (by omega)) _ h).mono ?_; rintro e wz ⟨rfl, rfl⟩)
 exact ⟨rfl, rfl, rfl⟩
theorem num8_take {l : List UInt8} {k : Nat} {b : UInt8} (h : l[k]? = some b) : num8 (l.take (k + 1)) = num8 (l.take k) + b.toNat * 256 ^ k := by
 obtain ⟨hk, rfl⟩ := List.getElem?_eq_some_iff.1 h
 rw [List.take_succ_eq_append_getElem hk, num8_snoc, List.length_take, Nat.min_eq_left (by omega)]
/-- block B holds the bytes l, as numbers -/
def BytesAt (w : World) (B : Nat) (l : List UInt8) : Prop := ∀ (j : Nat) (b : UInt8), l[j]? = some b → w.cell? ⟨B, j, none⟩ = some (.int .u8 (b.toNat : Int))
theorem bytesAt_new (w : World) (l : List UInt8) (cap : Nat) (t : TypeId) (fr : Nat × Nat) : BytesAt (w.alloc (.cells (bytesRow (ba l) cap) t fr)).drew w.heap.size l := by
 intro j b h
 obtain ⟨hj, rfl⟩ := List.getElem?_eq_some_iff.1 h
 have h1 : (w.alloc (.cells (bytesRow (ba l) cap) t fr)).drew.cell? ⟨w.heap.size, j, none⟩ = (w.alloc (.cells (bytesRow (ba l) cap) t fr)).cell? ⟨w.heap.size, j, none⟩ := rfl
 rw [h1, World.cell?_alloc_mark, bytesRow_at (ba l) cap j (by simpa [ba] using hj)]
 rfl
set_option maxHeartbeats 1000000 in
theorem fix_in (g : Nat) (s : St) (hl : 8 ≤ s.l.length) (w : World) (h : Rdr w g s) :
  Calls Tryz.prog 218 #[.pointer (some ⟨g, 0, none⟩)] w fun e w' => e = .returned (.int .u64 ((num8 (s.l.take 8) : Nat) : Int)) ∧ Rdr w' g ⟨s.l.drop 8, s.e⟩ ∧ w.grownBy w' (some g) := by
 obtain ⟨t, ht⟩ : ∃ t, t = s.l.take 8 := ⟨_, rfl⟩
 have HT := Lib.hid ht
 have htl : t.length = 8 := by rw [ht, List.length_take]; omega
 have HL := Lib.hid htl
 have hsz : (ba t).size = 8 := by rw [ba_size, htl]
 rw [← ht]
 clear ht htl
 go_enter Tryz.func218, Tryz.ntmps218
 go_wp2_with (go_at_call 106; refine (take_in g 8 _ rfl s hl _ h).mono ?_; rintro e w1 ⟨rfl, hr1, ho1⟩; rw [← HT.out]; have hcv := run_bytes_of_string (P := Tryz.prog) w1 9 109 5 (ba t) Tryz.underlying9 Tryz.underlying109 Tryz.underlying5)
 have hcells : BytesAt (w1.alloc (.cells (bytesRow (ba t) (grownCap w1 8 0 5)) 5 ((bytesRow (ba t) (grownCap w1 8 0 5)).size, (bytesRow (ba t) (grownCap w1 8 0 5)).size + 1))).drew w1.heap.size t := bytesAt_new _ _ _ _ _
 have hr2 : Rdr (w1.alloc (.cells (bytesRow (ba t) (grownCap w1 8 0 5)) 5 ((bytesRow (ba t) (grownCap w1 8 0 5)).size, (bytesRow (ba t) (grownCap w1 8 0 5)).size + 1))).drew g ⟨s.l.drop 8, s.e⟩ := is_drew (is_alloc hr1 _)
 have ho2 : w.grownBy (w1.alloc (.cells (bytesRow (ba t) (grownCap w1 8 0 5)) 5 ((bytesRow (ba t) (grownCap w1 8 0 5)).size, (bytesRow (ba t) (grownCap w1 8 0 5)).size + 1))).drew (some g) := only_trans ho1 (only_below ((Below.refl _ _).alloc (Nat.le_refl _) _).drew g)
 clear h hl hsz
 go_loopw [3, 4, 5, 10] (fun u _ _ i wr => ∃ k v : Nat, k ≤ 8 ∧ i = .int .i64 (k : Int) ∧ u = .int .u64 (v : Int) ∧ v = num8 (t.take k) ∧ BytesAt wr w1.heap.size t ∧ Rdr wr g ⟨s.l.drop 8, s.e⟩ ∧ w.grownBy wr (some g))
  (fun _ _ _ i _ => 8 - (Go.RowKit.intOf i).toNat)
 case atStart => exact ⟨0, 0, by omega, rfl, rfl, rfl, hcells, hr2, ho2⟩
 case round =>
  clear hr2 ho2 hcells
  obtain ⟨k, v, hk, rfl, rfl, hv, hbs, hr, ho⟩ := hrel
  have HV := Lib.hid hv
  clear hv
  by_cases hlt : k < 8
  ·obtain ⟨b, hb⟩ : ∃ b, t[k]? = some b := ⟨_, List.getElem?_eq_getElem (by rw [HL.out]; exact hlt)⟩
   have hc := hbs k b hb
   have HB := Lib.hid hb
   have HS := Lib.hid hbs
   clear hb hbs
   have hbb := b.toNat_lt
   obtain ⟨N, hN⟩ : ∃ N, N = v + b.toNat * 256 ^ k := ⟨_, rfl⟩
   have hor := or8 v b.toNat k N (by omega) (by rw [HV.out]; exact Nat.lt_of_lt_of_le (num8_lt _) (by rw [List.length_take, HL.out, Nat.min_eq_left hk]; exact Nat.le_refl _)) (by omega) hN
   have HN := Lib.hid hN
   clear hN
   go_wp2
   go_roundw
   case rel => exact ⟨k + 1, N, by omega, by go_num, rfl, by rw [HN.out, HV.out, num8_take HB.out], HS.out, hr, ho⟩
   case measure => simp [Go.RowKit.intOf]; omega
  ·obtain rfl : k = 8 := by omega
   go_wp2
   go_ret
   exact ⟨ret_int (by rw [HV.out, List.take_of_length_le (by rw [HL.out]; omega)]), hr, ho⟩
end Go.Proofs.YtojhenpaeedimaaGreat
end
section
namespace Go.Proofs.YtojhenpaeedimaaGreat
open Go.RowKit
open Pk
set_option maxRecDepth 100000
theorem assert_errno (x : Int) (w : World) : (Instr.typeAssert (.iface 27 (.int .i64 x)) 20 27 true).run Tryz.prog w = .ok (.tuple #[.int .i64 x, .bool true]) w := by kernel_rfl
theorem assert_nil (w : World) : (Instr.typeAssert .nilIface 20 27 true).run Tryz.prog w = .ok (.tuple #[.int .i64 0, .bool false]) w := by kernel_rfl
theorem catch_num_panic (p : Addr) (g : Nat) (s : St) (x : Int) (older : List PanicEntry) (w : World) (hp : w.cell? p = some (.pointer (some ⟨g, 0, none⟩))) (h : Rdr w g s) :
  CallsD Tryz.prog 165 #[.pointer (some p)] (.panicking ({ v := .iface 27 (.int .i64 x), recovered := false } :: older)) w fun e u' w' =>
   e = .returned (.tuple #[]) ∧ u' = .panicking ({ v := .iface 27 (.int .i64 x), recovered := true } :: older) ∧ w' = w.setCell ⟨g, 1, none⟩ (.int .i64 x) := by
 have h1 := rdr_err h
 have hf := is_free h 1
 have hta := assert_errno x
 clear h
 refine callsD_of_wpS Tryz.func165 rfl fun c₀ cs hu => ?_
 rw [show (#[Value.pointer (some p)] ++ Array.replicate (Tryz.f165.ntmps - #[Value.pointer (some p)].size) undef) = #[Value.pointer (some p), undef, undef, undef, undef, undef, undef, undef, undef, undef, undef, undef, undef] from rfl]
 apply wpS_seq
 apply wpS_region
 simp [wpOpsS, go_sem, recoverD, hu, hta, Exit.thenS]
 apply wpS_seq
 apply wpS_region
 simp [wpOpsS, go_sem, Exit.thenS]
 refine wpS_cond (t := true) rfl ?_
 simp only [if_true]
 apply wpS_region
 simp [wpOpsS, go_sem, hp, h1, hf, bodyPostS, results, Tryz.results165]
theorem catch_num_idle (p : Addr) (w : World) :
  CallsD Tryz.prog 165 #[.pointer (some p)] .returning w fun e u' w' => e = .returned (.tuple #[]) ∧ u' = .returning ∧ w' = w := by
 have hta := assert_nil
 refine callsD_of_wpS Tryz.func165 rfl fun c₀ cs hu => ?_
 rw [show (#[Value.pointer (some p)] ++ Array.replicate (Tryz.f165.ntmps - #[Value.pointer (some p)].size) undef) = #[Value.pointer (some p), undef, undef, undef, undef, undef, undef, undef, undef, undef, undef, undef, undef] from rfl]
 apply wpS_seq
 apply wpS_region
 simp [wpOpsS, go_sem, recoverD, hu, hta, Exit.thenS]
 apply wpS_seq
 apply wpS_region
 simp [wpOpsS, go_sem, Exit.thenS]
 refine wpS_cond (t := false) rfl ?_
 simp only [Bool.false_eq_true, if_false]
 refine wpS_of_wp (wp_skip ?_)
 cases c₀
 simp_all [bodyPostS, results, Tryz.results165]
theorem catch_take_panic (p : Addr) (g : Nat) (s : St) (x : Int) (older : List PanicEntry) (w : World) (hp : w.cell? p = some (.pointer (some ⟨g, 0, none⟩))) (h : Rdr w g s) :
  CallsD Tryz.prog 164 #[.pointer (some p)] (.panicking ({ v := .iface 27 (.int .i64 x), recovered := false } :: older)) w fun e u' w' =>
   e = .returned (.tuple #[]) ∧ u' = .panicking ({ v := .iface 27 (.int .i64 x), recovered := true } :: older) ∧ w' = w.setCell ⟨g, 1, none⟩ (.int .i64 x) := by
 have h1 := rdr_err h
 have hf := is_free h 1
 have hta := assert_errno x
 clear h
 refine callsD_of_wpS Tryz.func164 rfl fun c₀ cs hu => ?_
 rw [show (#[Value.pointer (some p)] ++ Array.replicate (Tryz.f164.ntmps - #[Value.pointer (some p)].size) undef) = #[Value.pointer (some p), undef, undef, undef, undef, undef, undef, undef, undef, undef, undef, undef, undef] from rfl]
 apply wpS_seq
 apply wpS_region
 simp [wpOpsS, go_sem, recoverD, hu, hta, Exit.thenS]
 apply wpS_seq
 apply wpS_region
 simp [wpOpsS, go_sem, Exit.thenS]
 refine wpS_cond (t := true) rfl ?_
 simp only [if_true]
 apply wpS_region
 simp [wpOpsS, go_sem, hp, h1, hf, bodyPostS, results, Tryz.results164]
theorem catch_take_idle (p : Addr) (w : World) :
  CallsD Tryz.prog 164 #[.pointer (some p)] .returning w fun e u' w' => e = .returned (.tuple #[]) ∧ u' = .returning ∧ w' = w := by
 have hta := assert_nil
 refine callsD_of_wpS Tryz.func164 rfl fun c₀ cs hu => ?_
 rw [show (#[Value.pointer (some p)] ++ Array.replicate (Tryz.f164.ntmps - #[Value.pointer (some p)].size) undef) = #[Value.pointer (some p), undef, undef, undef, undef, undef, undef, undef, undef, undef, undef, undef, undef] from rfl]
 apply wpS_seq
 apply wpS_region
 simp [wpOpsS, go_sem, recoverD, hu, hta, Exit.thenS]
 apply wpS_seq
 apply wpS_region
 simp [wpOpsS, go_sem, Exit.thenS]
 refine wpS_cond (t := false) rfl ?_
 simp only [Bool.false_eq_true, if_false]
 refine wpS_of_wp (wp_skip ?_)
 cases c₀
 simp_all [bodyPostS, results, Tryz.results164]
end Go.Proofs.YtojhenpaeedimaaGreat
end
section
namespace Go.Proofs.YtojhenpaeedimaaGreat
open Go.RowKit
open Pk
set_option maxRecDepth 100000
theorem make_func : ∀ (fn : Fn) (first cap : Array Value) (w : World), (Instr.makeFunc fn first cap).run Tryz.prog w = .ok (.func fn first cap) w := fun _ _ _ _ => rfl
theorem boxed_rdr {g : Nat} {s : St} {w : World} (h : Rdr w g s) : Rdr (w.alloc (.cells #[.pointer (some ⟨g, 0, none⟩)] 73)) g s := is_alloc h _
theorem boxed_cell (g : Nat) (w : World) : (w.alloc (.cells #[.pointer (some ⟨g, 0, none⟩)] 73)).cell? ⟨w.heap.size, 0, none⟩ = some (.pointer (some ⟨g, 0, none⟩)) :=
 is_cell (is_new w 73 [.pointer (some ⟨g, 0, none⟩)]) 0
theorem boxed_below (g : Nat) (w : World) (o : Obj) : w.grownBy (w.alloc o) (some g) := only_below ((Below.refl _ _).alloc (Nat.le_refl _) _) g
theorem drop_rdr {w : World} {g : Nat} {s : St} {l : List UInt8} {e : Int} (h : Rdr w g ⟨l, s.e⟩) (he : s.e = e) : Rdr w g ⟨l, e⟩ := by subst he; exact h
theorem readNum_err (g : Nat) (s : St) (he : s.e ≠ 0) (w : World) (h : Rdr w g s) :
  Calls Tryz.prog 107 #[.pointer (some ⟨g, 0, none⟩), .func (Fn.func 108) #[.pointer (some ⟨g, 0, none⟩)] #[]] w fun e w' => e = .returned (.int .u64 0) ∧ Rdr w' g s ∧ w.grownBy w' (some g) := by
 have hd : (s.e != 0) = true := by simpa using he
 have h1 := boxed_rdr h
 clear he
 go_enter_defers Tryz.func107, Tryz.ntmps107
 go_wp2_with (go_at_call 54; refine (err_c g s _ h1).mono ?_; rintro e wz ⟨rfl, rfl⟩)
 exact ⟨_, results_tmp rfl _ _ _, rfl, h1, boxed_below g w _⟩
theorem readNum_ok (g : Nat) (s : St) (he : s.e = 0) (n u : Nat) (hrd : rd s.l = .ok n u) (w : World) (h : Rdr w g s) :
  Calls Tryz.prog 107 #[.pointer (some ⟨g, 0, none⟩), .func (Fn.func 108) #[.pointer (some ⟨g, 0, none⟩)] #[]] w fun e w' => e = .returned (.int .u64 (n : Int)) ∧ Rdr w' g ⟨s.l.drop u, 0⟩ ∧ w.grownBy w' (some g) := by
 have hd : (s.e != 0) = false := by simpa using he
 have h1 := boxed_rdr h
 have HE := Lib.hid he
 have HRD := Lib.hid hrd
 have hmf := make_func
 clear he hrd
 go_enter_defers Tryz.func107, Tryz.ntmps107
 go_wp2_with (first | (go_at_call 54; refine (err_c g s _ h1).mono ?_; rintro e wz ⟨rfl, rfl⟩) | (go_at_call 108; refine (num_end g s _ h1).mono ?_; intro e w2 hne; rw [HRD.out] at hne; obtain ⟨rfl, hr2, ho2⟩ := hne))
 refine leaves_cons (f := 165) (args := #[.pointer (some ⟨w.heap.size, 0, none⟩)]) (by simp) (by simp [go_sem]) ?_
 refine (catch_num_idle _ _).mono ?_
 rintro e u' w'' ⟨rfl, rfl, rfl⟩
 exact ⟨_, results_tmp rfl _ _ _, rfl, drop_rdr hr2 HE.out, only_trans (boxed_below g w _) ho2⟩
theorem readNum_die (g : Nat) (s : St) (he : s.e = 0) (x : Int) (hrd : (rd s.l = .cut ∧ x = 2) ∨ (rd s.l = .long ∧ x = 3)) (w : World) (h : Rdr w g s) :
  Calls Tryz.prog 107 #[.pointer (some ⟨g, 0, none⟩), .func (Fn.func 108) #[.pointer (some ⟨g, 0, none⟩)] #[]] w fun e w' => e = .returned (.int .u64 0) ∧ Rdr w' g ⟨s.l, x⟩ ∧ w.grownBy w' (some g) := by
 have hd : (s.e != 0) = false := by simpa using he
 have h1 := boxed_rdr h
 have hend : Calls Tryz.prog 108 #[.pointer (some ⟨g, 0, none⟩)] (w.alloc (.cells #[.pointer (some ⟨g, 0, none⟩)] 73)) fun e w' => e = .panicked [{ v := .iface 27 (.int .i64 x), recovered := false }] ∧ (w.alloc (.cells #[.pointer (some ⟨g, 0, none⟩)] 73)) = w' := by
  refine (num_end g s _ h1).mono ?_
  intro e w2 hne
  rcases hrd with ⟨hr, rfl⟩ | ⟨hr, rfl⟩
  all_goals
   rw [hr] at hne
   exact hne
 have hmf := make_func
 clear he hrd
 go_enter_defers Tryz.func107, Tryz.ntmps107
 go_wp2_with (first | (go_at_call 54; refine (err_c g s _ h1).mono ?_; rintro e wz ⟨rfl, rfl⟩) | (go_at_call 108; refine hend.mono ?_; rintro e w2 ⟨rfl, rfl⟩))
 refine leaves_cons (f := 165) (args := #[.pointer (some ⟨w.heap.size, 0, none⟩)]) (by simp) (by simp [go_sem]) ?_
 refine (catch_num_panic _ g s x [] _ (boxed_cell g w) h1).mono ?_
 rintro e u' w'' ⟨rfl, rfl, rfl⟩
 exact ⟨_, results_tmp rfl _ _ _, rfl, rdr_setErr h1 x, only_trans (boxed_below g w _) (only_set _ _ _ _)⟩
theorem readFix_err (g : Nat) (s : St) (he : s.e ≠ 0) (w : World) (h : Rdr w g s) :
  Calls Tryz.prog 107 #[.pointer (some ⟨g, 0, none⟩), .func (Fn.func 218) #[.pointer (some ⟨g, 0, none⟩)] #[]] w fun e w' => e = .returned (.int .u64 0) ∧ Rdr w' g s ∧ w.grownBy w' (some g) := by
 have hd : (s.e != 0) = true := by simpa using he
 have h1 := boxed_rdr h
 clear he
 go_enter_defers Tryz.func107, Tryz.ntmps107
 go_wp2_with (go_at_call 54; refine (err_c g s _ h1).mono ?_; rintro e wz ⟨rfl, rfl⟩)
 exact ⟨_, results_tmp rfl _ _ _, rfl, h1, boxed_below g w _⟩
theorem readFix_ok (g : Nat) (s : St) (he : s.e = 0) (hl : 8 ≤ s.l.length) (w : World) (h : Rdr w g s) :
  Calls Tryz.prog 107 #[.pointer (some ⟨g, 0, none⟩), .func (Fn.func 218) #[.pointer (some ⟨g, 0, none⟩)] #[]] w fun e w' => e = .returned (.int .u64 ((num8 (s.l.take 8) : Nat) : Int)) ∧ Rdr w' g ⟨s.l.drop 8, 0⟩ ∧ w.grownBy w' (some g) := by
 have hd : (s.e != 0) = false := by simpa using he
 have h1 := boxed_rdr h
 have HE := Lib.hid he
 have hmf := make_func
 clear he
 go_enter_defers Tryz.func107, Tryz.ntmps107
 go_wp2_with (first | (go_at_call 54; refine (err_c g s _ h1).mono ?_; rintro e wz ⟨rfl, rfl⟩) | (go_at_call 218; refine (fix_in g s hl _ h1).mono ?_; rintro e w2 ⟨rfl, hr2, ho2⟩))
 refine leaves_cons (f := 165) (args := #[.pointer (some ⟨w.heap.size, 0, none⟩)]) (by simp) (by simp [go_sem]) ?_
 refine (catch_num_idle _ _).mono ?_
 rintro e u' w'' ⟨rfl, rfl, rfl⟩
 exact ⟨_, results_tmp rfl _ _ _, rfl, drop_rdr hr2 HE.out, only_trans (boxed_below g w _) ho2⟩
theorem readFix_die (g : Nat) (s : St) (he : s.e = 0) (hl : s.l.length < 8) (w : World) (h : Rdr w g s) :
  Calls Tryz.prog 107 #[.pointer (some ⟨g, 0, none⟩), .func (Fn.func 218) #[.pointer (some ⟨g, 0, none⟩)] #[]] w fun e w' => e = .returned (.int .u64 0) ∧ Rdr w' g ⟨s.l, 2⟩ ∧ w.grownBy w' (some g) := by
 have hd : (s.e != 0) = false := by simpa using he
 have h1 := boxed_rdr h
 have hend := fix_out g s hl (w.alloc (.cells #[.pointer (some ⟨g, 0, none⟩)] 73)) h1
 have hmf := make_func
 clear he
 go_enter_defers Tryz.func107, Tryz.ntmps107
 go_wp2_with (first | (go_at_call 54; refine (err_c g s _ h1).mono ?_; rintro e wz ⟨rfl, rfl⟩) | (go_at_call 218; refine hend.mono ?_; rintro e w2 ⟨rfl, rfl⟩))
 refine leaves_cons (f := 165) (args := #[.pointer (some ⟨w.heap.size, 0, none⟩)]) (by simp) (by simp [go_sem]) ?_
 refine (catch_num_panic _ g s 2 [] _ (boxed_cell g w) h1).mono ?_
 rintro e u' w'' ⟨rfl, rfl, rfl⟩
 exact ⟨_, results_tmp rfl _ _ _, rfl, rdr_setErr h1 2, only_trans (boxed_below g w _) (only_set _ _ _ _)⟩
end Go.Proofs.YtojhenpaeedimaaGreat
end
section
namespace Go.Proofs.YtojhenpaeedimaaGreat
open Go.RowKit
open Pk
set_option maxRecDepth 100000
/-- a call that answers v and leaves the Reader of block g as s -/
def Done_ (w : World) (g : Nat) (s : St) (v : Value) (e : Ending) (w' : World) : Prop := e = .returned v ∧ Rdr w' g s ∧ w.grownBy w' (some g)
theorem done_ok {w w' : World} {g : Nat} {s t : St} {v u : Value} {e : Ending} (h : e = .returned u ∧ Rdr w' g t ∧ w.grownBy w' (some g)) (hv : u = v) (hs : t = s) : Done_ w g s v e w' := by
 subst hv; subst hs; exact h
theorem readNum_all (g : Nat) (s : St) (w : World) (h : Rdr w g s) :
  Calls Tryz.prog 107 #[.pointer (some ⟨g, 0, none⟩), .func (Fn.func 108) #[.pointer (some ⟨g, 0, none⟩)] #[]] w fun e w' => Done_ w g (numS s) (.int .u64 (numV s : Int)) e w' := by
 by_cases he : s.e = 0
 ·cases hr : rd s.l with
  | cut => exact (readNum_die g s he 2 (.inl ⟨hr, rfl⟩) w h).mono fun e w' hq => done_ok hq (by rw [(num_cut he hr).1]; rfl) (num_cut he hr).2.symm
  | long => exact (readNum_die g s he 3 (.inr ⟨hr, rfl⟩) w h).mono fun e w' hq => done_ok hq (by rw [(num_long he hr).1]; rfl) (num_long he hr).2.symm
  | ok n u => exact (readNum_ok g s he n u hr w h).mono fun e w' hq => done_ok hq (by rw [(num_ok he hr).1]) (num_ok he hr).2.symm
 ·exact (readNum_err g s he w h).mono fun e w' hq => done_ok hq (by rw [(num_err he).1]; rfl) (num_err he).2.symm
theorem num_m (g : Nat) (s : St) (w : World) (h : Rdr w g s) :
  Calls Tryz.prog 52 #[.pointer (some ⟨g, 0, none⟩)] w fun e w' => e = .returned (.int .u64 (numV s : Int)) ∧ Rdr w' g (numS s) ∧ w.grownBy w' (some g) := by
 have hmf := make_func
 go_enter Tryz.func52, Tryz.ntmps52
 go_wp2_with (go_at_call 107; refine (readNum_all g s _ h).mono ?_; rintro e w1 ⟨rfl, hr1, ho1⟩)
 go_ret
 exact ⟨rfl, hr1, ho1⟩
theorem readFix_all (g : Nat) (s : St) (w : World) (h : Rdr w g s) :
  Calls Tryz.prog 107 #[.pointer (some ⟨g, 0, none⟩), .func (Fn.func 218) #[.pointer (some ⟨g, 0, none⟩)] #[]] w fun e w' => Done_ w g (fixS s) (.int .u64 (fixV s : Int)) e w' := by
 by_cases he : s.e = 0
 ·by_cases hl : s.l.length < 8
  ·exact (readFix_die g s he hl w h).mono fun e w' hq => done_ok hq (by rw [(fix_cut he hl).1]; rfl) (fix_cut he hl).2.symm
  ·exact (readFix_ok g s he (by omega) w h).mono fun e w' hq => done_ok hq (by rw [(fix_ok he (by omega)).1]) (fix_ok he (by omega)).2.symm
 ·exact (readFix_err g s he w h).mono fun e w' hq => done_ok hq (by rw [(fix_err he).1]; rfl) (fix_err he).2.symm
theorem fix_m (g : Nat) (s : St) (w : World) (h : Rdr w g s) :
  Calls Tryz.prog 197 #[.pointer (some ⟨g, 0, none⟩)] w fun e w' => e = .returned (.int .u64 (fixV s : Int)) ∧ Rdr w' g (fixS s) ∧ w.grownBy w' (some g) := by
 have hmf := make_func
 go_enter Tryz.func197, Tryz.ntmps197
 go_wp2_with (go_at_call 107; refine (readFix_all g s _ h).mono ?_; rintro e w1 ⟨rfl, hr1, ho1⟩)
 go_ret
 exact ⟨rfl, hr1, ho1⟩
theorem int_m (g : Nat) (s : St) (w : World) (h : Rdr w g s) :
  Calls Tryz.prog 211 #[.pointer (some ⟨g, 0, none⟩)] w fun e w' => e = .returned (.int .i64 (zag (numV s))) ∧ Rdr w' g (numS s) ∧ w.grownBy w' (some g) := by
 have hb := numV_lt s
 go_enter Tryz.func211, Tryz.ntmps211
 go_wp2_with (first | (go_at_call 52; refine (num_m g s _ h).mono ?_; rintro e w1 ⟨rfl, hr1, ho1⟩) | (go_at_call 220; refine (zag_c _ hb _).mono ?_; rintro e wz ⟨rfl, rfl⟩))
 go_ret
 exact ⟨rfl, hr1, ho1⟩
/-- Take's own closure: what it captured is as it was -/
theorem takeFn_in (g k : Nat) (n : Int) (hn : n = (k : Int)) (s : St) (hk : k ≤ s.l.length) (p q : Addr) (w : World) (h : Rdr w g s) (hp : w.cell? p = some (.pointer (some ⟨g, 0, none⟩))) (hq : w.cell? q = some (.int .i64 n)) :
  Calls Tryz.prog 105 #[.pointer (some p), .pointer (some q)] w fun e w' => e = .returned (.string (ba (s.l.take k))) ∧ Rdr w' g ⟨s.l.drop k, s.e⟩ ∧ w.grownBy w' (some g) := by
 have HN := Lib.hid hn
 clear hn
 go_enter Tryz.func105, Tryz.ntmps105
 go_wp2_with (go_at_call 106; refine (take_in g k n HN.out s hk _ h).mono ?_; rintro e w1 ⟨rfl, hr1, ho1⟩)
 go_ret
 exact ⟨rfl, hr1, ho1⟩
theorem takeFn_out (g : Nat) (n : Int) (s : St) (hn : n < 0 ∨ (s.l.length : Int) < n) (p q : Addr) (w : World) (h : Rdr w g s) (hp : w.cell? p = some (.pointer (some ⟨g, 0, none⟩))) (hq : w.cell? q = some (.int .i64 n)) :
  Calls Tryz.prog 105 #[.pointer (some p), .pointer (some q)] w fun e w' => e = .panicked [{ v := .iface 27 (.int .i64 2), recovered := false }] ∧ w = w' := by
 have HN := Lib.hid hn
 clear hn
 go_enter Tryz.func105, Tryz.ntmps105
 go_wp2_with (go_at_call 106; refine (take_out g n s HN.out _ h).mono ?_; rintro e wz ⟨rfl, rfl⟩)
 exact ⟨rfl, rfl, rfl⟩
theorem size_alloc (w : World) (o : Obj) : (w.alloc o).heap.size = w.heap.size + 1 := by simp
theorem lt_of_cellB {w : World} {p : Addr} {v : Value} (h : w.cell? p = some v) : p.block < w.heap.size := World.block_lt_of_cell? w p h
theorem cell_boxed {w : World} {p : Addr} {v : Value} (h : w.cell? p = some v) (o : Obj) : (w.alloc o).cell? p = some v := by
 rw [World.cell?_alloc_lt w o p (lt_of_cellB h)]; exact h
theorem readTake_err (g : Nat) (s : St) (he : s.e ≠ 0) (p q : Addr) (w : World) (h : Rdr w g s) :
  Calls Tryz.prog 104 #[.pointer (some ⟨g, 0, none⟩), .func (Fn.func 105) #[] #[.pointer (some p), .pointer (some q)]] w fun e w' => e = .returned (.string (ba [])) ∧ Rdr w' g s ∧ w.grownBy w' (some g) := by
 have hd : (s.e != 0) = true := by simpa using he
 have h1 := boxed_rdr h
 clear he
 go_enter_defers Tryz.func104, Tryz.ntmps104
 go_wp2_with (go_at_call 54; refine (err_c g s _ h1).mono ?_; rintro e wz ⟨rfl, rfl⟩)
 exact ⟨_, results_tmp rfl _ _ _, rfl, h1, boxed_below g w _⟩
theorem readTake_ok (g k : Nat) (n : Int) (hn : n = (k : Int)) (s : St) (he : s.e = 0) (hk : k ≤ s.l.length) (p q : Addr) (w : World) (h : Rdr w g s) (hp : w.cell? p = some (.pointer (some ⟨g, 0, none⟩))) (hq : w.cell? q = some (.int .i64 n)) :
  Calls Tryz.prog 104 #[.pointer (some ⟨g, 0, none⟩), .func (Fn.func 105) #[] #[.pointer (some p), .pointer (some q)]] w fun e w' => e = .returned (.string (ba (s.l.take k))) ∧ Rdr w' g ⟨s.l.drop k, 0⟩ ∧ w.grownBy w' (some g) := by
 have hd : (s.e != 0) = false := by simpa using he
 have h1 := boxed_rdr h
 have hend := takeFn_in g k n hn s hk p q _ h1 (cell_boxed hp _) (cell_boxed hq _)
 have HE := Lib.hid he
 have HEND := Lib.hid hend
 have hmf := make_func
 clear he hend hn hp hq hk
 go_enter_defers Tryz.func104, Tryz.ntmps104
 go_wp2_with (first | (go_at_call 54; refine (err_c g s _ h1).mono ?_; rintro e wz ⟨rfl, rfl⟩) | (go_at_call 105; refine HEND.out.mono ?_; rintro e w2 ⟨rfl, hr2, ho2⟩))
 refine leaves_cons (f := 164) (args := #[.pointer (some ⟨w.heap.size, 0, none⟩)]) (by simp) (by simp [go_sem]) ?_
 refine (catch_take_idle _ _).mono ?_
 rintro e u' w'' ⟨rfl, rfl, rfl⟩
 exact ⟨_, results_tmp rfl _ _ _, rfl, drop_rdr hr2 HE.out, only_trans (boxed_below g w _) ho2⟩
theorem readTake_die (g : Nat) (n : Int) (s : St) (he : s.e = 0) (hn : n < 0 ∨ (s.l.length : Int) < n) (p q : Addr) (w : World) (h : Rdr w g s) (hp : w.cell? p = some (.pointer (some ⟨g, 0, none⟩))) (hq : w.cell? q = some (.int .i64 n)) :
  Calls Tryz.prog 104 #[.pointer (some ⟨g, 0, none⟩), .func (Fn.func 105) #[] #[.pointer (some p), .pointer (some q)]] w fun e w' => e = .returned (.string (ba [])) ∧ Rdr w' g ⟨s.l, 2⟩ ∧ w.grownBy w' (some g) := by
 have hd : (s.e != 0) = false := by simpa using he
 have h1 := boxed_rdr h
 have hend := takeFn_out g n s hn p q _ h1 (cell_boxed hp _) (cell_boxed hq _)
 have HEND := Lib.hid hend
 have hmf := make_func
 clear he hend hn hp hq
 go_enter_defers Tryz.func104, Tryz.ntmps104
 go_wp2_with (first | (go_at_call 54; refine (err_c g s _ h1).mono ?_; rintro e wz ⟨rfl, rfl⟩) | (go_at_call 105; refine HEND.out.mono ?_; rintro e w2 ⟨rfl, rfl⟩))
 refine leaves_cons (f := 164) (args := #[.pointer (some ⟨w.heap.size, 0, none⟩)]) (by simp) (by simp [go_sem]) ?_
 refine (catch_take_panic _ g s 2 [] _ (boxed_cell g w) h1).mono ?_
 rintro e u' w'' ⟨rfl, rfl, rfl⟩
 exact ⟨_, results_tmp rfl _ _ _, rfl, rdr_setErr h1 2, only_trans (boxed_below g w _) (only_set _ _ _ _)⟩
theorem readTake_all (g : Nat) (n : Int) (s : St) (p q : Addr) (w : World) (h : Rdr w g s) (hp : w.cell? p = some (.pointer (some ⟨g, 0, none⟩))) (hq : w.cell? q = some (.int .i64 n)) :
  Calls Tryz.prog 104 #[.pointer (some ⟨g, 0, none⟩), .func (Fn.func 105) #[] #[.pointer (some p), .pointer (some q)]] w fun e w' => Done_ w g (takeS n s) (.string (ba (takeV n s))) e w' := by
 by_cases he : s.e = 0
 ·by_cases hn : n < 0 ∨ (s.l.length : Int) < n
  ·exact (readTake_die g n s he hn p q w h hp hq).mono fun e w' hq => done_ok hq (by rw [(take_cut he hn).1]) (take_cut he hn).2.symm
  ·exact (readTake_ok g n.toNat n (by omega) s he (by omega) p q w h hp hq).mono fun e w' hq => done_ok hq (by rw [(take_ok he hn).1]) (take_ok he hn).2.symm
 ·exact (readTake_err g s he p q w h).mono fun e w' hq => done_ok hq (by rw [(take_err he).1]) (take_err he).2.symm
theorem take_m (g : Nat) (n : Int) (s : St) (w : World) (h : Rdr w g s) :
  Calls Tryz.prog 51 #[.pointer (some ⟨g, 0, none⟩), .int .i64 n] w fun e w' => e = .returned (.string (ba (takeV n s))) ∧ Rdr w' g (takeS n s) ∧ w.grownBy w' (some g) := by
 have hmf := make_func
 have h2 := is_alloc (boxed_rdr h) (.cells #[.int .i64 n] 3)
 have hp := cell_boxed (boxed_cell g w) (.cells #[.int .i64 n] 3)
 have hq := is_cell (is_new (w.alloc (.cells #[.pointer (some ⟨g, 0, none⟩)] 73)) 3 [.int .i64 n]) 0
 rw [size_alloc] at hq
 have HALL := Lib.hid (readTake_all g n s _ _ _ h2 hp hq)
 have ho := only_trans (boxed_below g w (.cells #[.pointer (some ⟨g, 0, none⟩)] 73)) (boxed_below g _ (.cells #[.int .i64 n] 3))
 clear h2 hp hq h
 go_enter Tryz.func51, Tryz.ntmps51
 go_wp2_with (go_at_call 104; refine HALL.out.mono ?_; rintro e w1 ⟨rfl, hr1, ho1⟩)
 go_ret
 exact ⟨rfl, hr1, only_trans ho ho1⟩
theorem new_c (l : List UInt8) (w : World) :
  Calls Tryz.prog 50 #[.string (ba l)] w fun e w' => e = .returned (.pointer (some ⟨w.heap.size, 0, none⟩)) ∧ Rdr w' w.heap.size ⟨l, 0⟩ ∧ w' = w.alloc (.cells #[.string (ba l), .int .i64 0] 132) := by
 go_enter Tryz.func50, Tryz.ntmps50
 go_wp2
 go_ret
 exact ⟨rfl, is_new w 132 [.string (ba l), .int .i64 0], rfl⟩
end Go.Proofs.YtojhenpaeedimaaGreat
end
section
namespace Go.Proofs.YtojhenpaeedimaaGreat
open Go.RowKit
theorem below_only {B g : Nat} {a w w' : World} (hb : Below B a w) (ho : w.grownBy w' (some g)) (hB : B ≤ w.heap.size) (hg : B ≤ g) : Below B a w' :=
 hb.grown ho hB (fun k hk => by injection hk with hk; omega)
end Go.Proofs.YtojhenpaeedimaaGreat
end
