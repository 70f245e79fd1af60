/-
  No cell of these rows narrows 'for every input' (looked for: loops, veiled, ifaces, maps, wideKeys, modest, calm, conditions, laid).
  DERIVED. THE GIVEN ROWS OF THIS SEAT. 12 by the template 'for every input the law returns true; each argument reads behind the call as it read before'; 0 by the template 'total and deterministic' (their statements: YtaahfcljcejemaaTotals.lean).
  GIVEN WITH THE SEED: the statements are not yours to turn. If you find one false, say at which input.
  Laid BY PROGRAM, IN A SANDBOX (cutbox-rows.mjs): the forced cells as the released guide's own fill.sh prints them over the translation 2266b18ea27ab9fc… (all of the seat's roots in one cut). By AI agents, Wed Nov 11 2026. No macro, syntax, notation, axiom, sorry.
-/
import Derived.Test.YtaahfcljcejemaaChecked
import GoSem.Claim
import GoSem.ClaimJoined
import GoSem.ClaimMapViews
import Derived.JoinedTies
import Derived.KernelRfl
namespace Go.Proofs.Ytaahfcljcejemaa
/- THE CELL 'sum', in the pinned program and in every row, IS THE sha256 OF THE DUMP (.gsa) THAT YtaahfcljcejemaaProg.lean LOADS. Nothing in Lean hashes anything: it is a label: what it is worth is what the hold of that sum in a sandbox is worth. -/
noncomputable def Try.pinned : Pinned := { name := "ytaahfcljcejemaa", sum := "2266b18ea27ab9fc031baeda262118afe06eeaffa496ed430715d6944a6bed44", checked := Try.checked }
namespace Rows
def none {H : Type} : Left H := { results := [], args := [] }

/-- 'bonsailaw01.BitsTells': WHATEVER THE INPUT: true; the input reads as it did. -/
def bitsTellsSpec : ChangeSpec := { name := "bitsTells", fn := fun _ => fun
  | [d1, d2, d3] => { results := [.lit (.bool true)], args := [d1, d2, d3] }
  | _ => none }
def bitsTellsRow : OpenClaim := { program := "ytaahfcljcejemaa", sum := "2266b18ea27ab9fc031baeda262118afe06eeaffa496ed430715d6944a6bed44", func := "bonsai/bonsailaw01.BitsTells", spec := "bitsTells", inPlace := ["math.Float64frombits", "math.Float64bits"], apart := false }
def BitsTellsSaid : Prop := bitsTellsRow.holds Try.pinned (OpenSpec.ofChange bitsTellsSpec)

/-- ITS FALSE NEIGHBOUR: 'it returns false'. Refute it at one input. -/
def bitsTellsWrong : ChangeSpec := { name := "bitsTells", fn := fun _ => fun
  | [d1, d2, d3] => { results := [.lit (.bool false)], args := [d1, d2, d3] }
  | _ => none }
def BitsTellsWrongFalsely : Prop := bitsTellsRow.holds Try.pinned (OpenSpec.ofChange bitsTellsWrong)

/-- 'bonsailaw01.BitsBack': WHATEVER THE INPUT: true; the input reads as it did. -/
def bitsBackSpec : ChangeSpec := { name := "bitsBack", fn := fun _ => fun
  | [d1, d2] => { results := [.lit (.bool true)], args := [d1, d2] }
  | _ => none }
def bitsBackRow : OpenClaim := { program := "ytaahfcljcejemaa", sum := "2266b18ea27ab9fc031baeda262118afe06eeaffa496ed430715d6944a6bed44", func := "bonsai/bonsailaw01.BitsBack", spec := "bitsBack", inPlace := ["math.Float64frombits", "math.Float64bits"], apart := false }
def BitsBackSaid : Prop := bitsBackRow.holds Try.pinned (OpenSpec.ofChange bitsBackSpec)

/-- ITS FALSE NEIGHBOUR: 'it returns false'. Refute it at one input. -/
def bitsBackWrong : ChangeSpec := { name := "bitsBack", fn := fun _ => fun
  | [d1, d2] => { results := [.lit (.bool false)], args := [d1, d2] }
  | _ => none }
def BitsBackWrongFalsely : Prop := bitsBackRow.holds Try.pinned (OpenSpec.ofChange bitsBackWrong)

/-- 'bonsailaw01.BitsOrder': WHATEVER THE INPUT: true; the input reads as it did. -/
def bitsOrderSpec : ChangeSpec := { name := "bitsOrder", fn := fun _ => fun
  | [d1, d2] => { results := [.lit (.bool true)], args := [d1, d2] }
  | _ => none }
def bitsOrderRow : OpenClaim := { program := "ytaahfcljcejemaa", sum := "2266b18ea27ab9fc031baeda262118afe06eeaffa496ed430715d6944a6bed44", func := "bonsai/bonsailaw01.BitsOrder", spec := "bitsOrder", inPlace := ["math.Float64frombits", "math.Float64bits"], apart := false }
def BitsOrderSaid : Prop := bitsOrderRow.holds Try.pinned (OpenSpec.ofChange bitsOrderSpec)

/-- ITS FALSE NEIGHBOUR: 'it returns false'. Refute it at one input. -/
def bitsOrderWrong : ChangeSpec := { name := "bitsOrder", fn := fun _ => fun
  | [d1, d2] => { results := [.lit (.bool false)], args := [d1, d2] }
  | _ => none }
def BitsOrderWrongFalsely : Prop := bitsOrderRow.holds Try.pinned (OpenSpec.ofChange bitsOrderWrong)

/-- 'bonsailaw01.BitsNext': WHATEVER THE INPUT: true; the input reads as it did. -/
def bitsNextSpec : ChangeSpec := { name := "bitsNext", fn := fun _ => fun
  | [d1, d2] => { results := [.lit (.bool true)], args := [d1, d2] }
  | _ => none }
def bitsNextRow : OpenClaim := { program := "ytaahfcljcejemaa", sum := "2266b18ea27ab9fc031baeda262118afe06eeaffa496ed430715d6944a6bed44", func := "bonsai/bonsailaw01.BitsNext", spec := "bitsNext", inPlace := ["math.Float64frombits", "math.Float64bits"], apart := false }
def BitsNextSaid : Prop := bitsNextRow.holds Try.pinned (OpenSpec.ofChange bitsNextSpec)

/-- ITS FALSE NEIGHBOUR: 'it returns false'. Refute it at one input. -/
def bitsNextWrong : ChangeSpec := { name := "bitsNext", fn := fun _ => fun
  | [d1, d2] => { results := [.lit (.bool false)], args := [d1, d2] }
  | _ => none }
def BitsNextWrongFalsely : Prop := bitsNextRow.holds Try.pinned (OpenSpec.ofChange bitsNextWrong)

/-- 'bonsailaw01.BitsWhole': WHATEVER THE INPUT: true; the input reads as it did. -/
def bitsWholeSpec : ChangeSpec := { name := "bitsWhole", fn := fun _ => fun
  | [d1, d2] => { results := [.lit (.bool true)], args := [d1, d2] }
  | _ => none }
def bitsWholeRow : OpenClaim := { program := "ytaahfcljcejemaa", sum := "2266b18ea27ab9fc031baeda262118afe06eeaffa496ed430715d6944a6bed44", func := "bonsai/bonsailaw01.BitsWhole", spec := "bitsWhole", inPlace := ["math.Float64frombits", "math.Float64bits"], apart := false }
def BitsWholeSaid : Prop := bitsWholeRow.holds Try.pinned (OpenSpec.ofChange bitsWholeSpec)

/-- ITS FALSE NEIGHBOUR: 'it returns false'. Refute it at one input. -/
def bitsWholeWrong : ChangeSpec := { name := "bitsWhole", fn := fun _ => fun
  | [d1, d2] => { results := [.lit (.bool false)], args := [d1, d2] }
  | _ => none }
def BitsWholeWrongFalsely : Prop := bitsWholeRow.holds Try.pinned (OpenSpec.ofChange bitsWholeWrong)

/-- 'bonsailaw02.RankTells': WHATEVER THE INPUT: true; the input reads as it did. -/
def rankTellsSpec : ChangeSpec := { name := "rankTells", fn := fun _ => fun
  | [d1, d2, d3] => { results := [.lit (.bool true)], args := [d1, d2, d3] }
  | _ => none }
def rankTellsRow : OpenClaim := { program := "ytaahfcljcejemaa", sum := "2266b18ea27ab9fc031baeda262118afe06eeaffa496ed430715d6944a6bed44", func := "bonsai/bonsailaw02.RankTells", spec := "rankTells", inPlace := ["math.Float64frombits", "math.Float64bits"], unfollowed := true, recurses := true, apart := false }
def RankTellsSaid : Prop := rankTellsRow.holds Try.pinned (OpenSpec.ofChange rankTellsSpec)

/-- ITS FALSE NEIGHBOUR: 'it returns false'. Refute it at one input. -/
def rankTellsWrong : ChangeSpec := { name := "rankTells", fn := fun _ => fun
  | [d1, d2, d3] => { results := [.lit (.bool false)], args := [d1, d2, d3] }
  | _ => none }
def RankTellsWrongFalsely : Prop := rankTellsRow.holds Try.pinned (OpenSpec.ofChange rankTellsWrong)

/-- 'bonsailaw02.RankRows': WHATEVER THE INPUT: true; the input reads as it did. -/
def rankRowsSpec : ChangeSpec := { name := "rankRows", fn := fun _ => fun
  | [d1, d2, d3] => { results := [.lit (.bool true)], args := [d1, d2, d3] }
  | _ => none }
def rankRowsRow : OpenClaim := { program := "ytaahfcljcejemaa", sum := "2266b18ea27ab9fc031baeda262118afe06eeaffa496ed430715d6944a6bed44", func := "bonsai/bonsailaw02.RankRows", spec := "rankRows", inPlace := ["math.Float64frombits", "math.Float64bits"], unfollowed := true, recurses := true, apart := false }
def RankRowsSaid : Prop := rankRowsRow.holds Try.pinned (OpenSpec.ofChange rankRowsSpec)

/-- ITS FALSE NEIGHBOUR: 'it returns false'. Refute it at one input. -/
def rankRowsWrong : ChangeSpec := { name := "rankRows", fn := fun _ => fun
  | [d1, d2, d3] => { results := [.lit (.bool false)], args := [d1, d2, d3] }
  | _ => none }
def RankRowsWrongFalsely : Prop := rankRowsRow.holds Try.pinned (OpenSpec.ofChange rankRowsWrong)

/-- 'bonsailaw02.RankOrder': WHATEVER THE INPUT: true; the input reads as it did. -/
def rankOrderSpec : ChangeSpec := { name := "rankOrder", fn := fun _ => fun
  | [d1, d2, d3] => { results := [.lit (.bool true)], args := [d1, d2, d3] }
  | _ => none }
def rankOrderRow : OpenClaim := { program := "ytaahfcljcejemaa", sum := "2266b18ea27ab9fc031baeda262118afe06eeaffa496ed430715d6944a6bed44", func := "bonsai/bonsailaw02.RankOrder", spec := "rankOrder", inPlace := ["math.Float64bits", "math.Float64frombits"], unfollowed := true, recurses := true, apart := false }
def RankOrderSaid : Prop := rankOrderRow.holds Try.pinned (OpenSpec.ofChange rankOrderSpec)

/-- ITS FALSE NEIGHBOUR: 'it returns false'. Refute it at one input. -/
def rankOrderWrong : ChangeSpec := { name := "rankOrder", fn := fun _ => fun
  | [d1, d2, d3] => { results := [.lit (.bool false)], args := [d1, d2, d3] }
  | _ => none }
def RankOrderWrongFalsely : Prop := rankOrderRow.holds Try.pinned (OpenSpec.ofChange rankOrderWrong)

/-- 'bonsailaw02.RankMiddle': WHATEVER THE INPUT: true; the input reads as it did. -/
def rankMiddleSpec : ChangeSpec := { name := "rankMiddle", fn := fun _ => fun
  | [d1, d2, d3] => { results := [.lit (.bool true)], args := [d1, d2, d3] }
  | _ => none }
def rankMiddleRow : OpenClaim := { program := "ytaahfcljcejemaa", sum := "2266b18ea27ab9fc031baeda262118afe06eeaffa496ed430715d6944a6bed44", func := "bonsai/bonsailaw02.RankMiddle", spec := "rankMiddle", inPlace := ["math.Float64bits", "math.Float64frombits"], unfollowed := true, recurses := true, apart := false }
def RankMiddleSaid : Prop := rankMiddleRow.holds Try.pinned (OpenSpec.ofChange rankMiddleSpec)

/-- ITS FALSE NEIGHBOUR: 'it returns false'. Refute it at one input. -/
def rankMiddleWrong : ChangeSpec := { name := "rankMiddle", fn := fun _ => fun
  | [d1, d2, d3] => { results := [.lit (.bool false)], args := [d1, d2, d3] }
  | _ => none }
def RankMiddleWrongFalsely : Prop := rankMiddleRow.holds Try.pinned (OpenSpec.ofChange rankMiddleWrong)

/-- 'bonsailaw02.RankKeys': WHATEVER THE INPUT: true; the input reads as it did. -/
def rankKeysSpec : ChangeSpec := { name := "rankKeys", fn := fun _ => fun
  | [d1, d2] => { results := [.lit (.bool true)], args := [d1, d2] }
  | _ => none }
def rankKeysRow : OpenClaim := { program := "ytaahfcljcejemaa", sum := "2266b18ea27ab9fc031baeda262118afe06eeaffa496ed430715d6944a6bed44", func := "bonsai/bonsailaw02.RankKeys", spec := "rankKeys", inPlace := ["math.Float64frombits", "math.Float64bits"], unfollowed := true, recurses := true, apart := false }
def RankKeysSaid : Prop := rankKeysRow.holds Try.pinned (OpenSpec.ofChange rankKeysSpec)

/-- ITS FALSE NEIGHBOUR: 'it returns false'. Refute it at one input. -/
def rankKeysWrong : ChangeSpec := { name := "rankKeys", fn := fun _ => fun
  | [d1, d2] => { results := [.lit (.bool false)], args := [d1, d2] }
  | _ => none }
def RankKeysWrongFalsely : Prop := rankKeysRow.holds Try.pinned (OpenSpec.ofChange rankKeysWrong)

/-- 'bonsailaw02.RankDense': WHATEVER THE INPUT: true; the input reads as it did. -/
def rankDenseSpec : ChangeSpec := { name := "rankDense", fn := fun _ => fun
  | [d1, d2] => { results := [.lit (.bool true)], args := [d1, d2] }
  | _ => none }
def rankDenseRow : OpenClaim := { program := "ytaahfcljcejemaa", sum := "2266b18ea27ab9fc031baeda262118afe06eeaffa496ed430715d6944a6bed44", func := "bonsai/bonsailaw02.RankDense", spec := "rankDense", inPlace := ["math.Float64bits", "math.Float64frombits"], unfollowed := true, recurses := true, apart := false }
def RankDenseSaid : Prop := rankDenseRow.holds Try.pinned (OpenSpec.ofChange rankDenseSpec)

/-- ITS FALSE NEIGHBOUR: 'it returns false'. Refute it at one input. -/
def rankDenseWrong : ChangeSpec := { name := "rankDense", fn := fun _ => fun
  | [d1, d2] => { results := [.lit (.bool false)], args := [d1, d2] }
  | _ => none }
def RankDenseWrongFalsely : Prop := rankDenseRow.holds Try.pinned (OpenSpec.ofChange rankDenseWrong)

/-- 'bonsailaw02.RankSame': WHATEVER THE INPUT: true; the input reads as it did. -/
def rankSameSpec : ChangeSpec := { name := "rankSame", fn := fun _ => fun
  | [d1, d2] => { results := [.lit (.bool true)], args := [d1, d2] }
  | _ => none }
def rankSameRow : OpenClaim := { program := "ytaahfcljcejemaa", sum := "2266b18ea27ab9fc031baeda262118afe06eeaffa496ed430715d6944a6bed44", func := "bonsai/bonsailaw02.RankSame", spec := "rankSame", inPlace := ["math.Float64frombits", "math.Float64bits"], unfollowed := true, recurses := true, apart := false }
def RankSameSaid : Prop := rankSameRow.holds Try.pinned (OpenSpec.ofChange rankSameSpec)

/-- ITS FALSE NEIGHBOUR: 'it returns false'. Refute it at one input. -/
def rankSameWrong : ChangeSpec := { name := "rankSame", fn := fun _ => fun
  | [d1, d2] => { results := [.lit (.bool false)], args := [d1, d2] }
  | _ => none }
def RankSameWrongFalsely : Prop := rankSameRow.holds Try.pinned (OpenSpec.ofChange rankSameWrong)

/- THE SECOND FORM. 'bulk': how many values and letters a reading holds, each counted each time it is reached (what is shared counts as often as it is met; a slice's spare places count too). A statement '..UptoSaid' is the law's where the arguments, and the package variables that the reading takes, are together of bulk at most 1048576: NARROWER than '..Said'. Prove '..Said' where nothing that the law and all that it calls make is longer than what came in: it says more and counts as full. Else prove '..UptoSaid'. A law counts once. -/
mutual
def uptoBulk {H : Type} : DataW H → Nat
  | .lit (.string bytes) => bytes.length + 1
  | .lit _ => 1
  | .nil => 1
  | .ptr d => uptoBulk d + 1
  | .slice elems spare => uptoBulkAll elems + uptoBulkAll spare + 1
  | .agg parts => uptoBulkAll parts + 1
  | .iface _ d => uptoBulk d + 1
  | .map entries => uptoBulkEntries entries + 1
  | .held _ => 1
def uptoBulkAll {H : Type} : List (DataW H) → Nat
  | [] => 0
  | d :: r => uptoBulk d + uptoBulkAll r
def uptoBulkEntries {H : Type} : List (Lit × DataW H) → Nat
  | [] => 0
  | x :: r => uptoBulkEntry x + uptoBulkEntries r
def uptoBulkEntry {H : Type} : Lit × DataW H → Nat
  | (.string bytes, d) => bytes.length + uptoBulk d + 1
  | (_, d) => uptoBulk d + 1
 end
def uptoSmall : (H : Type) → List (DataW H) → Bool := fun _ ds => decide (uptoBulkAll ds ≤ 1048576)
def OpenSpec.upto (s : _root_.Go.ChangeSpec) : _root_.Go.OpenSpec := { _root_.Go.OpenSpec.ofChange s with cond := some uptoSmall }

/-- 'bonsailaw01.BitsTells', WHERE WHAT IT READS IS OF BULK AT MOST 1048576: true; the input reads as it did. -/
def bitsTellsUptoRow : OpenClaim := { program := "ytaahfcljcejemaa", sum := "2266b18ea27ab9fc031baeda262118afe06eeaffa496ed430715d6944a6bed44", func := "bonsai/bonsailaw01.BitsTells", spec := "bitsTells", inPlace := ["math.Float64frombits", "math.Float64bits"], apart := false, narrowed := true }
def BitsTellsUptoSaid : Prop := bitsTellsUptoRow.holds Try.pinned (OpenSpec.upto bitsTellsSpec)

/-- 'bonsailaw01.BitsBack', WHERE WHAT IT READS IS OF BULK AT MOST 1048576: true; the input reads as it did. -/
def bitsBackUptoRow : OpenClaim := { program := "ytaahfcljcejemaa", sum := "2266b18ea27ab9fc031baeda262118afe06eeaffa496ed430715d6944a6bed44", func := "bonsai/bonsailaw01.BitsBack", spec := "bitsBack", inPlace := ["math.Float64frombits", "math.Float64bits"], apart := false, narrowed := true }
def BitsBackUptoSaid : Prop := bitsBackUptoRow.holds Try.pinned (OpenSpec.upto bitsBackSpec)

/-- 'bonsailaw01.BitsOrder', WHERE WHAT IT READS IS OF BULK AT MOST 1048576: true; the input reads as it did. -/
def bitsOrderUptoRow : OpenClaim := { program := "ytaahfcljcejemaa", sum := "2266b18ea27ab9fc031baeda262118afe06eeaffa496ed430715d6944a6bed44", func := "bonsai/bonsailaw01.BitsOrder", spec := "bitsOrder", inPlace := ["math.Float64frombits", "math.Float64bits"], apart := false, narrowed := true }
def BitsOrderUptoSaid : Prop := bitsOrderUptoRow.holds Try.pinned (OpenSpec.upto bitsOrderSpec)

/-- 'bonsailaw01.BitsNext', WHERE WHAT IT READS IS OF BULK AT MOST 1048576: true; the input reads as it did. -/
def bitsNextUptoRow : OpenClaim := { program := "ytaahfcljcejemaa", sum := "2266b18ea27ab9fc031baeda262118afe06eeaffa496ed430715d6944a6bed44", func := "bonsai/bonsailaw01.BitsNext", spec := "bitsNext", inPlace := ["math.Float64frombits", "math.Float64bits"], apart := false, narrowed := true }
def BitsNextUptoSaid : Prop := bitsNextUptoRow.holds Try.pinned (OpenSpec.upto bitsNextSpec)

/-- 'bonsailaw01.BitsWhole', WHERE WHAT IT READS IS OF BULK AT MOST 1048576: true; the input reads as it did. -/
def bitsWholeUptoRow : OpenClaim := { program := "ytaahfcljcejemaa", sum := "2266b18ea27ab9fc031baeda262118afe06eeaffa496ed430715d6944a6bed44", func := "bonsai/bonsailaw01.BitsWhole", spec := "bitsWhole", inPlace := ["math.Float64frombits", "math.Float64bits"], apart := false, narrowed := true }
def BitsWholeUptoSaid : Prop := bitsWholeUptoRow.holds Try.pinned (OpenSpec.upto bitsWholeSpec)

/-- 'bonsailaw02.RankTells', WHERE WHAT IT READS IS OF BULK AT MOST 1048576: true; the input reads as it did. -/
def rankTellsUptoRow : OpenClaim := { program := "ytaahfcljcejemaa", sum := "2266b18ea27ab9fc031baeda262118afe06eeaffa496ed430715d6944a6bed44", func := "bonsai/bonsailaw02.RankTells", spec := "rankTells", inPlace := ["math.Float64frombits", "math.Float64bits"], unfollowed := true, recurses := true, apart := false, narrowed := true }
def RankTellsUptoSaid : Prop := rankTellsUptoRow.holds Try.pinned (OpenSpec.upto rankTellsSpec)

/-- 'bonsailaw02.RankRows', WHERE WHAT IT READS IS OF BULK AT MOST 1048576: true; the input reads as it did. -/
def rankRowsUptoRow : OpenClaim := { program := "ytaahfcljcejemaa", sum := "2266b18ea27ab9fc031baeda262118afe06eeaffa496ed430715d6944a6bed44", func := "bonsai/bonsailaw02.RankRows", spec := "rankRows", inPlace := ["math.Float64frombits", "math.Float64bits"], unfollowed := true, recurses := true, apart := false, narrowed := true }
def RankRowsUptoSaid : Prop := rankRowsUptoRow.holds Try.pinned (OpenSpec.upto rankRowsSpec)

/-- 'bonsailaw02.RankOrder', WHERE WHAT IT READS IS OF BULK AT MOST 1048576: true; the input reads as it did. -/
def rankOrderUptoRow : OpenClaim := { program := "ytaahfcljcejemaa", sum := "2266b18ea27ab9fc031baeda262118afe06eeaffa496ed430715d6944a6bed44", func := "bonsai/bonsailaw02.RankOrder", spec := "rankOrder", inPlace := ["math.Float64bits", "math.Float64frombits"], unfollowed := true, recurses := true, apart := false, narrowed := true }
def RankOrderUptoSaid : Prop := rankOrderUptoRow.holds Try.pinned (OpenSpec.upto rankOrderSpec)

/-- 'bonsailaw02.RankMiddle', WHERE WHAT IT READS IS OF BULK AT MOST 1048576: true; the input reads as it did. -/
def rankMiddleUptoRow : OpenClaim := { program := "ytaahfcljcejemaa", sum := "2266b18ea27ab9fc031baeda262118afe06eeaffa496ed430715d6944a6bed44", func := "bonsai/bonsailaw02.RankMiddle", spec := "rankMiddle", inPlace := ["math.Float64bits", "math.Float64frombits"], unfollowed := true, recurses := true, apart := false, narrowed := true }
def RankMiddleUptoSaid : Prop := rankMiddleUptoRow.holds Try.pinned (OpenSpec.upto rankMiddleSpec)

/-- 'bonsailaw02.RankKeys', WHERE WHAT IT READS IS OF BULK AT MOST 1048576: true; the input reads as it did. -/
def rankKeysUptoRow : OpenClaim := { program := "ytaahfcljcejemaa", sum := "2266b18ea27ab9fc031baeda262118afe06eeaffa496ed430715d6944a6bed44", func := "bonsai/bonsailaw02.RankKeys", spec := "rankKeys", inPlace := ["math.Float64frombits", "math.Float64bits"], unfollowed := true, recurses := true, apart := false, narrowed := true }
def RankKeysUptoSaid : Prop := rankKeysUptoRow.holds Try.pinned (OpenSpec.upto rankKeysSpec)

/-- 'bonsailaw02.RankDense', WHERE WHAT IT READS IS OF BULK AT MOST 1048576: true; the input reads as it did. -/
def rankDenseUptoRow : OpenClaim := { program := "ytaahfcljcejemaa", sum := "2266b18ea27ab9fc031baeda262118afe06eeaffa496ed430715d6944a6bed44", func := "bonsai/bonsailaw02.RankDense", spec := "rankDense", inPlace := ["math.Float64bits", "math.Float64frombits"], unfollowed := true, recurses := true, apart := false, narrowed := true }
def RankDenseUptoSaid : Prop := rankDenseUptoRow.holds Try.pinned (OpenSpec.upto rankDenseSpec)

/-- 'bonsailaw02.RankSame', WHERE WHAT IT READS IS OF BULK AT MOST 1048576: true; the input reads as it did. -/
def rankSameUptoRow : OpenClaim := { program := "ytaahfcljcejemaa", sum := "2266b18ea27ab9fc031baeda262118afe06eeaffa496ed430715d6944a6bed44", func := "bonsai/bonsailaw02.RankSame", spec := "rankSame", inPlace := ["math.Float64frombits", "math.Float64bits"], unfollowed := true, recurses := true, apart := false, narrowed := true }
def RankSameUptoSaid : Prop := rankSameUptoRow.holds Try.pinned (OpenSpec.upto rankSameSpec)

end Rows
end Go.Proofs.Ytaahfcljcejemaa
