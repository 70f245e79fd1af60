/-
  No cell of these rows narrows 'for every input' (looked for: loops, veiled, ifaces, maps, wideKeys, modest, calm, conditions, laid).
  DERIVED. THE GIVEN ROWS OF THIS SEAT. 11 by the template 'for every input the law returns true; each argument reads behind the call as it read before'; 0 by the template 'total and deterministic' (their statements: YtihaiabkjmmmoaaTotals.lean).
  GIVEN WITH THE SEED: the statements are not yours to turn. If you find one false, say at which input.
  Laid BY PROGRAM, IN A SANDBOX (cutbox-rows.mjs): the forced cells as the released guide's own fill.sh prints them over the translation 80cbbe56f6f7a105… (all of the seat's roots in one cut). By AI agents, Wed Nov 11 2026. No macro, syntax, notation, axiom, sorry.
-/
import Derived.Test.YtihaiabkjmmmoaaChecked
import GoSem.Claim
import GoSem.ClaimJoined
import GoSem.ClaimMapViews
import Derived.JoinedTies
import Derived.KernelRfl
namespace Go.Proofs.Ytihaiabkjmmmoaa
/- THE CELL 'sum', in the pinned program and in every row, IS THE sha256 OF THE DUMP (.gsa) THAT YtihaiabkjmmmoaaProg.lean LOADS. Nothing in Lean hashes anything: it is a label: what it is worth is what the hold of that sum in a sandbox is worth. -/
noncomputable def Try.pinned : Pinned := { name := "ytihaiabkjmmmoaa", sum := "80cbbe56f6f7a10525df6610d031324fb336e56872aeed72cf1af43d125be55b", checked := Try.checked }
namespace Rows
def none {H : Type} : Left H := { results := [], args := [] }

/-- 'bonsailaw13.MovesTells': WHATEVER THE INPUT: true; the input reads as it did. -/
def movesTellsSpec : ChangeSpec := { name := "movesTells", fn := fun _ => fun
  | [d1, d2, d3] => { results := [.lit (.bool true)], args := [d1, d2, d3] }
  | _ => none }
def movesTellsRow : OpenClaim := { program := "ytihaiabkjmmmoaa", sum := "80cbbe56f6f7a10525df6610d031324fb336e56872aeed72cf1af43d125be55b", func := "bonsai/bonsailaw13.MovesTells", spec := "movesTells", inPlace := ["math.Float64bits", "math.Float64frombits"], unfollowed := true, recurses := true, apart := false }
def MovesTellsSaid : Prop := movesTellsRow.holds Try.pinned (OpenSpec.ofChange movesTellsSpec)

/-- ITS FALSE NEIGHBOUR: 'it returns false'. Refute it at one input. -/
def movesTellsWrong : ChangeSpec := { name := "movesTells", fn := fun _ => fun
  | [d1, d2, d3] => { results := [.lit (.bool false)], args := [d1, d2, d3] }
  | _ => none }
def MovesTellsWrongFalsely : Prop := movesTellsRow.holds Try.pinned (OpenSpec.ofChange movesTellsWrong)

/-- 'bonsailaw13.MovesInserts': WHATEVER THE INPUT: true; the input reads as it did. -/
def movesInsertsSpec : ChangeSpec := { name := "movesInserts", fn := fun _ => fun
  | [d1, d2] => { results := [.lit (.bool true)], args := [d1, d2] }
  | _ => none }
def movesInsertsRow : OpenClaim := { program := "ytihaiabkjmmmoaa", sum := "80cbbe56f6f7a10525df6610d031324fb336e56872aeed72cf1af43d125be55b", func := "bonsai/bonsailaw13.MovesInserts", spec := "movesInserts", inPlace := ["math.Float64bits", "math.Float64frombits"], unfollowed := true, recurses := true, apart := false }
def MovesInsertsSaid : Prop := movesInsertsRow.holds Try.pinned (OpenSpec.ofChange movesInsertsSpec)

/-- ITS FALSE NEIGHBOUR: 'it returns false'. Refute it at one input. -/
def movesInsertsWrong : ChangeSpec := { name := "movesInserts", fn := fun _ => fun
  | [d1, d2] => { results := [.lit (.bool false)], args := [d1, d2] }
  | _ => none }
def MovesInsertsWrongFalsely : Prop := movesInsertsRow.holds Try.pinned (OpenSpec.ofChange movesInsertsWrong)

/-- 'bonsailaw13.MovesMay': WHATEVER THE INPUT: true; the input reads as it did. -/
def movesMaySpec : ChangeSpec := { name := "movesMay", fn := fun _ => fun
  | [d1, d2] => { results := [.lit (.bool true)], args := [d1, d2] }
  | _ => none }
def movesMayRow : OpenClaim := { program := "ytihaiabkjmmmoaa", sum := "80cbbe56f6f7a10525df6610d031324fb336e56872aeed72cf1af43d125be55b", func := "bonsai/bonsailaw13.MovesMay", spec := "movesMay", inPlace := ["math.Float64bits", "math.Float64frombits"], unfollowed := true, recurses := true, apart := false }
def MovesMaySaid : Prop := movesMayRow.holds Try.pinned (OpenSpec.ofChange movesMaySpec)

/-- ITS FALSE NEIGHBOUR: 'it returns false'. Refute it at one input. -/
def movesMayWrong : ChangeSpec := { name := "movesMay", fn := fun _ => fun
  | [d1, d2] => { results := [.lit (.bool false)], args := [d1, d2] }
  | _ => none }
def MovesMayWrongFalsely : Prop := movesMayRow.holds Try.pinned (OpenSpec.ofChange movesMayWrong)

/-- 'bonsailaw13.MovesOrder': WHATEVER THE INPUT: true; the input reads as it did. -/
def movesOrderSpec : ChangeSpec := { name := "movesOrder", fn := fun _ => fun
  | [d1, d2] => { results := [.lit (.bool true)], args := [d1, d2] }
  | _ => none }
def movesOrderRow : OpenClaim := { program := "ytihaiabkjmmmoaa", sum := "80cbbe56f6f7a10525df6610d031324fb336e56872aeed72cf1af43d125be55b", func := "bonsai/bonsailaw13.MovesOrder", spec := "movesOrder", inPlace := ["math.Float64bits", "math.Float64frombits"], unfollowed := true, recurses := true, apart := false }
def MovesOrderSaid : Prop := movesOrderRow.holds Try.pinned (OpenSpec.ofChange movesOrderSpec)

/-- ITS FALSE NEIGHBOUR: 'it returns false'. Refute it at one input. -/
def movesOrderWrong : ChangeSpec := { name := "movesOrder", fn := fun _ => fun
  | [d1, d2] => { results := [.lit (.bool false)], args := [d1, d2] }
  | _ => none }
def MovesOrderWrongFalsely : Prop := movesOrderRow.holds Try.pinned (OpenSpec.ofChange movesOrderWrong)

/-- 'bonsailaw13.MovesSince': WHATEVER THE INPUT: true; the input reads as it did. -/
def movesSinceSpec : ChangeSpec := { name := "movesSince", fn := fun _ => fun
  | [d1, d2] => { results := [.lit (.bool true)], args := [d1, d2] }
  | _ => none }
def movesSinceRow : OpenClaim := { program := "ytihaiabkjmmmoaa", sum := "80cbbe56f6f7a10525df6610d031324fb336e56872aeed72cf1af43d125be55b", func := "bonsai/bonsailaw13.MovesSince", spec := "movesSince", inPlace := ["math.Float64bits", "math.Float64frombits"], unfollowed := true, recurses := true, apart := false }
def MovesSinceSaid : Prop := movesSinceRow.holds Try.pinned (OpenSpec.ofChange movesSinceSpec)

/-- ITS FALSE NEIGHBOUR: 'it returns false'. Refute it at one input. -/
def movesSinceWrong : ChangeSpec := { name := "movesSince", fn := fun _ => fun
  | [d1, d2] => { results := [.lit (.bool false)], args := [d1, d2] }
  | _ => none }
def MovesSinceWrongFalsely : Prop := movesSinceRow.holds Try.pinned (OpenSpec.ofChange movesSinceWrong)

/-- 'bonsailaw13.MovesUnion': WHATEVER THE INPUT: true; the input reads as it did. -/
def movesUnionSpec : ChangeSpec := { name := "movesUnion", fn := fun _ => fun
  | [d1, d2, d3] => { results := [.lit (.bool true)], args := [d1, d2, d3] }
  | _ => none }
def movesUnionRow : OpenClaim := { program := "ytihaiabkjmmmoaa", sum := "80cbbe56f6f7a10525df6610d031324fb336e56872aeed72cf1af43d125be55b", func := "bonsai/bonsailaw13.MovesUnion", spec := "movesUnion", inPlace := ["math.Float64bits", "math.Float64frombits"], unfollowed := true, recurses := true, apart := false }
def MovesUnionSaid : Prop := movesUnionRow.holds Try.pinned (OpenSpec.ofChange movesUnionSpec)

/-- ITS FALSE NEIGHBOUR: 'it returns false'. Refute it at one input. -/
def movesUnionWrong : ChangeSpec := { name := "movesUnion", fn := fun _ => fun
  | [d1, d2, d3] => { results := [.lit (.bool false)], args := [d1, d2, d3] }
  | _ => none }
def MovesUnionWrongFalsely : Prop := movesUnionRow.holds Try.pinned (OpenSpec.ofChange movesUnionWrong)

/-- 'bonsailaw14.FoldDoes': WHATEVER THE INPUT: true; the input reads as it did. -/
def foldDoesSpec : ChangeSpec := { name := "foldDoes", fn := fun _ => fun
  | [d1, d2] => { results := [.lit (.bool true)], args := [d1, d2] }
  | _ => none }
def foldDoesRow : OpenClaim := { program := "ytihaiabkjmmmoaa", sum := "80cbbe56f6f7a10525df6610d031324fb336e56872aeed72cf1af43d125be55b", func := "bonsai/bonsailaw14.FoldDoes", spec := "foldDoes", unfollowed := true, recurses := true, apart := false }
def FoldDoesSaid : Prop := foldDoesRow.holds Try.pinned (OpenSpec.ofChange foldDoesSpec)

/-- ITS FALSE NEIGHBOUR: 'it returns false'. Refute it at one input. -/
def foldDoesWrong : ChangeSpec := { name := "foldDoes", fn := fun _ => fun
  | [d1, d2] => { results := [.lit (.bool false)], args := [d1, d2] }
  | _ => none }
def FoldDoesWrongFalsely : Prop := foldDoesRow.holds Try.pinned (OpenSpec.ofChange foldDoesWrong)

/-- 'bonsailaw14.FoldAll': WHATEVER THE INPUT: true; the input reads as it did. -/
def foldAllSpec : ChangeSpec := { name := "foldAll", fn := fun _ => fun
  | [d1, d2] => { results := [.lit (.bool true)], args := [d1, d2] }
  | _ => none }
def foldAllRow : OpenClaim := { program := "ytihaiabkjmmmoaa", sum := "80cbbe56f6f7a10525df6610d031324fb336e56872aeed72cf1af43d125be55b", func := "bonsai/bonsailaw14.FoldAll", spec := "foldAll", unfollowed := true, recurses := true, apart := false }
def FoldAllSaid : Prop := foldAllRow.holds Try.pinned (OpenSpec.ofChange foldAllSpec)

/-- ITS FALSE NEIGHBOUR: 'it returns false'. Refute it at one input. -/
def foldAllWrong : ChangeSpec := { name := "foldAll", fn := fun _ => fun
  | [d1, d2] => { results := [.lit (.bool false)], args := [d1, d2] }
  | _ => none }
def FoldAllWrongFalsely : Prop := foldAllRow.holds Try.pinned (OpenSpec.ofChange foldAllWrong)

/-- 'bonsailaw14.FoldTree': WHATEVER THE INPUT: true; the input reads as it did. -/
def foldTreeSpec : ChangeSpec := { name := "foldTree", fn := fun _ => fun
  | [d1, d2] => { results := [.lit (.bool true)], args := [d1, d2] }
  | _ => none }
def foldTreeRow : OpenClaim := { program := "ytihaiabkjmmmoaa", sum := "80cbbe56f6f7a10525df6610d031324fb336e56872aeed72cf1af43d125be55b", func := "bonsai/bonsailaw14.FoldTree", spec := "foldTree", unfollowed := true, recurses := true, apart := false }
def FoldTreeSaid : Prop := foldTreeRow.holds Try.pinned (OpenSpec.ofChange foldTreeSpec)

/-- ITS FALSE NEIGHBOUR: 'it returns false'. Refute it at one input. -/
def foldTreeWrong : ChangeSpec := { name := "foldTree", fn := fun _ => fun
  | [d1, d2] => { results := [.lit (.bool false)], args := [d1, d2] }
  | _ => none }
def FoldTreeWrongFalsely : Prop := foldTreeRow.holds Try.pinned (OpenSpec.ofChange foldTreeWrong)

/-- 'bonsailaw14.FoldParts': WHATEVER THE INPUT: true; the input reads as it did. -/
def foldPartsSpec : ChangeSpec := { name := "foldParts", fn := fun _ => fun
  | [d1, d2, d3] => { results := [.lit (.bool true)], args := [d1, d2, d3] }
  | _ => none }
def foldPartsRow : OpenClaim := { program := "ytihaiabkjmmmoaa", sum := "80cbbe56f6f7a10525df6610d031324fb336e56872aeed72cf1af43d125be55b", func := "bonsai/bonsailaw14.FoldParts", spec := "foldParts", unfollowed := true, recurses := true, apart := false }
def FoldPartsSaid : Prop := foldPartsRow.holds Try.pinned (OpenSpec.ofChange foldPartsSpec)

/-- ITS FALSE NEIGHBOUR: 'it returns false'. Refute it at one input. -/
def foldPartsWrong : ChangeSpec := { name := "foldParts", fn := fun _ => fun
  | [d1, d2, d3] => { results := [.lit (.bool false)], args := [d1, d2, d3] }
  | _ => none }
def FoldPartsWrongFalsely : Prop := foldPartsRow.holds Try.pinned (OpenSpec.ofChange foldPartsWrong)

/-- 'bonsailaw14.FoldOthers': WHATEVER THE INPUT: true; the input reads as it did. -/
def foldOthersSpec : ChangeSpec := { name := "foldOthers", fn := fun _ => fun
  | [d1, d2, d3] => { results := [.lit (.bool true)], args := [d1, d2, d3] }
  | _ => none }
def foldOthersRow : OpenClaim := { program := "ytihaiabkjmmmoaa", sum := "80cbbe56f6f7a10525df6610d031324fb336e56872aeed72cf1af43d125be55b", func := "bonsai/bonsailaw14.FoldOthers", spec := "foldOthers", unfollowed := true, recurses := true, apart := false }
def FoldOthersSaid : Prop := foldOthersRow.holds Try.pinned (OpenSpec.ofChange foldOthersSpec)

/-- ITS FALSE NEIGHBOUR: 'it returns false'. Refute it at one input. -/
def foldOthersWrong : ChangeSpec := { name := "foldOthers", fn := fun _ => fun
  | [d1, d2, d3] => { results := [.lit (.bool false)], args := [d1, d2, d3] }
  | _ => none }
def FoldOthersWrongFalsely : Prop := foldOthersRow.holds Try.pinned (OpenSpec.ofChange foldOthersWrong)

/- THE SECOND FORM. 'bulk': how many values and letters a reading holds, each counted each time it is reached (what is shared counts as often as it is met; a slice's spare places count too). A statement '..UptoSaid' is the law's where the arguments, and the package variables that the reading takes, are together of bulk at most 1048576: NARROWER than '..Said'. Prove '..Said' where nothing that the law and all that it calls make is longer than what came in: it says more and counts as full. Else prove '..UptoSaid'. A law counts once. -/
mutual
def uptoBulk {H : Type} : DataW H → Nat
  | .lit (.string bytes) => bytes.length + 1
  | .lit _ => 1
  | .nil => 1
  | .ptr d => uptoBulk d + 1
  | .slice elems spare => uptoBulkAll elems + uptoBulkAll spare + 1
  | .agg parts => uptoBulkAll parts + 1
  | .iface _ d => uptoBulk d + 1
  | .map entries => uptoBulkEntries entries + 1
  | .held _ => 1
def uptoBulkAll {H : Type} : List (DataW H) → Nat
  | [] => 0
  | d :: r => uptoBulk d + uptoBulkAll r
def uptoBulkEntries {H : Type} : List (Lit × DataW H) → Nat
  | [] => 0
  | x :: r => uptoBulkEntry x + uptoBulkEntries r
def uptoBulkEntry {H : Type} : Lit × DataW H → Nat
  | (.string bytes, d) => bytes.length + uptoBulk d + 1
  | (_, d) => uptoBulk d + 1
 end
def uptoSmall : (H : Type) → List (DataW H) → Bool := fun _ ds => decide (uptoBulkAll ds ≤ 1048576)
def OpenSpec.upto (s : _root_.Go.ChangeSpec) : _root_.Go.OpenSpec := { _root_.Go.OpenSpec.ofChange s with cond := some uptoSmall }

/-- 'bonsailaw13.MovesTells', WHERE WHAT IT READS IS OF BULK AT MOST 1048576: true; the input reads as it did. -/
def movesTellsUptoRow : OpenClaim := { program := "ytihaiabkjmmmoaa", sum := "80cbbe56f6f7a10525df6610d031324fb336e56872aeed72cf1af43d125be55b", func := "bonsai/bonsailaw13.MovesTells", spec := "movesTells", inPlace := ["math.Float64bits", "math.Float64frombits"], unfollowed := true, recurses := true, apart := false, narrowed := true }
def MovesTellsUptoSaid : Prop := movesTellsUptoRow.holds Try.pinned (OpenSpec.upto movesTellsSpec)

/-- 'bonsailaw13.MovesInserts', WHERE WHAT IT READS IS OF BULK AT MOST 1048576: true; the input reads as it did. -/
def movesInsertsUptoRow : OpenClaim := { program := "ytihaiabkjmmmoaa", sum := "80cbbe56f6f7a10525df6610d031324fb336e56872aeed72cf1af43d125be55b", func := "bonsai/bonsailaw13.MovesInserts", spec := "movesInserts", inPlace := ["math.Float64bits", "math.Float64frombits"], unfollowed := true, recurses := true, apart := false, narrowed := true }
def MovesInsertsUptoSaid : Prop := movesInsertsUptoRow.holds Try.pinned (OpenSpec.upto movesInsertsSpec)

/-- 'bonsailaw13.MovesMay', WHERE WHAT IT READS IS OF BULK AT MOST 1048576: true; the input reads as it did. -/
def movesMayUptoRow : OpenClaim := { program := "ytihaiabkjmmmoaa", sum := "80cbbe56f6f7a10525df6610d031324fb336e56872aeed72cf1af43d125be55b", func := "bonsai/bonsailaw13.MovesMay", spec := "movesMay", inPlace := ["math.Float64bits", "math.Float64frombits"], unfollowed := true, recurses := true, apart := false, narrowed := true }
def MovesMayUptoSaid : Prop := movesMayUptoRow.holds Try.pinned (OpenSpec.upto movesMaySpec)

/-- 'bonsailaw13.MovesOrder', WHERE WHAT IT READS IS OF BULK AT MOST 1048576: true; the input reads as it did. -/
def movesOrderUptoRow : OpenClaim := { program := "ytihaiabkjmmmoaa", sum := "80cbbe56f6f7a10525df6610d031324fb336e56872aeed72cf1af43d125be55b", func := "bonsai/bonsailaw13.MovesOrder", spec := "movesOrder", inPlace := ["math.Float64bits", "math.Float64frombits"], unfollowed := true, recurses := true, apart := false, narrowed := true }
def MovesOrderUptoSaid : Prop := movesOrderUptoRow.holds Try.pinned (OpenSpec.upto movesOrderSpec)

/-- 'bonsailaw13.MovesSince', WHERE WHAT IT READS IS OF BULK AT MOST 1048576: true; the input reads as it did. -/
def movesSinceUptoRow : OpenClaim := { program := "ytihaiabkjmmmoaa", sum := "80cbbe56f6f7a10525df6610d031324fb336e56872aeed72cf1af43d125be55b", func := "bonsai/bonsailaw13.MovesSince", spec := "movesSince", inPlace := ["math.Float64bits", "math.Float64frombits"], unfollowed := true, recurses := true, apart := false, narrowed := true }
def MovesSinceUptoSaid : Prop := movesSinceUptoRow.holds Try.pinned (OpenSpec.upto movesSinceSpec)

/-- 'bonsailaw13.MovesUnion', WHERE WHAT IT READS IS OF BULK AT MOST 1048576: true; the input reads as it did. -/
def movesUnionUptoRow : OpenClaim := { program := "ytihaiabkjmmmoaa", sum := "80cbbe56f6f7a10525df6610d031324fb336e56872aeed72cf1af43d125be55b", func := "bonsai/bonsailaw13.MovesUnion", spec := "movesUnion", inPlace := ["math.Float64bits", "math.Float64frombits"], unfollowed := true, recurses := true, apart := false, narrowed := true }
def MovesUnionUptoSaid : Prop := movesUnionUptoRow.holds Try.pinned (OpenSpec.upto movesUnionSpec)

/-- 'bonsailaw14.FoldDoes', WHERE WHAT IT READS IS OF BULK AT MOST 1048576: true; the input reads as it did. -/
def foldDoesUptoRow : OpenClaim := { program := "ytihaiabkjmmmoaa", sum := "80cbbe56f6f7a10525df6610d031324fb336e56872aeed72cf1af43d125be55b", func := "bonsai/bonsailaw14.FoldDoes", spec := "foldDoes", unfollowed := true, recurses := true, apart := false, narrowed := true }
def FoldDoesUptoSaid : Prop := foldDoesUptoRow.holds Try.pinned (OpenSpec.upto foldDoesSpec)

/-- 'bonsailaw14.FoldAll', WHERE WHAT IT READS IS OF BULK AT MOST 1048576: true; the input reads as it did. -/
def foldAllUptoRow : OpenClaim := { program := "ytihaiabkjmmmoaa", sum := "80cbbe56f6f7a10525df6610d031324fb336e56872aeed72cf1af43d125be55b", func := "bonsai/bonsailaw14.FoldAll", spec := "foldAll", unfollowed := true, recurses := true, apart := false, narrowed := true }
def FoldAllUptoSaid : Prop := foldAllUptoRow.holds Try.pinned (OpenSpec.upto foldAllSpec)

/-- 'bonsailaw14.FoldTree', WHERE WHAT IT READS IS OF BULK AT MOST 1048576: true; the input reads as it did. -/
def foldTreeUptoRow : OpenClaim := { program := "ytihaiabkjmmmoaa", sum := "80cbbe56f6f7a10525df6610d031324fb336e56872aeed72cf1af43d125be55b", func := "bonsai/bonsailaw14.FoldTree", spec := "foldTree", unfollowed := true, recurses := true, apart := false, narrowed := true }
def FoldTreeUptoSaid : Prop := foldTreeUptoRow.holds Try.pinned (OpenSpec.upto foldTreeSpec)

/-- 'bonsailaw14.FoldParts', WHERE WHAT IT READS IS OF BULK AT MOST 1048576: true; the input reads as it did. -/
def foldPartsUptoRow : OpenClaim := { program := "ytihaiabkjmmmoaa", sum := "80cbbe56f6f7a10525df6610d031324fb336e56872aeed72cf1af43d125be55b", func := "bonsai/bonsailaw14.FoldParts", spec := "foldParts", unfollowed := true, recurses := true, apart := false, narrowed := true }
def FoldPartsUptoSaid : Prop := foldPartsUptoRow.holds Try.pinned (OpenSpec.upto foldPartsSpec)

/-- 'bonsailaw14.FoldOthers', WHERE WHAT IT READS IS OF BULK AT MOST 1048576: true; the input reads as it did. -/
def foldOthersUptoRow : OpenClaim := { program := "ytihaiabkjmmmoaa", sum := "80cbbe56f6f7a10525df6610d031324fb336e56872aeed72cf1af43d125be55b", func := "bonsai/bonsailaw14.FoldOthers", spec := "foldOthers", unfollowed := true, recurses := true, apart := false, narrowed := true }
def FoldOthersUptoSaid : Prop := foldOthersUptoRow.holds Try.pinned (OpenSpec.upto foldOthersSpec)

end Rows
end Go.Proofs.Ytihaiabkjmmmoaa
