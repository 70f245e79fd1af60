/-
  No cell of these rows narrows 'for every input' (looked for: loops, veiled, ifaces, maps, wideKeys, modest, calm, conditions, laid).
  DERIVED. THE GIVEN ROWS OF THIS SEAT. 14 by the template 'for every input the law returns true; each argument reads behind the call as it read before'; 0 by the template 'total and deterministic' (their statements: YtnkckoilhhbllaaTotals.lean).
  GIVEN WITH THE SEED: the statements are not yours to turn. If you find one false, say at which input.
  Laid BY PROGRAM, IN A SANDBOX (cutbox-rows.mjs): the forced cells as the released guide's own fill.sh prints them over the translation fd6dd0f257f5d614… (all of the seat's roots in one cut). By AI agents, Wed Nov 11 2026. No macro, syntax, notation, axiom, sorry.
-/
import Derived.Test.YtnkckoilhhbllaaChecked
import GoSem.Claim
import GoSem.ClaimJoined
import GoSem.ClaimMapViews
import Derived.JoinedTies
import Derived.KernelRfl
namespace Go.Proofs.Ytnkckoilhhbllaa
/- THE CELL 'sum', in the pinned program and in every row, IS THE sha256 OF THE DUMP (.gsa) THAT YtnkckoilhhbllaaProg.lean LOADS. Nothing in Lean hashes anything: it is a label: what it is worth is what the hold of that sum in a sandbox is worth. -/
noncomputable def Try.pinned : Pinned := { name := "ytnkckoilhhbllaa", sum := "fd6dd0f257f5d61473aff6637f4c28ca84f7d435c727efba74d6789e5e3d9ca2", checked := Try.checked }
namespace Rows
def none {H : Type} : Left H := { results := [], args := [] }

/-- 'bonsailaw14.FoldDoes': WHATEVER THE INPUT: true; the input reads as it did. -/
def foldDoesSpec : ChangeSpec := { name := "foldDoes", fn := fun _ => fun
  | [d1, d2] => { results := [.lit (.bool true)], args := [d1, d2] }
  | _ => none }
def foldDoesRow : OpenClaim := { program := "ytnkckoilhhbllaa", sum := "fd6dd0f257f5d61473aff6637f4c28ca84f7d435c727efba74d6789e5e3d9ca2", func := "bonsai/bonsailaw14.FoldDoes", spec := "foldDoes", unfollowed := true, recurses := true, apart := false }
def FoldDoesSaid : Prop := foldDoesRow.holds Try.pinned (OpenSpec.ofChange foldDoesSpec)

/-- ITS FALSE NEIGHBOUR: 'it returns false'. Refute it at one input. -/
def foldDoesWrong : ChangeSpec := { name := "foldDoes", fn := fun _ => fun
  | [d1, d2] => { results := [.lit (.bool false)], args := [d1, d2] }
  | _ => none }
def FoldDoesWrongFalsely : Prop := foldDoesRow.holds Try.pinned (OpenSpec.ofChange foldDoesWrong)

/-- 'bonsailaw14.FoldAll': WHATEVER THE INPUT: true; the input reads as it did. -/
def foldAllSpec : ChangeSpec := { name := "foldAll", fn := fun _ => fun
  | [d1, d2] => { results := [.lit (.bool true)], args := [d1, d2] }
  | _ => none }
def foldAllRow : OpenClaim := { program := "ytnkckoilhhbllaa", sum := "fd6dd0f257f5d61473aff6637f4c28ca84f7d435c727efba74d6789e5e3d9ca2", func := "bonsai/bonsailaw14.FoldAll", spec := "foldAll", unfollowed := true, recurses := true, apart := false }
def FoldAllSaid : Prop := foldAllRow.holds Try.pinned (OpenSpec.ofChange foldAllSpec)

/-- ITS FALSE NEIGHBOUR: 'it returns false'. Refute it at one input. -/
def foldAllWrong : ChangeSpec := { name := "foldAll", fn := fun _ => fun
  | [d1, d2] => { results := [.lit (.bool false)], args := [d1, d2] }
  | _ => none }
def FoldAllWrongFalsely : Prop := foldAllRow.holds Try.pinned (OpenSpec.ofChange foldAllWrong)

/-- 'bonsailaw14.FoldTree': WHATEVER THE INPUT: true; the input reads as it did. -/
def foldTreeSpec : ChangeSpec := { name := "foldTree", fn := fun _ => fun
  | [d1, d2] => { results := [.lit (.bool true)], args := [d1, d2] }
  | _ => none }
def foldTreeRow : OpenClaim := { program := "ytnkckoilhhbllaa", sum := "fd6dd0f257f5d61473aff6637f4c28ca84f7d435c727efba74d6789e5e3d9ca2", func := "bonsai/bonsailaw14.FoldTree", spec := "foldTree", unfollowed := true, recurses := true, apart := false }
def FoldTreeSaid : Prop := foldTreeRow.holds Try.pinned (OpenSpec.ofChange foldTreeSpec)

/-- ITS FALSE NEIGHBOUR: 'it returns false'. Refute it at one input. -/
def foldTreeWrong : ChangeSpec := { name := "foldTree", fn := fun _ => fun
  | [d1, d2] => { results := [.lit (.bool false)], args := [d1, d2] }
  | _ => none }
def FoldTreeWrongFalsely : Prop := foldTreeRow.holds Try.pinned (OpenSpec.ofChange foldTreeWrong)

/-- 'bonsailaw14.FoldParts': WHATEVER THE INPUT: true; the input reads as it did. -/
def foldPartsSpec : ChangeSpec := { name := "foldParts", fn := fun _ => fun
  | [d1, d2, d3] => { results := [.lit (.bool true)], args := [d1, d2, d3] }
  | _ => none }
def foldPartsRow : OpenClaim := { program := "ytnkckoilhhbllaa", sum := "fd6dd0f257f5d61473aff6637f4c28ca84f7d435c727efba74d6789e5e3d9ca2", func := "bonsai/bonsailaw14.FoldParts", spec := "foldParts", unfollowed := true, recurses := true, apart := false }
def FoldPartsSaid : Prop := foldPartsRow.holds Try.pinned (OpenSpec.ofChange foldPartsSpec)

/-- ITS FALSE NEIGHBOUR: 'it returns false'. Refute it at one input. -/
def foldPartsWrong : ChangeSpec := { name := "foldParts", fn := fun _ => fun
  | [d1, d2, d3] => { results := [.lit (.bool false)], args := [d1, d2, d3] }
  | _ => none }
def FoldPartsWrongFalsely : Prop := foldPartsRow.holds Try.pinned (OpenSpec.ofChange foldPartsWrong)

/-- 'bonsailaw15.UndoDoes': WHATEVER THE INPUT: true; the input reads as it did. -/
def undoDoesSpec : ChangeSpec := { name := "undoDoes", fn := fun _ => fun
  | [d1, d2, d3] => { results := [.lit (.bool true)], args := [d1, d2, d3] }
  | _ => none }
def undoDoesRow : OpenClaim := { program := "ytnkckoilhhbllaa", sum := "fd6dd0f257f5d61473aff6637f4c28ca84f7d435c727efba74d6789e5e3d9ca2", func := "bonsai/bonsailaw15.UndoDoes", spec := "undoDoes", inPlace := ["math.Float64bits", "math.Float64frombits"], unfollowed := true, recurses := true, apart := false }
def UndoDoesSaid : Prop := undoDoesRow.holds Try.pinned (OpenSpec.ofChange undoDoesSpec)

/-- ITS FALSE NEIGHBOUR: 'it returns false'. Refute it at one input. -/
def undoDoesWrong : ChangeSpec := { name := "undoDoes", fn := fun _ => fun
  | [d1, d2, d3] => { results := [.lit (.bool false)], args := [d1, d2, d3] }
  | _ => none }
def UndoDoesWrongFalsely : Prop := undoDoesRow.holds Try.pinned (OpenSpec.ofChange undoDoesWrong)

/-- 'bonsailaw15.UndoRuns': WHATEVER THE INPUT: true; the input reads as it did. -/
def undoRunsSpec : ChangeSpec := { name := "undoRuns", fn := fun _ => fun
  | [d1, d2, d3] => { results := [.lit (.bool true)], args := [d1, d2, d3] }
  | _ => none }
def undoRunsRow : OpenClaim := { program := "ytnkckoilhhbllaa", sum := "fd6dd0f257f5d61473aff6637f4c28ca84f7d435c727efba74d6789e5e3d9ca2", func := "bonsai/bonsailaw15.UndoRuns", spec := "undoRuns", inPlace := ["math.Float64bits", "math.Float64frombits"], unfollowed := true, recurses := true, apart := false }
def UndoRunsSaid : Prop := undoRunsRow.holds Try.pinned (OpenSpec.ofChange undoRunsSpec)

/-- ITS FALSE NEIGHBOUR: 'it returns false'. Refute it at one input. -/
def undoRunsWrong : ChangeSpec := { name := "undoRuns", fn := fun _ => fun
  | [d1, d2, d3] => { results := [.lit (.bool false)], args := [d1, d2, d3] }
  | _ => none }
def UndoRunsWrongFalsely : Prop := undoRunsRow.holds Try.pinned (OpenSpec.ofChange undoRunsWrong)

/-- 'bonsailaw15.UndoBack': WHATEVER THE INPUT: true; the input reads as it did. -/
def undoBackSpec : ChangeSpec := { name := "undoBack", fn := fun _ => fun
  | [d1, d2, d3] => { results := [.lit (.bool true)], args := [d1, d2, d3] }
  | _ => none }
def undoBackRow : OpenClaim := { program := "ytnkckoilhhbllaa", sum := "fd6dd0f257f5d61473aff6637f4c28ca84f7d435c727efba74d6789e5e3d9ca2", func := "bonsai/bonsailaw15.UndoBack", spec := "undoBack", inPlace := ["math.Float64bits", "math.Float64frombits"], unfollowed := true, recurses := true, apart := false }
def UndoBackSaid : Prop := undoBackRow.holds Try.pinned (OpenSpec.ofChange undoBackSpec)

/-- ITS FALSE NEIGHBOUR: 'it returns false'. Refute it at one input. -/
def undoBackWrong : ChangeSpec := { name := "undoBack", fn := fun _ => fun
  | [d1, d2, d3] => { results := [.lit (.bool false)], args := [d1, d2, d3] }
  | _ => none }
def UndoBackWrongFalsely : Prop := undoBackRow.holds Try.pinned (OpenSpec.ofChange undoBackWrong)

/-- 'bonsailaw15.UndoSteps': WHATEVER THE INPUT: true; the input reads as it did. -/
def undoStepsSpec : ChangeSpec := { name := "undoSteps", fn := fun _ => fun
  | [d1, d2] => { results := [.lit (.bool true)], args := [d1, d2] }
  | _ => none }
def undoStepsRow : OpenClaim := { program := "ytnkckoilhhbllaa", sum := "fd6dd0f257f5d61473aff6637f4c28ca84f7d435c727efba74d6789e5e3d9ca2", func := "bonsai/bonsailaw15.UndoSteps", spec := "undoSteps", inPlace := ["math.Float64bits", "math.Float64frombits"], unfollowed := true, recurses := true, apart := false }
def UndoStepsSaid : Prop := undoStepsRow.holds Try.pinned (OpenSpec.ofChange undoStepsSpec)

/-- ITS FALSE NEIGHBOUR: 'it returns false'. Refute it at one input. -/
def undoStepsWrong : ChangeSpec := { name := "undoSteps", fn := fun _ => fun
  | [d1, d2] => { results := [.lit (.bool false)], args := [d1, d2] }
  | _ => none }
def UndoStepsWrongFalsely : Prop := undoStepsRow.holds Try.pinned (OpenSpec.ofChange undoStepsWrong)

/-- 'bonsailaw15.UndoMiddle': WHATEVER THE INPUT: true; the input reads as it did. -/
def undoMiddleSpec : ChangeSpec := { name := "undoMiddle", fn := fun _ => fun
  | [d1, d2, d3] => { results := [.lit (.bool true)], args := [d1, d2, d3] }
  | _ => none }
def undoMiddleRow : OpenClaim := { program := "ytnkckoilhhbllaa", sum := "fd6dd0f257f5d61473aff6637f4c28ca84f7d435c727efba74d6789e5e3d9ca2", func := "bonsai/bonsailaw15.UndoMiddle", spec := "undoMiddle", inPlace := ["math.Float64bits", "math.Float64frombits"], unfollowed := true, recurses := true, apart := false }
def UndoMiddleSaid : Prop := undoMiddleRow.holds Try.pinned (OpenSpec.ofChange undoMiddleSpec)

/-- ITS FALSE NEIGHBOUR: 'it returns false'. Refute it at one input. -/
def undoMiddleWrong : ChangeSpec := { name := "undoMiddle", fn := fun _ => fun
  | [d1, d2, d3] => { results := [.lit (.bool false)], args := [d1, d2, d3] }
  | _ => none }
def UndoMiddleWrongFalsely : Prop := undoMiddleRow.holds Try.pinned (OpenSpec.ofChange undoMiddleWrong)

/-- 'bonsailaw16.ReplayScripts': WHATEVER THE INPUT: true; the input reads as it did. -/
def replayScriptsSpec : ChangeSpec := { name := "replayScripts", fn := fun _ => fun
  | [d1, d2] => { results := [.lit (.bool true)], args := [d1, d2] }
  | _ => none }
def replayScriptsRow : OpenClaim := { program := "ytnkckoilhhbllaa", sum := "fd6dd0f257f5d61473aff6637f4c28ca84f7d435c727efba74d6789e5e3d9ca2", func := "bonsai/bonsailaw16.ReplayScripts", spec := "replayScripts", unfollowed := true, recurses := true, apart := false }
def ReplayScriptsSaid : Prop := replayScriptsRow.holds Try.pinned (OpenSpec.ofChange replayScriptsSpec)

/-- ITS FALSE NEIGHBOUR: 'it returns false'. Refute it at one input. -/
def replayScriptsWrong : ChangeSpec := { name := "replayScripts", fn := fun _ => fun
  | [d1, d2] => { results := [.lit (.bool false)], args := [d1, d2] }
  | _ => none }
def ReplayScriptsWrongFalsely : Prop := replayScriptsRow.holds Try.pinned (OpenSpec.ofChange replayScriptsWrong)

/-- 'bonsailaw16.ReplayOrder': WHATEVER THE INPUT: true; the input reads as it did. -/
def replayOrderSpec : ChangeSpec := { name := "replayOrder", fn := fun _ => fun
  | [d1, d2, d3] => { results := [.lit (.bool true)], args := [d1, d2, d3] }
  | _ => none }
def replayOrderRow : OpenClaim := { program := "ytnkckoilhhbllaa", sum := "fd6dd0f257f5d61473aff6637f4c28ca84f7d435c727efba74d6789e5e3d9ca2", func := "bonsai/bonsailaw16.ReplayOrder", spec := "replayOrder", unfollowed := true, recurses := true, apart := false }
def ReplayOrderSaid : Prop := replayOrderRow.holds Try.pinned (OpenSpec.ofChange replayOrderSpec)

/-- ITS FALSE NEIGHBOUR: 'it returns false'. Refute it at one input. -/
def replayOrderWrong : ChangeSpec := { name := "replayOrder", fn := fun _ => fun
  | [d1, d2, d3] => { results := [.lit (.bool false)], args := [d1, d2, d3] }
  | _ => none }
def ReplayOrderWrongFalsely : Prop := replayOrderRow.holds Try.pinned (OpenSpec.ofChange replayOrderWrong)

/-- 'bonsailaw16.ReplayTells': WHATEVER THE INPUT: true; the input reads as it did. -/
def replayTellsSpec : ChangeSpec := { name := "replayTells", fn := fun _ => fun
  | [d1, d2, d3] => { results := [.lit (.bool true)], args := [d1, d2, d3] }
  | _ => none }
def replayTellsRow : OpenClaim := { program := "ytnkckoilhhbllaa", sum := "fd6dd0f257f5d61473aff6637f4c28ca84f7d435c727efba74d6789e5e3d9ca2", func := "bonsai/bonsailaw16.ReplayTells", spec := "replayTells", unfollowed := true, recurses := true, apart := false }
def ReplayTellsSaid : Prop := replayTellsRow.holds Try.pinned (OpenSpec.ofChange replayTellsSpec)

/-- ITS FALSE NEIGHBOUR: 'it returns false'. Refute it at one input. -/
def replayTellsWrong : ChangeSpec := { name := "replayTells", fn := fun _ => fun
  | [d1, d2, d3] => { results := [.lit (.bool false)], args := [d1, d2, d3] }
  | _ => none }
def ReplayTellsWrongFalsely : Prop := replayTellsRow.holds Try.pinned (OpenSpec.ofChange replayTellsWrong)

/-- 'bonsailaw16.ReplayNil': WHATEVER THE INPUT: true; the input reads as it did. -/
def replayNilSpec : ChangeSpec := { name := "replayNil", fn := fun _ => fun
  | [d] => { results := [.lit (.bool true)], args := [d] }
  | _ => none }
def replayNilRow : OpenClaim := { program := "ytnkckoilhhbllaa", sum := "fd6dd0f257f5d61473aff6637f4c28ca84f7d435c727efba74d6789e5e3d9ca2", func := "bonsai/bonsailaw16.ReplayNil", spec := "replayNil", unfollowed := true, recurses := true, apart := false }
def ReplayNilSaid : Prop := replayNilRow.holds Try.pinned (OpenSpec.ofChange replayNilSpec)

/-- ITS FALSE NEIGHBOUR: 'it returns false'. Refute it at one input. -/
def replayNilWrong : ChangeSpec := { name := "replayNil", fn := fun _ => fun
  | [d] => { results := [.lit (.bool false)], args := [d] }
  | _ => none }
def ReplayNilWrongFalsely : Prop := replayNilRow.holds Try.pinned (OpenSpec.ofChange replayNilWrong)

/-- 'bonsailaw16.ReplayParts': WHATEVER THE INPUT: true; the input reads as it did. -/
def replayPartsSpec : ChangeSpec := { name := "replayParts", fn := fun _ => fun
  | [d1, d2, d3] => { results := [.lit (.bool true)], args := [d1, d2, d3] }
  | _ => none }
def replayPartsRow : OpenClaim := { program := "ytnkckoilhhbllaa", sum := "fd6dd0f257f5d61473aff6637f4c28ca84f7d435c727efba74d6789e5e3d9ca2", func := "bonsai/bonsailaw16.ReplayParts", spec := "replayParts", unfollowed := true, recurses := true, apart := false }
def ReplayPartsSaid : Prop := replayPartsRow.holds Try.pinned (OpenSpec.ofChange replayPartsSpec)

/-- ITS FALSE NEIGHBOUR: 'it returns false'. Refute it at one input. -/
def replayPartsWrong : ChangeSpec := { name := "replayParts", fn := fun _ => fun
  | [d1, d2, d3] => { results := [.lit (.bool false)], args := [d1, d2, d3] }
  | _ => none }
def ReplayPartsWrongFalsely : Prop := replayPartsRow.holds Try.pinned (OpenSpec.ofChange replayPartsWrong)

/- THE SECOND FORM. 'bulk': how many values and letters a reading holds, each counted each time it is reached (what is shared counts as often as it is met; a slice's spare places count too). A statement '..UptoSaid' is the law's where the arguments, and the package variables that the reading takes, are together of bulk at most 1048576: NARROWER than '..Said'. Prove '..Said' where nothing that the law and all that it calls make is longer than what came in: it says more and counts as full. Else prove '..UptoSaid'. A law counts once. -/
mutual
def uptoBulk {H : Type} : DataW H → Nat
  | .lit (.string bytes) => bytes.length + 1
  | .lit _ => 1
  | .nil => 1
  | .ptr d => uptoBulk d + 1
  | .slice elems spare => uptoBulkAll elems + uptoBulkAll spare + 1
  | .agg parts => uptoBulkAll parts + 1
  | .iface _ d => uptoBulk d + 1
  | .map entries => uptoBulkEntries entries + 1
  | .held _ => 1
def uptoBulkAll {H : Type} : List (DataW H) → Nat
  | [] => 0
  | d :: r => uptoBulk d + uptoBulkAll r
def uptoBulkEntries {H : Type} : List (Lit × DataW H) → Nat
  | [] => 0
  | x :: r => uptoBulkEntry x + uptoBulkEntries r
def uptoBulkEntry {H : Type} : Lit × DataW H → Nat
  | (.string bytes, d) => bytes.length + uptoBulk d + 1
  | (_, d) => uptoBulk d + 1
 end
def uptoSmall : (H : Type) → List (DataW H) → Bool := fun _ ds => decide (uptoBulkAll ds ≤ 1048576)
def OpenSpec.upto (s : _root_.Go.ChangeSpec) : _root_.Go.OpenSpec := { _root_.Go.OpenSpec.ofChange s with cond := some uptoSmall }

/-- 'bonsailaw14.FoldDoes', WHERE WHAT IT READS IS OF BULK AT MOST 1048576: true; the input reads as it did. -/
def foldDoesUptoRow : OpenClaim := { program := "ytnkckoilhhbllaa", sum := "fd6dd0f257f5d61473aff6637f4c28ca84f7d435c727efba74d6789e5e3d9ca2", func := "bonsai/bonsailaw14.FoldDoes", spec := "foldDoes", unfollowed := true, recurses := true, apart := false, narrowed := true }
def FoldDoesUptoSaid : Prop := foldDoesUptoRow.holds Try.pinned (OpenSpec.upto foldDoesSpec)

/-- 'bonsailaw14.FoldAll', WHERE WHAT IT READS IS OF BULK AT MOST 1048576: true; the input reads as it did. -/
def foldAllUptoRow : OpenClaim := { program := "ytnkckoilhhbllaa", sum := "fd6dd0f257f5d61473aff6637f4c28ca84f7d435c727efba74d6789e5e3d9ca2", func := "bonsai/bonsailaw14.FoldAll", spec := "foldAll", unfollowed := true, recurses := true, apart := false, narrowed := true }
def FoldAllUptoSaid : Prop := foldAllUptoRow.holds Try.pinned (OpenSpec.upto foldAllSpec)

/-- 'bonsailaw14.FoldTree', WHERE WHAT IT READS IS OF BULK AT MOST 1048576: true; the input reads as it did. -/
def foldTreeUptoRow : OpenClaim := { program := "ytnkckoilhhbllaa", sum := "fd6dd0f257f5d61473aff6637f4c28ca84f7d435c727efba74d6789e5e3d9ca2", func := "bonsai/bonsailaw14.FoldTree", spec := "foldTree", unfollowed := true, recurses := true, apart := false, narrowed := true }
def FoldTreeUptoSaid : Prop := foldTreeUptoRow.holds Try.pinned (OpenSpec.upto foldTreeSpec)

/-- 'bonsailaw14.FoldParts', WHERE WHAT IT READS IS OF BULK AT MOST 1048576: true; the input reads as it did. -/
def foldPartsUptoRow : OpenClaim := { program := "ytnkckoilhhbllaa", sum := "fd6dd0f257f5d61473aff6637f4c28ca84f7d435c727efba74d6789e5e3d9ca2", func := "bonsai/bonsailaw14.FoldParts", spec := "foldParts", unfollowed := true, recurses := true, apart := false, narrowed := true }
def FoldPartsUptoSaid : Prop := foldPartsUptoRow.holds Try.pinned (OpenSpec.upto foldPartsSpec)

/-- 'bonsailaw15.UndoDoes', WHERE WHAT IT READS IS OF BULK AT MOST 1048576: true; the input reads as it did. -/
def undoDoesUptoRow : OpenClaim := { program := "ytnkckoilhhbllaa", sum := "fd6dd0f257f5d61473aff6637f4c28ca84f7d435c727efba74d6789e5e3d9ca2", func := "bonsai/bonsailaw15.UndoDoes", spec := "undoDoes", inPlace := ["math.Float64bits", "math.Float64frombits"], unfollowed := true, recurses := true, apart := false, narrowed := true }
def UndoDoesUptoSaid : Prop := undoDoesUptoRow.holds Try.pinned (OpenSpec.upto undoDoesSpec)

/-- 'bonsailaw15.UndoRuns', WHERE WHAT IT READS IS OF BULK AT MOST 1048576: true; the input reads as it did. -/
def undoRunsUptoRow : OpenClaim := { program := "ytnkckoilhhbllaa", sum := "fd6dd0f257f5d61473aff6637f4c28ca84f7d435c727efba74d6789e5e3d9ca2", func := "bonsai/bonsailaw15.UndoRuns", spec := "undoRuns", inPlace := ["math.Float64bits", "math.Float64frombits"], unfollowed := true, recurses := true, apart := false, narrowed := true }
def UndoRunsUptoSaid : Prop := undoRunsUptoRow.holds Try.pinned (OpenSpec.upto undoRunsSpec)

/-- 'bonsailaw15.UndoBack', WHERE WHAT IT READS IS OF BULK AT MOST 1048576: true; the input reads as it did. -/
def undoBackUptoRow : OpenClaim := { program := "ytnkckoilhhbllaa", sum := "fd6dd0f257f5d61473aff6637f4c28ca84f7d435c727efba74d6789e5e3d9ca2", func := "bonsai/bonsailaw15.UndoBack", spec := "undoBack", inPlace := ["math.Float64bits", "math.Float64frombits"], unfollowed := true, recurses := true, apart := false, narrowed := true }
def UndoBackUptoSaid : Prop := undoBackUptoRow.holds Try.pinned (OpenSpec.upto undoBackSpec)

/-- 'bonsailaw15.UndoSteps', WHERE WHAT IT READS IS OF BULK AT MOST 1048576: true; the input reads as it did. -/
def undoStepsUptoRow : OpenClaim := { program := "ytnkckoilhhbllaa", sum := "fd6dd0f257f5d61473aff6637f4c28ca84f7d435c727efba74d6789e5e3d9ca2", func := "bonsai/bonsailaw15.UndoSteps", spec := "undoSteps", inPlace := ["math.Float64bits", "math.Float64frombits"], unfollowed := true, recurses := true, apart := false, narrowed := true }
def UndoStepsUptoSaid : Prop := undoStepsUptoRow.holds Try.pinned (OpenSpec.upto undoStepsSpec)

/-- 'bonsailaw15.UndoMiddle', WHERE WHAT IT READS IS OF BULK AT MOST 1048576: true; the input reads as it did. -/
def undoMiddleUptoRow : OpenClaim := { program := "ytnkckoilhhbllaa", sum := "fd6dd0f257f5d61473aff6637f4c28ca84f7d435c727efba74d6789e5e3d9ca2", func := "bonsai/bonsailaw15.UndoMiddle", spec := "undoMiddle", inPlace := ["math.Float64bits", "math.Float64frombits"], unfollowed := true, recurses := true, apart := false, narrowed := true }
def UndoMiddleUptoSaid : Prop := undoMiddleUptoRow.holds Try.pinned (OpenSpec.upto undoMiddleSpec)

/-- 'bonsailaw16.ReplayScripts', WHERE WHAT IT READS IS OF BULK AT MOST 1048576: true; the input reads as it did. -/
def replayScriptsUptoRow : OpenClaim := { program := "ytnkckoilhhbllaa", sum := "fd6dd0f257f5d61473aff6637f4c28ca84f7d435c727efba74d6789e5e3d9ca2", func := "bonsai/bonsailaw16.ReplayScripts", spec := "replayScripts", unfollowed := true, recurses := true, apart := false, narrowed := true }
def ReplayScriptsUptoSaid : Prop := replayScriptsUptoRow.holds Try.pinned (OpenSpec.upto replayScriptsSpec)

/-- 'bonsailaw16.ReplayOrder', WHERE WHAT IT READS IS OF BULK AT MOST 1048576: true; the input reads as it did. -/
def replayOrderUptoRow : OpenClaim := { program := "ytnkckoilhhbllaa", sum := "fd6dd0f257f5d61473aff6637f4c28ca84f7d435c727efba74d6789e5e3d9ca2", func := "bonsai/bonsailaw16.ReplayOrder", spec := "replayOrder", unfollowed := true, recurses := true, apart := false, narrowed := true }
def ReplayOrderUptoSaid : Prop := replayOrderUptoRow.holds Try.pinned (OpenSpec.upto replayOrderSpec)

/-- 'bonsailaw16.ReplayTells', WHERE WHAT IT READS IS OF BULK AT MOST 1048576: true; the input reads as it did. -/
def replayTellsUptoRow : OpenClaim := { program := "ytnkckoilhhbllaa", sum := "fd6dd0f257f5d61473aff6637f4c28ca84f7d435c727efba74d6789e5e3d9ca2", func := "bonsai/bonsailaw16.ReplayTells", spec := "replayTells", unfollowed := true, recurses := true, apart := false, narrowed := true }
def ReplayTellsUptoSaid : Prop := replayTellsUptoRow.holds Try.pinned (OpenSpec.upto replayTellsSpec)

/-- 'bonsailaw16.ReplayNil', WHERE WHAT IT READS IS OF BULK AT MOST 1048576: true; the input reads as it did. -/
def replayNilUptoRow : OpenClaim := { program := "ytnkckoilhhbllaa", sum := "fd6dd0f257f5d61473aff6637f4c28ca84f7d435c727efba74d6789e5e3d9ca2", func := "bonsai/bonsailaw16.ReplayNil", spec := "replayNil", unfollowed := true, recurses := true, apart := false, narrowed := true }
def ReplayNilUptoSaid : Prop := replayNilUptoRow.holds Try.pinned (OpenSpec.upto replayNilSpec)

/-- 'bonsailaw16.ReplayParts', WHERE WHAT IT READS IS OF BULK AT MOST 1048576: true; the input reads as it did. -/
def replayPartsUptoRow : OpenClaim := { program := "ytnkckoilhhbllaa", sum := "fd6dd0f257f5d61473aff6637f4c28ca84f7d435c727efba74d6789e5e3d9ca2", func := "bonsai/bonsailaw16.ReplayParts", spec := "replayParts", unfollowed := true, recurses := true, apart := false, narrowed := true }
def ReplayPartsUptoSaid : Prop := replayPartsUptoRow.holds Try.pinned (OpenSpec.upto replayPartsSpec)

end Rows
end Go.Proofs.Ytnkckoilhhbllaa
