/-
  No cell of these rows narrows 'for every input' (looked for: loops, veiled, ifaces, maps, wideKeys, modest, calm, conditions, laid).
  DERIVED. THE GIVEN ROWS OF THIS SEAT. 4 by the template 'for every input the law returns true; each argument reads behind the call as it read before'; 0 by the template 'total and deterministic' (their statements: YtnaifabifemhiabGreatTotals.lean).
  GIVEN WITH THE SEED: the statements are not yours to turn. If you find one false, say at which input.
  Laid BY PROGRAM, IN A SANDBOX (cutbox-rows.mjs): the forced cells as the released guide's own fill.sh prints them over the translation dab6758d9817880c… (all of the seat's roots in one cut). By AI agents, Wed Nov 11 2026. No macro, syntax, notation, axiom, sorry.
-/
import Derived.Test.YtnaifabifemhiabGreatChecked
import GoSem.Claim
import GoSem.ClaimJoined
import GoSem.ClaimMapViews
import Derived.JoinedTies
import Derived.KernelRfl
namespace Go.Proofs.YtnaifabifemhiabGreat
/- THE CELL 'sum', in the pinned program and in every row, IS THE sha256 OF THE DUMP (.gsa) THAT YtnaifabifemhiabGreatProg.lean LOADS. Nothing in Lean hashes anything: it is a label: what it is worth is what the hold of that sum in a sandbox is worth. -/
noncomputable def Tryz.pinned : Pinned := { name := "ytnaifabifemhiabgreat", sum := "dab6758d9817880caa68adc2e7ea9b37a96995043c75daf19c494fe1581efdc4", checked := Tryz.checked }
namespace Rows
def none {H : Type} : Left H := { results := [], args := [] }

/-- 'riddlelaw14.MeanLoads': WHATEVER THE INPUT: true; the input reads as it did. -/
def meanLoadsSpec : ChangeSpec := { name := "meanLoads", fn := fun _ => fun
  | [d1, d2, d3, d4] => { results := [.lit (.bool true)], args := [d1, d2, d3, d4] }
  | _ => none }
def meanLoadsRow : OpenClaim := { program := "ytnaifabifemhiabgreat", sum := "dab6758d9817880caa68adc2e7ea9b37a96995043c75daf19c494fe1581efdc4", func := "riddle/riddlelaw14.MeanLoads", spec := "meanLoads", unfollowed := true, recurses := true, apart := false }
def MeanLoadsSaid : Prop := meanLoadsRow.holds Tryz.pinned (OpenSpec.ofChange meanLoadsSpec)

/-- ITS FALSE NEIGHBOUR: 'it returns false'. Refute it at one input. -/
def meanLoadsWrong : ChangeSpec := { name := "meanLoads", fn := fun _ => fun
  | [d1, d2, d3, d4] => { results := [.lit (.bool false)], args := [d1, d2, d3, d4] }
  | _ => none }
def MeanLoadsWrongFalsely : Prop := meanLoadsRow.holds Tryz.pinned (OpenSpec.ofChange meanLoadsWrong)

/-- 'riddlelaw14.MeanNumbers': WHATEVER THE INPUT: true; the input reads as it did. -/
def meanNumbersSpec : ChangeSpec := { name := "meanNumbers", fn := fun _ => fun
  | [d1, d2, d3] => { results := [.lit (.bool true)], args := [d1, d2, d3] }
  | _ => none }
def meanNumbersRow : OpenClaim := { program := "ytnaifabifemhiabgreat", sum := "dab6758d9817880caa68adc2e7ea9b37a96995043c75daf19c494fe1581efdc4", func := "riddle/riddlelaw14.MeanNumbers", spec := "meanNumbers", unfollowed := true, recurses := true, apart := false }
def MeanNumbersSaid : Prop := meanNumbersRow.holds Tryz.pinned (OpenSpec.ofChange meanNumbersSpec)

/-- ITS FALSE NEIGHBOUR: 'it returns false'. Refute it at one input. -/
def meanNumbersWrong : ChangeSpec := { name := "meanNumbers", fn := fun _ => fun
  | [d1, d2, d3] => { results := [.lit (.bool false)], args := [d1, d2, d3] }
  | _ => none }
def MeanNumbersWrongFalsely : Prop := meanNumbersRow.holds Tryz.pinned (OpenSpec.ofChange meanNumbersWrong)

/-- 'riddlelaw14.MeanSides': WHATEVER THE INPUT: true; the input reads as it did. -/
def meanSidesSpec : ChangeSpec := { name := "meanSides", fn := fun _ => fun
  | [d1, d2, d3, d4] => { results := [.lit (.bool true)], args := [d1, d2, d3, d4] }
  | _ => none }
def meanSidesRow : OpenClaim := { program := "ytnaifabifemhiabgreat", sum := "dab6758d9817880caa68adc2e7ea9b37a96995043c75daf19c494fe1581efdc4", func := "riddle/riddlelaw14.MeanSides", spec := "meanSides", unfollowed := true, recurses := true, apart := false }
def MeanSidesSaid : Prop := meanSidesRow.holds Tryz.pinned (OpenSpec.ofChange meanSidesSpec)

/-- ITS FALSE NEIGHBOUR: 'it returns false'. Refute it at one input. -/
def meanSidesWrong : ChangeSpec := { name := "meanSides", fn := fun _ => fun
  | [d1, d2, d3, d4] => { results := [.lit (.bool false)], args := [d1, d2, d3, d4] }
  | _ => none }
def MeanSidesWrongFalsely : Prop := meanSidesRow.holds Tryz.pinned (OpenSpec.ofChange meanSidesWrong)

/-- 'riddlelaw14.MeanWays': WHATEVER THE INPUT: true; the input reads as it did. -/
def meanWaysSpec : ChangeSpec := { name := "meanWays", fn := fun _ => fun
  | [d1, d2, d3] => { results := [.lit (.bool true)], args := [d1, d2, d3] }
  | _ => none }
def meanWaysRow : OpenClaim := { program := "ytnaifabifemhiabgreat", sum := "dab6758d9817880caa68adc2e7ea9b37a96995043c75daf19c494fe1581efdc4", func := "riddle/riddlelaw14.MeanWays", spec := "meanWays", unfollowed := true, recurses := true, apart := false }
def MeanWaysSaid : Prop := meanWaysRow.holds Tryz.pinned (OpenSpec.ofChange meanWaysSpec)

/-- ITS FALSE NEIGHBOUR: 'it returns false'. Refute it at one input. -/
def meanWaysWrong : ChangeSpec := { name := "meanWays", fn := fun _ => fun
  | [d1, d2, d3] => { results := [.lit (.bool false)], args := [d1, d2, d3] }
  | _ => none }
def MeanWaysWrongFalsely : Prop := meanWaysRow.holds Tryz.pinned (OpenSpec.ofChange meanWaysWrong)

/- THE SECOND FORM. 'bulk': how many values and letters a reading holds, each counted each time it is reached (what is shared counts as often as it is met; a slice's spare places count too). A statement '..UptoSaid' is the law's where the arguments, and the package variables that the reading takes, are together of bulk at most 1048576: NARROWER than '..Said'. Prove '..Said' where nothing that the law and all that it calls make is longer than what came in: it says more and counts as full. Else prove '..UptoSaid'. A law counts once. -/
mutual
def uptoBulk {H : Type} : DataW H → Nat
  | .lit (.string bytes) => bytes.length + 1
  | .lit _ => 1
  | .nil => 1
  | .ptr d => uptoBulk d + 1
  | .slice elems spare => uptoBulkAll elems + uptoBulkAll spare + 1
  | .agg parts => uptoBulkAll parts + 1
  | .iface _ d => uptoBulk d + 1
  | .map entries => uptoBulkEntries entries + 1
  | .held _ => 1
def uptoBulkAll {H : Type} : List (DataW H) → Nat
  | [] => 0
  | d :: r => uptoBulk d + uptoBulkAll r
def uptoBulkEntries {H : Type} : List (Lit × DataW H) → Nat
  | [] => 0
  | x :: r => uptoBulkEntry x + uptoBulkEntries r
def uptoBulkEntry {H : Type} : Lit × DataW H → Nat
  | (.string bytes, d) => bytes.length + uptoBulk d + 1
  | (_, d) => uptoBulk d + 1
 end
def uptoSmall : (H : Type) → List (DataW H) → Bool := fun _ ds => decide (uptoBulkAll ds ≤ 1048576)
def OpenSpec.upto (s : _root_.Go.ChangeSpec) : _root_.Go.OpenSpec := { _root_.Go.OpenSpec.ofChange s with cond := some uptoSmall }

/-- 'riddlelaw14.MeanLoads', WHERE WHAT IT READS IS OF BULK AT MOST 1048576: true; the input reads as it did. -/
def meanLoadsUptoRow : OpenClaim := { program := "ytnaifabifemhiabgreat", sum := "dab6758d9817880caa68adc2e7ea9b37a96995043c75daf19c494fe1581efdc4", func := "riddle/riddlelaw14.MeanLoads", spec := "meanLoads", unfollowed := true, recurses := true, apart := false, narrowed := true }
def MeanLoadsUptoSaid : Prop := meanLoadsUptoRow.holds Tryz.pinned (OpenSpec.upto meanLoadsSpec)

/-- 'riddlelaw14.MeanNumbers', WHERE WHAT IT READS IS OF BULK AT MOST 1048576: true; the input reads as it did. -/
def meanNumbersUptoRow : OpenClaim := { program := "ytnaifabifemhiabgreat", sum := "dab6758d9817880caa68adc2e7ea9b37a96995043c75daf19c494fe1581efdc4", func := "riddle/riddlelaw14.MeanNumbers", spec := "meanNumbers", unfollowed := true, recurses := true, apart := false, narrowed := true }
def MeanNumbersUptoSaid : Prop := meanNumbersUptoRow.holds Tryz.pinned (OpenSpec.upto meanNumbersSpec)

/-- 'riddlelaw14.MeanSides', WHERE WHAT IT READS IS OF BULK AT MOST 1048576: true; the input reads as it did. -/
def meanSidesUptoRow : OpenClaim := { program := "ytnaifabifemhiabgreat", sum := "dab6758d9817880caa68adc2e7ea9b37a96995043c75daf19c494fe1581efdc4", func := "riddle/riddlelaw14.MeanSides", spec := "meanSides", unfollowed := true, recurses := true, apart := false, narrowed := true }
def MeanSidesUptoSaid : Prop := meanSidesUptoRow.holds Tryz.pinned (OpenSpec.upto meanSidesSpec)

/-- 'riddlelaw14.MeanWays', WHERE WHAT IT READS IS OF BULK AT MOST 1048576: true; the input reads as it did. -/
def meanWaysUptoRow : OpenClaim := { program := "ytnaifabifemhiabgreat", sum := "dab6758d9817880caa68adc2e7ea9b37a96995043c75daf19c494fe1581efdc4", func := "riddle/riddlelaw14.MeanWays", spec := "meanWays", unfollowed := true, recurses := true, apart := false, narrowed := true }
def MeanWaysUptoSaid : Prop := meanWaysUptoRow.holds Tryz.pinned (OpenSpec.upto meanWaysSpec)

end Rows
end Go.Proofs.YtnaifabifemhiabGreat
