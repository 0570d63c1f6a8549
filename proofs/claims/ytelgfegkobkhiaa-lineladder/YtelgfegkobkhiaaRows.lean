/-
  No cell of these rows narrows 'for every input' (looked for: loops, veiled, ifaces, maps, wideKeys, modest, calm, conditions, laid).
  DERIVED. THE GIVEN ROWS OF THIS SEAT. 4 by the template 'for every input the law returns true; each argument reads behind the call as it read before'; 0 by the template 'total and deterministic' (their statements: YtelgfegkobkhiaaTotals.lean).
  GIVEN WITH THE SEED: the statements are not yours to turn. If you find one false, say at which input.
  Laid BY PROGRAM, IN A SANDBOX (cutbox-rows.mjs): the forced cells as the released guide's own fill.sh prints them over the translation d6fa44cb3bb10d71… (all of the seat's roots in one cut). By AI agents, Wed Nov 11 2026. No macro, syntax, notation, axiom, sorry.
-/
import Derived.Test.YtelgfegkobkhiaaChecked
import GoSem.Claim
import GoSem.ClaimJoined
import GoSem.ClaimMapViews
import Derived.JoinedTies
import Derived.KernelRfl
namespace Go.Proofs.Ytelgfegkobkhiaa
/- THE CELL 'sum', in the pinned program and in every row, IS THE sha256 OF THE DUMP (.gsa) THAT YtelgfegkobkhiaaProg.lean LOADS. Nothing in Lean hashes anything: it is a label: what it is worth is what the hold of that sum in a sandbox is worth. -/
noncomputable def Try.pinned : Pinned := { name := "ytelgfegkobkhiaa", sum := "d6fa44cb3bb10d7167a8eb0f793035f809f82e8849d2e4bb5a0319a72891f945", checked := Try.checked }
namespace Rows
def none {H : Type} : Left H := { results := [], args := [] }

/-- 'riddlelaw18.LinePrograms': WHATEVER THE INPUT: true; the input reads as it did. -/
def lineProgramsSpec : ChangeSpec := { name := "linePrograms", fn := fun _ => fun
  | [d] => { results := [.lit (.bool true)], args := [d] }
  | _ => none }
def lineProgramsRow : OpenClaim := { program := "ytelgfegkobkhiaa", sum := "d6fa44cb3bb10d7167a8eb0f793035f809f82e8849d2e4bb5a0319a72891f945", func := "riddle/riddlelaw18.LinePrograms", spec := "linePrograms", unfollowed := true, recurses := true, apart := false }
def LineProgramsSaid : Prop := lineProgramsRow.holds Try.pinned (OpenSpec.ofChange lineProgramsSpec)

/-- ITS FALSE NEIGHBOUR: 'it returns false'. Refute it at one input. -/
def lineProgramsWrong : ChangeSpec := { name := "linePrograms", fn := fun _ => fun
  | [d] => { results := [.lit (.bool false)], args := [d] }
  | _ => none }
def LineProgramsWrongFalsely : Prop := lineProgramsRow.holds Try.pinned (OpenSpec.ofChange lineProgramsWrong)

/-- 'riddlelaw18.LineRuns': WHATEVER THE INPUT: true; the input reads as it did. -/
def lineRunsSpec : ChangeSpec := { name := "lineRuns", fn := fun _ => fun
  | [d1, d2] => { results := [.lit (.bool true)], args := [d1, d2] }
  | _ => none }
def lineRunsRow : OpenClaim := { program := "ytelgfegkobkhiaa", sum := "d6fa44cb3bb10d7167a8eb0f793035f809f82e8849d2e4bb5a0319a72891f945", func := "riddle/riddlelaw18.LineRuns", spec := "lineRuns", unfollowed := true, recurses := true, apart := false }
def LineRunsSaid : Prop := lineRunsRow.holds Try.pinned (OpenSpec.ofChange lineRunsSpec)

/-- ITS FALSE NEIGHBOUR: 'it returns false'. Refute it at one input. -/
def lineRunsWrong : ChangeSpec := { name := "lineRuns", fn := fun _ => fun
  | [d1, d2] => { results := [.lit (.bool false)], args := [d1, d2] }
  | _ => none }
def LineRunsWrongFalsely : Prop := lineRunsRow.holds Try.pinned (OpenSpec.ofChange lineRunsWrong)

/-- 'riddlelaw18.LineFar': WHATEVER THE INPUT: true; the input reads as it did. -/
def lineFarSpec : ChangeSpec := { name := "lineFar", fn := fun _ => fun
  | [d1, d2, d3, d4] => { results := [.lit (.bool true)], args := [d1, d2, d3, d4] }
  | _ => none }
def lineFarRow : OpenClaim := { program := "ytelgfegkobkhiaa", sum := "d6fa44cb3bb10d7167a8eb0f793035f809f82e8849d2e4bb5a0319a72891f945", func := "riddle/riddlelaw18.LineFar", spec := "lineFar", unfollowed := true, recurses := true, apart := false }
def LineFarSaid : Prop := lineFarRow.holds Try.pinned (OpenSpec.ofChange lineFarSpec)

/-- ITS FALSE NEIGHBOUR: 'it returns false'. Refute it at one input. -/
def lineFarWrong : ChangeSpec := { name := "lineFar", fn := fun _ => fun
  | [d1, d2, d3, d4] => { results := [.lit (.bool false)], args := [d1, d2, d3, d4] }
  | _ => none }
def LineFarWrongFalsely : Prop := lineFarRow.holds Try.pinned (OpenSpec.ofChange lineFarWrong)

/-- 'riddlelaw18.LineLadder': WHATEVER THE INPUT: true; the input reads as it did. -/
def lineLadderSpec : ChangeSpec := { name := "lineLadder", fn := fun _ => fun
  | [d1, d2, d3] => { results := [.lit (.bool true)], args := [d1, d2, d3] }
  | _ => none }
def lineLadderRow : OpenClaim := { program := "ytelgfegkobkhiaa", sum := "d6fa44cb3bb10d7167a8eb0f793035f809f82e8849d2e4bb5a0319a72891f945", func := "riddle/riddlelaw18.LineLadder", spec := "lineLadder", unfollowed := true, recurses := true, apart := false }
def LineLadderSaid : Prop := lineLadderRow.holds Try.pinned (OpenSpec.ofChange lineLadderSpec)

/-- ITS FALSE NEIGHBOUR: 'it returns false'. Refute it at one input. -/
def lineLadderWrong : ChangeSpec := { name := "lineLadder", fn := fun _ => fun
  | [d1, d2, d3] => { results := [.lit (.bool false)], args := [d1, d2, d3] }
  | _ => none }
def LineLadderWrongFalsely : Prop := lineLadderRow.holds Try.pinned (OpenSpec.ofChange lineLadderWrong)

/- THE SECOND FORM. 'bulk': how many values and letters a reading holds, each counted each time it is reached (what is shared counts as often as it is met; a slice's spare places count too). A statement '..UptoSaid' is the law's where the arguments, and the package variables that the reading takes, are together of bulk at most 1048576: NARROWER than '..Said'. Prove '..Said' where nothing that the law and all that it calls make is longer than what came in: it says more and counts as full. Else prove '..UptoSaid'. A law counts once. -/
mutual
def uptoBulk {H : Type} : DataW H → Nat
  | .lit (.string bytes) => bytes.length + 1
  | .lit _ => 1
  | .nil => 1
  | .ptr d => uptoBulk d + 1
  | .slice elems spare => uptoBulkAll elems + uptoBulkAll spare + 1
  | .agg parts => uptoBulkAll parts + 1
  | .iface _ d => uptoBulk d + 1
  | .map entries => uptoBulkEntries entries + 1
  | .held _ => 1
def uptoBulkAll {H : Type} : List (DataW H) → Nat
  | [] => 0
  | d :: r => uptoBulk d + uptoBulkAll r
def uptoBulkEntries {H : Type} : List (Lit × DataW H) → Nat
  | [] => 0
  | x :: r => uptoBulkEntry x + uptoBulkEntries r
def uptoBulkEntry {H : Type} : Lit × DataW H → Nat
  | (.string bytes, d) => bytes.length + uptoBulk d + 1
  | (_, d) => uptoBulk d + 1
 end
def uptoSmall : (H : Type) → List (DataW H) → Bool := fun _ ds => decide (uptoBulkAll ds ≤ 1048576)
def OpenSpec.upto (s : _root_.Go.ChangeSpec) : _root_.Go.OpenSpec := { _root_.Go.OpenSpec.ofChange s with cond := some uptoSmall }

/-- 'riddlelaw18.LinePrograms', WHERE WHAT IT READS IS OF BULK AT MOST 1048576: true; the input reads as it did. -/
def lineProgramsUptoRow : OpenClaim := { program := "ytelgfegkobkhiaa", sum := "d6fa44cb3bb10d7167a8eb0f793035f809f82e8849d2e4bb5a0319a72891f945", func := "riddle/riddlelaw18.LinePrograms", spec := "linePrograms", unfollowed := true, recurses := true, apart := false, narrowed := true }
def LineProgramsUptoSaid : Prop := lineProgramsUptoRow.holds Try.pinned (OpenSpec.upto lineProgramsSpec)

/-- 'riddlelaw18.LineRuns', WHERE WHAT IT READS IS OF BULK AT MOST 1048576: true; the input reads as it did. -/
def lineRunsUptoRow : OpenClaim := { program := "ytelgfegkobkhiaa", sum := "d6fa44cb3bb10d7167a8eb0f793035f809f82e8849d2e4bb5a0319a72891f945", func := "riddle/riddlelaw18.LineRuns", spec := "lineRuns", unfollowed := true, recurses := true, apart := false, narrowed := true }
def LineRunsUptoSaid : Prop := lineRunsUptoRow.holds Try.pinned (OpenSpec.upto lineRunsSpec)

/-- 'riddlelaw18.LineFar', WHERE WHAT IT READS IS OF BULK AT MOST 1048576: true; the input reads as it did. -/
def lineFarUptoRow : OpenClaim := { program := "ytelgfegkobkhiaa", sum := "d6fa44cb3bb10d7167a8eb0f793035f809f82e8849d2e4bb5a0319a72891f945", func := "riddle/riddlelaw18.LineFar", spec := "lineFar", unfollowed := true, recurses := true, apart := false, narrowed := true }
def LineFarUptoSaid : Prop := lineFarUptoRow.holds Try.pinned (OpenSpec.upto lineFarSpec)

/-- 'riddlelaw18.LineLadder', WHERE WHAT IT READS IS OF BULK AT MOST 1048576: true; the input reads as it did. -/
def lineLadderUptoRow : OpenClaim := { program := "ytelgfegkobkhiaa", sum := "d6fa44cb3bb10d7167a8eb0f793035f809f82e8849d2e4bb5a0319a72891f945", func := "riddle/riddlelaw18.LineLadder", spec := "lineLadder", unfollowed := true, recurses := true, apart := false, narrowed := true }
def LineLadderUptoSaid : Prop := lineLadderUptoRow.holds Try.pinned (OpenSpec.upto lineLadderSpec)

end Rows
end Go.Proofs.Ytelgfegkobkhiaa
