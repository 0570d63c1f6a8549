/-
  What Parse says: no Go text here.
-/
import Derived.Test.YtcapmbeabfhjoaaDoorLinesR
import Derived.Test.YtcapmbeabfhjoaaDoorReadR
import Derived.Laws.Strings
namespace Go.Proofs.YtcapmbeabfhjoaaDoor
open Go.RowKit
set_option maxRecDepth 100000

def zeroI : In := ⟨0, 0, 0, 0⟩
/-- What Read hands out. -/
def readC (s : List UInt8) : Array Value := ((readV s).getD zeroI).cells.toArray

theorem toList_sl (s : ByteArray) : s.toList = sl s := ByteArray.toList_eq s

/-- What Parse says of lines from number i on, out what stands ahead: the program, the line, the error. -/
def parseG : Nat → List (List UInt8) → List In → List In × Nat × Int
  | _, [], out => (out, 0, 0)
  | i, l :: ls, out => if i = 4096 then ([], i + 1, 32) else match readV l with
    | none => ([], i + 1, 31)
    | some x => parseG (i + 1) ls (out ++ [x])
def parseV (s : List UInt8) : List In × Nat × Int := if 1048576 < s.length then ([], 0, 30) else parseG 0 (linesV s) []

/-- What a call leaves that makes instructions, tells a line and an error. -/
def PMade (w w' : World) (e : Ending) (p : List In × Nat × Int) : Prop := ∃ v, e = .returned (.tuple #[v, .int .i64 (p.2.1 : Int), .int .i64 p.2.2]) ∧ IOwns w' w.heap.size v p.1 ∧ w.grownBy w' none

/-- Rows of two kinds of elements: the one stays where the other is written. -/
theorem owns_kinds {w w' : World} {base base' e e' size size' n n' : Nat} {v v' : Value} {vs vs' : List Value} (h : w.ownsRow base e size v n vs) (O : w.ownsRow base' e' size' v' n' vs') (he : e ≠ e') (K : w.grownBy w' v'.ownBlock) : w'.ownsRow base e size v n vs := by
  refine h.kept K ?_
  rcases h.2 with ⟨rfl, -⟩ | ⟨g, cap, cur, rfl, -, hg, -⟩
  · exact .inl rfl
  · right
    intro hh
    rcases O.2 with ⟨rfl, -⟩ | ⟨g', cap', cur', rfl, -, hg', -⟩
    · cases hh
    · simp only [Value.ownBlock, Option.some.injEq] at hh
      subst hh
      rw [hg] at hg'
      simp only [Option.some.injEq, Obj.cells.injEq] at hg'
      exact he hg'.2.1

end Go.Proofs.YtcapmbeabfhjoaaDoor
