/-
  The document's own Check, walked.
-/
import Derived.Test.YtaldhnionkacmabChkR
namespace Go.Proofs.Ytaldhnionkacmab
open Go.RowKit
set_option maxRecDepth 100000

/-- Does a jump go too far? room: how many instructions stand behind. -/
def jumpBad (c : Int) (t f k room : Nat) : Bool := (c == 5 && decide (room ≤ k)) || (jumpB c && (decide (room ≤ t) || decide (room ≤ f)))
/-- What is wrong with the instruction at place i of n. -/
def badV (n i : Nat) (x : In) : Int := if faultV x.code.toNat x.k.toNat = 0 then (if jumpBad x.code.toNat x.jt.toNat x.jf.toNat x.k.toNat (n - 1 - i) = true then 46 else 0) else faultV x.code.toNat x.k.toNat
/-- The first place where something is wrong. -/
def firstBad (n : Nat) : Nat → List In → Option (Nat × Int)
  | _, [] => none
  | i, x :: r => if badV n i x = 0 then firstBad n (i + 1) r else some (i, badV n i x)
def lastB (xs : List In) : Bool := match xs.getLast? with
  | some x => retB x.code.toNat
  | none => false
/-- What is said behind the search. -/
def endV (xs : List In) : Option (Nat × Int) → Nat × Int
  | some r => r
  | none => if lastB xs = true then (0, 0) else (xs.length - 1, 47)
/-- P4.1. -/
def checkV (xs : List In) : Nat × Int := if xs.length = 0 then (0, 40) else if 4096 < xs.length then (4096, 41) else endV xs (firstBad xs.length 0 xs)

theorem jump_not5 {c : Int} (h : (c == 5) = true) : jumpB c = false := by
  have e := eq_of_beq h
  subst e
  decide

end Go.Proofs.Ytaldhnionkacmab
