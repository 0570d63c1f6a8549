/-
  A view that is looked up and laid into a block of its own, in whatever order.
-/
import Derived.Test.YtfjjmeanmlimoaaAwake7
import Derived.Deep.RegionWith
import Derived.Deep.DeepCutAuto
import Derived.Deep.WholeRow
namespace Go.Proofs.Ytfjjmeanmlimoaa
open Go.RowKit
set_option maxRecDepth 100000

/-- A view stored whole into its block. -/
theorem storeCells_row {w : World} {g t : Nat} {old X : Array Value} (h : VAt w g t old) (hi : (Try.prog.info? t).map (·.size) = some X.size) (ho : old.size = X.size) (h1 : X.all (·.oneCell') = true) :
    (storeCells ⟨g, 0, none⟩ X.toList).run Try.prog w = .ok () (w.setRow g X) := by
  have := run_storeVar_row (P := Try.prog) w g t t old X h hi ho h1
  cases hq : Try.prog.info? t with
  | none => simp [hq] at hi
  | some i =>
    have hs : X.size = i.size := by simp [hq] at hi; omega
    simpa [storeVar, sizeOf, typeInfo, hq, Value.cells, hs] using this

theorem ip_err {v : Vw} {b : List UInt8} {e : Int} (h : ipV v b = .error e) : (e != 0) = true := by
  unfold ipV at h
  repeat' split at h
  all_goals cases h
  all_goals rfl
theorem look_err {l : Lk} {b : List UInt8} {e : Int} (h : lookX l b = .error e) : (e != 0) = true := by
  unfold lookX at h
  split at h
  · rename_i hc
    cases h
    rw [bne_iff_ne]
    exact hc
  · cases hp : pieceV l b with
    | error e2 =>
      rw [hp] at h
      cases h
      exact piece_err hp
    | ok v =>
      rw [bind_of hp] at h
      split at h
      · cases h
      · cases hq : (if v.multi = true then (protoV l b v.pos).bind fun q => Except.ok { v with proto := q.1, pos := q.2 } else Except.ok v) with
        | error x =>
          rw [hq] at h
          cases h
          split at hq
          · cases hr : protoV l b v.pos with
            | error y => rw [hr] at hq; cases hq; exact proto_err hr
            | ok q => rw [bind_of hr] at hq; cases hq
          · cases hq
        | ok u =>
          rw [bind_of hq] at h
          split at h
          · exact ip_err h
          · cases h

end Go.Proofs.Ytfjjmeanmlimoaa
