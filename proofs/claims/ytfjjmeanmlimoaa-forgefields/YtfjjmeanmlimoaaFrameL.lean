/-
  The document's own Look.
-/
import Derived.Test.YtfjjmeanmlimoaaFrameI
import Derived.Deep.WholeRow
namespace Go.Proofs.Ytfjjmeanmlimoaa
open Go.RowKit
set_option maxRecDepth 100000

theorem piece_err {l : Lk} {b : List UInt8} {e : Int} (h : pieceV l b = .error e) : (e != 0) = true := by
  unfold pieceV at h
  split at h
  · cases h; rfl
  · cases hp : plainV l b with
    | error x => rw [hp] at h; cases h; exact plain_err hp
    | ok p =>
      rw [bind_of hp] at h
      cases hq : protoV l b p with
      | error x => rw [hq] at h; cases h; exact proto_err hq
      | ok q =>
        rw [bind_of hq] at h
        split at h
        · cases h
        · cases hh : headV l b q.2 with
          | error x => rw [hh] at h; cases h; exact head_err hh
          | ok z => rw [bind_of hh] at h; cases h

end Go.Proofs.Ytfjjmeanmlimoaa
