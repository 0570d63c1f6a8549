/-
  The document's own run, count and Number of lex.
-/
import Derived.Test.YtcmeejoabiedaaaDoorLexR
namespace Go.Proofs.YtcmeejoabiedaaaDoor
open Go.RowKit
set_option maxRecDepth 100000

theorem sl_get (s : ByteArray) (k : Nat) (hk : k < s.size) : (sl s)[k]? = some s[k] := by
  have := sl_drop s k hk
  have h2 : ((sl s).drop k)[0]? = some s[k] := by rw [this]; rfl
  simpa using h2

end Go.Proofs.YtcmeejoabiedaaaDoor
