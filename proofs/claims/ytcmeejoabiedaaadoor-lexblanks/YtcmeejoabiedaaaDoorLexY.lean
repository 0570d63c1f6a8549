/-
  The document's own Lex.
-/
import Derived.Test.YtcmeejoabiedaaaDoorLexU
import Derived.Test.YtcmeejoabiedaaaDoorLexX
import Derived.Test.YtcmeejoabiedaaaDoorTMem
namespace Go.Proofs.YtcmeejoabiedaaaDoor
open Go.RowKit
set_option maxRecDepth 100000

/-- What Lex tells: the tokens, the place, the error. -/
def lexT (x : Except (Nat × Int) (List Tk)) : List Tk := match x with
  | .ok ts => ts
  | .error _ => []
def lexP (x : Except (Nat × Int) (List Tk)) : Nat := match x with
  | .ok _ => 0
  | .error e => e.1
def lexE (x : Except (Nat × Int) (List Tk)) : Int := match x with
  | .ok _ => 0
  | .error e => e.2
def glue (us : List Tk) (x : Except (Nat × Int) (List Tk)) : Except (Nat × Int) (List Tk) := match x with
  | .ok ts => .ok (us ++ ts)
  | .error e => .error e

theorem tok_er {s : List UInt8} {e : Int} (h : tokV s = .error e) : (e != 0) = true := by
  unfold tokV at h
  split at h
  · cases h
  · split at h
    · split at h
      · cases h
      · split at h
        · cases h; rfl
        · cases h
    · split at h
      · cases h
      · split at h
        · cases h; rfl
        · cases h

end Go.Proofs.YtcmeejoabiedaaaDoor
