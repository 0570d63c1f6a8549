/-
  The document's own token of lex.
-/
import Derived.Test.YtcmeejoabiedaaaDoorLexT
import Derived.Test.YtcmeejoabiedaaaDoorFrameQ
namespace Go.Proofs.YtcmeejoabiedaaaDoor
open Go.RowKit
set_option maxRecDepth 100000

def tkA (q p : Nat) (t : List UInt8) (n : Nat) : Array Value := #[.int .i64 (q : Int), .int .i64 (p : Int), str t, .int .u32 (n : Int)]
theorem size31 : (Tryd.prog.info? 31).map (·.size) = some 4 := by kernel_rfl

/-- What is told of a token. -/
def tokA (p : Nat) (x : Except Int (Nat × List UInt8 × Nat)) : Array Value := match x with
  | .ok (q, t, n) => tkA q p t n
  | .error _ => tkA 0 0 [] 0
def tokE (x : Except Int (Nat × List UInt8 × Nat)) : Int := match x with
  | .ok _ => 0
  | .error e => e

end Go.Proofs.YtcmeejoabiedaaaDoor
