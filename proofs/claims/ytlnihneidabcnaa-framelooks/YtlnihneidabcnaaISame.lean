/-
  SameInsns of two lists that read alike answers true.
-/
import Derived.Test.YtlnihneidabcnaaIMem
namespace Go.Proofs.Ytlnihneidabcnaa
open Go.RowKit
set_option maxRecDepth 100000

end Go.Proofs.Ytlnihneidabcnaa
