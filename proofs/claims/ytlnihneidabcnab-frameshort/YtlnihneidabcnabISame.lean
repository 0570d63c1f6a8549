/-
  SameInsns of two lists that read alike answers true.
-/
import Derived.Test.YtlnihneidabcnabIMem
namespace Go.Proofs.Ytlnihneidabcnab
open Go.RowKit
set_option maxRecDepth 100000

end Go.Proofs.Ytlnihneidabcnab
