/-
  CopyWords, LendWords: new memory that reads as what was handed in.
-/
import Derived.Test.YtlfjpbedjmnpaaaWSame
namespace Go.Proofs.Ytlfjpbedjmnpaaa.Wd
open Go.RowKit

theorem info60 : (Try.prog.info? 60).map (fun i => (i.zero, i.size, i.bytes)) = some (some (.int .u32 0), 1, 4) := by kernel_rfl

end Go.Proofs.Ytlfjpbedjmnpaaa.Wd
