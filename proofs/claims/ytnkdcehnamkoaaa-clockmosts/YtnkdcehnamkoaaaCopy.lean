/-
  CopyBytes, LendBytes: new memory that reads as what was handed in.
-/
import Derived.Test.YtnkdcehnamkoaaaSame
namespace Go.Proofs.Ytnkdcehnamkoaaa
open Go.RowKit
set_option maxRecDepth 100000

theorem info5 : (Try.prog.info? 5).map (fun i => (i.zero, i.size, i.bytes)) = some (some (.int .u8 0), 1, 1) := by kernel_rfl

end Go.Proofs.Ytnkdcehnamkoaaa
