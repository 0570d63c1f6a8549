/-
  SameLists: two lists of lists that read alike.
-/
import Derived.Test.YtgfiadljjlajaabJoin
import Derived.Test.YtgfiadljjlajaabSame
import Derived.Deep.RegionWith
import Derived.Deep.DeepCutAuto
namespace Go.Proofs.Ytgfiadljjlajaab
open Go.RowKit
set_option maxRecDepth 100000

theorem part_kept {p : Part} {w w' : World} (h : p.ok w) (K : w.grownBy w' none) : p.ok w' := ⟨h.1.keptNone K, h.2⟩

end Go.Proofs.Ytgfiadljjlajaab
