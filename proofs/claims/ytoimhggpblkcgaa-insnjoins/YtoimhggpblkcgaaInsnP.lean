/-
  Package insn: its contracts.
-/
import Derived.Test.YtoimhggpblkcgaaEncP
import Derived.Test.YtoimhggpblkcgaaDecP
import Derived.Test.YtoimhggpblkcgaaTold
