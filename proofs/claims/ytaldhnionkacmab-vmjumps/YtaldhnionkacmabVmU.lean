/-
  Which instructions may end a run by a fault. No Go text here.
-/
import Derived.Test.YtaldhnionkacmabVmT
namespace Go.Proofs.Ytaldhnionkacmab
open Go.RowKit
set_option maxRecDepth 100000

theorem andnot_tab : bits .andNot .u16 4 8 = 4 ∧ bits .andNot .u16 12 8 = 4 ∧ bits .andNot .u16 20 8 = 20 ∧ bits .andNot .u16 28 8 = 20 ∧ bits .andNot .u16 36 8 = 36 ∧ bits .andNot .u16 44 8 = 36 ∧ bits .andNot .u16 52 8 = 52 ∧ bits .andNot .u16 60 8 = 52 ∧ bits .andNot .u16 68 8 = 68 ∧ bits .andNot .u16 76 8 = 68 ∧ bits .andNot .u16 84 8 = 84 ∧ bits .andNot .u16 92 8 = 84 ∧ bits .andNot .u16 100 8 = 100 ∧ bits .andNot .u16 108 8 = 100 ∧ bits .andNot .u16 116 8 = 116 ∧ bits .andNot .u16 124 8 = 116 ∧ bits .andNot .u16 148 8 = 148 ∧ bits .andNot .u16 156 8 = 148 ∧ bits .andNot .u16 164 8 = 164 ∧ bits .andNot .u16 172 8 = 164 := by decide +kernel
theorem andnot_jmp : bits .andNot .u16 21 8 = 21 ∧ bits .andNot .u16 29 8 = 21 ∧ bits .andNot .u16 37 8 = 37 ∧ bits .andNot .u16 45 8 = 37 ∧ bits .andNot .u16 53 8 = 53 ∧ bits .andNot .u16 61 8 = 53 ∧ bits .andNot .u16 69 8 = 69 ∧ bits .andNot .u16 77 8 = 69 := by decide +kernel
theorem byx_tab : byxB 52 = false ∧ byxB 148 = false := by decide +kernel

theorem fault_uses {c : Int} {k : Nat} {pk : List UInt8} {M : Mc} (h : faultV c k = 0) (hr : retB c = false) (hj : jumpB c = false) (h5 : (c == 5) = false) (hf : (stepV c k pk M).2 ≠ 0) : usesF c = true := by
  have hkn : knownB c = true := by
    cases hkn : knownB c with
    | true => rfl
    | false => simp [faultV, hkn] at h
  obtain ⟨a1, a2, a3, a4, a5, a6, a7, a8, a9, a10, a11, a12, a13, a14, a15, a16, a17, a18, a19, a20⟩ := andnot_tab
  have h2 := hkn
  simp only [knownB, hj, Bool.false_or, plainB, operB, Bool.or_eq_true, beq_iff_eq, or_assoc] at h2
  rcases h2 with rfl | rfl | rfl | rfl | rfl | rfl | rfl | rfl | rfl | rfl | rfl | rfl | rfl | rfl | rfl | rfl | rfl | rfl | rfl | rfl | rfl | rfl | rfl | rfl | rfl | rfl | rfl | rfl | rfl | rfl | rfl | rfl | rfl | rfl | rfl | rfl | rfl | rfl | rfl | rfl | rfl
  all_goals first
    | (exact (by decide : usesF 32 = true))
    | (exact (by decide : usesF 40 = true))
    | (exact (by decide : usesF 48 = true))
    | (exact (by decide : usesF 64 = true))
    | (exact (by decide : usesF 72 = true))
    | (exact (by decide : usesF 80 = true))
    | (exact (by decide : usesF 177 = true))
    | (exact (by decide : usesF 60 = true))
    | (exact (by decide : usesF 156 = true))
    | (exfalso; revert hr; decide)
    | (exfalso; revert h5; decide)
    | (exfalso; apply hf; simp [stepV, operV, a1, a2, a3, a4, a5, a6, a9, a10, a11, a12, a13, a14, a15, a16, a19, a20]; done)
    | (exfalso; apply hf
       have hk : ¬ k = 0 := by
         intro e
         subst e
         revert h
         decide
       simp [stepV, operV, a7, a17, sideV, byx_tab, hk]; done)

end Go.Proofs.Ytaldhnionkacmab
