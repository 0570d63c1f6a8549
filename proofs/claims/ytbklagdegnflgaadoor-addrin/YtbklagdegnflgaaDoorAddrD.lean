/-
  How long answers are; what is said of arrays that are told apart.
-/
import Derived.Test.YtbklagdegnflgaaDoorAddrT
import Derived.Test.YtbklagdegnflgaaDoorAddrM
namespace Go.Proofs.YtbklagdegnflgaaDoor
open Go.RowKit
set_option maxRecDepth 100000

theorem list4 : ∀ (xs : List UInt8), xs.length = 4 → ∃ a b c d, xs = [a, b, c, d]
  | [a, b, c, d], _ => ⟨a, b, c, d, rfl⟩

theorem parse4_some {s r : List UInt8} (h : parse4V s = some r) : r.length = 4 := by
  unfold parse4V at h
  split at h
  · rename_i h4
    cases ha : allV (numberV 255) (splitV 46 s) with
    | none => rw [ha] at h; cases h
    | some ns =>
      rw [ha] at h
      simp only [Option.map_some, Option.some.injEq] at h
      subst h
      rw [List.length_map, allV_len ha, h4]
  · cases h
theorem parse4_len (s : List UInt8) : ((parse4V s).getD (List.replicate 4 0)).length = 4 := by
  cases h : parse4V s with
  | none => rfl
  | some r => exact parse4_some h
theorem parse6_some {s r : List UInt8} (h : parse6V s = some r) : r.length = 16 := by
  unfold parse6V at h
  split at h
  · cases hx : groupsV s with
    | none => rw [hx] at h; cases h
    | some x =>
      rw [hx] at h
      simp only [Option.bind_some] at h
      split at h
      · simp only [Option.some.injEq] at h
        subst h
        rw [bytes_len]; omega
      · cases h
  · rename_i k _
    cases hx : groupsV (s.take k) with
    | none => rw [hx] at h; cases h
    | some x =>
      cases hy : groupsV (s.drop (k + 2)) with
      | none => rw [hx, hy] at h; cases h
      | some y =>
        rw [hx, hy] at h
        simp only [Option.bind_some] at h
        split at h
        · simp only [Option.some.injEq] at h
          subst h
          rw [bytes_len, List.length_append, List.length_append, List.length_replicate]; omega
        · cases h
theorem parse6_len (s : List UInt8) : ((parse6V s).getD (List.replicate 16 0)).length = 16 := by
  cases h : parse6V s with
  | none => rfl
  | some r => exact parse6_some h

end Go.Proofs.YtbklagdegnflgaaDoor
