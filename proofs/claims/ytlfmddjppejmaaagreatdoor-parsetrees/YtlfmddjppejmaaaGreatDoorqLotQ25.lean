import Derived.Test.YtlfmddjppejmaaaGreatDoorqLotQ12
import Derived.Test.YtlfmddjppejmaaaGreatDoorqLotQ24
namespace Go.Proofs.YtlfmddjppejmaaaGreatDoor
open Go.RowKit
set_option maxRecDepth 100000
theorem a2P {s r : List UInt8} (h : x1 s = some r) : r.length = 4 := by
 unfold x1 at h
 split at h
 ·rename_i h4
  cases ha : t7 (k9 255) (f9 46 s) with
  | none => rw [ha] at h; cases h
  | some ns =>
   rw [ha] at h
   simp only [Option.map_some, Option.some.injEq] at h
   subst h
   rw [List.length_map, a3r ha, h4]
 ·cases h
theorem a8s (s : List UInt8) : ((x1 s).getD (List.replicate 4 0)).length = 4 := by
 cases h : x1 s with
 | none => rfl
 | some r => exact a2P h
theorem a2R {s r : List UInt8} (h : x3 s = some r) : r.length = 16 := by
 unfold x3 at h
 split at h
 ·cases hx : k6 s with
  | none => rw [hx] at h; cases h
  | some x =>
   rw [hx] at h
   simp only [Option.bind_some] at h
   split at h
   ·simp only [Option.some.injEq] at h
    subst h
    rw [a2g]; omega
   ·cases h
 ·rename_i k _
  cases hx : k6 (s.take k) with
  | none => rw [hx] at h; cases h
  | some x =>
   cases hy : k6 (s.drop (k + 2)) with
   | none => rw [hx, hy] at h; cases h
   | some y =>
    rw [hx, hy] at h
    simp only [Option.bind_some] at h
    split at h
    ·simp only [Option.some.injEq] at h
     subst h
     rw [a2g, List.length_append, List.length_append, List.length_replicate]; omega
    ·cases h
theorem a8v (s : List UInt8) : ((x3 s).getD (List.replicate 16 0)).length = 16 := by
 cases h : x3 s with
 | none => rfl
 | some r => exact a2R h

end Go.Proofs.YtlfmddjppejmaaaGreatDoor
