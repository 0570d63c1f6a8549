import Derived.Test.YtklipelnjgpnjaaGreatDoorLotA40
import Derived.Test.YtklipelnjgpnjaaGreatDoorTyBk
import Derived.Test.YtklipelnjgpnjaaGreatDoorLotA12
import Derived.Test.YtklipelnjgpnjaaGreatDoorLotA14
import Derived.Test.YtklipelnjgpnjaaGreatDoorLotA21
import Derived.Test.YtklipelnjgpnjaaGreatDoorLotA32
import Derived.Test.YtklipelnjgpnjaaGreatDoorShO2
import Derived.Test.YtklipelnjgpnjaaGreatDoorShO3
namespace Go.Proofs.YtklipelnjgpnjaaGreatDoor
open Go.RowKit
set_option maxRecDepth 100000
structure Fo (full : Bool) (t : List Ng) (k : Nat) (Fs : List Tr) : Prop where
 wf : ∀ T ∈ Fs, T.Wf
 flat : Fs.flatMap Tr.flat = t.take k
theorem flat_left : ∀ (Fs : List Tr), (∀ T ∈ Fs, T.Wf) → leftG 0 (Fs.flatMap Tr.flat) = some Fs.length := fun Fs h => by
 have := left_flat (Fs.map Tr.flat) (fun q hq => by
  obtain ⟨T, hT, rfl⟩ := List.mem_map.1 hq
  exact Tr.flat_left (h T hT))
 rw [List.length_map] at this
 rw [← this]
 rw [List.flatMap_def]
def Tr.mk (x : Ng) : List Tr → Tr
 | [] => .leaf x
 | [p] => .one x p
 | p :: q :: _ => .two x p q
theorem mk_flat (x : Ng) (ps : List Tr) (h : ps.length ≤ 2) : (Tr.mk x ps).flat = ps.flatMap Tr.flat ++ [x] := by
 match ps, h with
 | [], _ => rfl
 | [p], _ => simp [Tr.mk, Tr.flat]
 | [p, q], _ => simp [Tr.mk, Tr.flat]
theorem mk_wf (x : Ng) (ps : List Tr) (ha : arG x.kind = some ps.length) (hw : ∀ T ∈ ps, T.Wf) : (Tr.mk x ps).Wf := by
 match ps, ha, hw with
 | [], ha, _ => exact ha
 | [p], ha, hw => exact ⟨ha, hw p (by simp)⟩
 | [p, q], ha, hw => exact ⟨ha, hw p (by simp), hw q (by simp)⟩
 | p :: q :: r :: s, ha, _ =>
  have := arG_le ha
  simp only [List.length_cons] at this
  omega
theorem Fo.next {full : Bool} {t : List Ng} {k : Nat} {Fs : List Tr} (h : Fo full t k Fs) (hk : k < t.length) {a : Nat} (ha : arG t[k].kind = some a) (hl : a ≤ Fs.length) : Fo full t (k + 1) (Fs.take (Fs.length - a) ++ [Tr.mk t[k] (Fs.drop (Fs.length - a))]) := by
 have hdl : (Fs.drop (Fs.length - a)).length = a := by rw [List.length_drop]; omega
 refine ⟨fun T hT => ?_, ?_⟩
 ·rcases List.mem_append.1 hT with hT | hT
  ·exact h.wf T (List.mem_of_mem_take hT)
  ·rw [List.mem_singleton.1 hT]
   exact mk_wf _ _ (by rw [hdl]; exact ha) (fun U hU => h.wf U (List.mem_of_mem_drop hU))
 ·rw [List.flatMap_append, List.flatMap_cons, List.flatMap_nil, List.append_nil, mk_flat _ _ (by rw [hdl]; exact arG_le ha), ← List.append_assoc, ← List.flatMap_append, List.take_append_drop, h.flat, List.take_succ_eq_append_getElem hk]
end Go.Proofs.YtklipelnjgpnjaaGreatDoor
