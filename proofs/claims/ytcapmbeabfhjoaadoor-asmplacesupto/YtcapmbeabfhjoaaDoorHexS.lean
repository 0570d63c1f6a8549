/-
  'string(b)'.
-/
import Derived.Test.YtcapmbeabfhjoaaDoorStep
import Derived.Laws.IdiomStrings
namespace Go.Proofs.YtcapmbeabfhjoaaDoor
open Go.RowKit
set_option maxRecDepth 100000

/-- 'string(b)', b the call's own. -/
theorem run_str {P : Program} {w : World} {base : Nat} {v : Value} {ys : List UInt8} (h : Owns w base v ys) (src dst : TypeId) (hs : P.underlying src = some (.slice 5)) (he : P.underlying 5 = some (.int .u8)) (hd : P.underlying dst = some .string) :
    (convert src dst v).run P w = .ok (.string ⟨ys.toArray⟩) w := by
  obtain ⟨ao, cap, rfl, hc, _⟩ := h.shape
  cases ao with
  | none =>
    have e := hc.1 rfl
    subst e
    show (convert src dst (.slice none 0 cap)).run P w = _
    rw [run_convert_bytes_string w src dst 5 none 0 cap hs he hd]
    simp [Conv.bytesToString]
    rfl
  | some ad => exact run_convert_bytes_back w src dst 5 ad cap ys hs he hd (fun j hj => hc.2 ad rfl j hj)

end Go.Proofs.YtcapmbeabfhjoaaDoor
