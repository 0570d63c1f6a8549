/-
  Hex, the document's and the program's: two digits a byte.
-/
import Derived.Test.YtcmeejoabiedaaaDoorStep
import Derived.Laws.IdiomStrings
namespace Go.Proofs.YtcmeejoabiedaaaDoor
open Go.RowKit
set_option maxRecDepth 100000

/-- A digit of base 16. -/
def hexD (n : Nat) : UInt8 := if n < 10 then UInt8.ofNat (48 + n) else UInt8.ofNat (87 + n)

/-- What Hex says. -/
def hexS (xs : List UInt8) : List UInt8 := xs.flatMap fun c => [hexD (c.toNat / 16), hexD (c.toNat % 16)]

theorem hexS_succ (xs : List UInt8) (k : Nat) (hk : k < xs.length) : hexS (xs.take (k + 1)) = hexS (xs.take k) ++ [hexD (xs[k].toNat / 16), hexD (xs[k].toNat % 16)] := by
  rw [List.take_succ_eq_append_getElem hk]; simp only [hexS, List.flatMap_append, List.flatMap_cons, List.flatMap_nil, List.append_nil]

theorem hexS_len (xs : List UInt8) : (hexS xs).length = 2 * xs.length := by
  induction xs with
  | nil => rfl
  | cons x xs ih => simp only [hexS, List.flatMap_cons, List.length_append, List.length_cons, List.length_nil] at *; omega

/-- 'string(b)', b the call's own. -/
theorem run_str {P : Program} {w : World} {base : Nat} {v : Value} {ys : List UInt8} (h : Owns w base v ys) (src dst : TypeId) (hs : P.underlying src = some (.slice 5)) (he : P.underlying 5 = some (.int .u8)) (hd : P.underlying dst = some .string) :
    (convert src dst v).run P w = .ok (.string ⟨ys.toArray⟩) w := by
  obtain ⟨ao, cap, rfl, hc, _⟩ := h.shape
  cases ao with
  | none =>
    have e := hc.1 rfl
    subst e
    show (convert src dst (.slice none 0 cap)).run P w = _
    rw [run_convert_bytes_string w src dst 5 none 0 cap hs he hd]
    simp [Conv.bytesToString]
    rfl
  | some ad => exact run_convert_bytes_back w src dst 5 ad cap ys hs he hd (fun j hj => hc.2 ad rfl j hj)

/-- The sixteen digits. -/
def hexT : ByteArray := ⟨#[48, 49, 50, 51, 52, 53, 54, 55, 56, 57, 97, 98, 99, 100, 101, 102]⟩

theorem hexT_at (i : Nat) (h : i < hexT.size) : hexT[i] = hexD i := by
  have h' : i < 16 := h
  have key : ∀ j : Fin 16, hexT[j.val]'(j.isLt) = hexD j.val := by decide +kernel
  exact key ⟨i, h'⟩

end Go.Proofs.YtcmeejoabiedaaaDoor
