/-
  The document's own Number; rows of texts.
-/
import Derived.Test.YtcmeejoabiedaaaDoorNum
import Derived.Test.YtcmeejoabiedaaaDoorICopy
namespace Go.Proofs.YtcmeejoabiedaaaDoor
open Go.RowKit
set_option maxRecDepth 100000

/-- The letters of a text. -/
def sl (s : ByteArray) : List UInt8 := s.data.toList

theorem sl_len (s : ByteArray) : (sl s).length = s.size := by simp [sl]
theorem sl_str (xs : List UInt8) : sl ⟨xs.toArray⟩ = xs := rfl
theorem str_sl (s : ByteArray) : Value.string s = str (sl s) := by simp [sl, str]
theorem sl_drop (s : ByteArray) (k : Nat) (hk : k < s.size) : (sl s).drop k = s[k] :: (sl s).drop (k + 1) := by
  rw [List.drop_eq_getElem_cons (by rw [sl_len]; exact hk)]
  rfl

theorem ret_num {a b : Int} {x y : Bool} (h : a = b) (h' : x = y) : Ending.returned (.tuple #[.int .u64 a, .bool x]) = .returned (.tuple #[.int .u64 b, .bool y]) := by rw [h, h']

theorem sl_extract (s : ByteArray) (i k : Nat) : sl (s.extract i k) = ((sl s).drop i).take (k - i) := by
  simp [sl, ByteArray.data_extract, Array.toList_extract, List.extract]

theorem numFrom_le {most : Nat} : ∀ (v : Nat) (d : List UInt8) (n : Nat), v ≤ most → numFrom most v d = some n → n ≤ most
  | v, [], n, hv, h => by simp [numFrom] at h; omega
  | v, c :: d, n, hv, h => by
    rw [numFrom] at h
    split at h
    · split at h
      · cases h
      · exact numFrom_le _ d n (by omega) h
    · cases h

theorem numberV_le {most n : Nat} {d : List UInt8} (h : numberV most d = some n) : n ≤ most := by
  unfold numberV at h
  split at h
  · cases h
  · exact numFrom_le 0 d n (Nat.zero_le _) h

theorem sl_at (s : ByteArray) (j : Nat) (hj : j < s.size) : (sl s)[j]? = some s[j] := by
  rw [List.getElem?_eq_getElem (by rw [sl_len]; exact hj)]
  rfl
theorem take_grow (s : ByteArray) (g j : Nat) (hgj : g ≤ j) (hj : j < s.size) : ((sl s).drop g).take (j + 1 - g) = ((sl s).drop g).take (j - g) ++ [s[j]] := by
  rw [show j + 1 - g = (j - g) + 1 by omega, List.take_add_one, List.getElem?_drop, show g + (j - g) = j by omega, sl_at s j hj]
  rfl

theorem info9 : (Tryd.prog.info? 9).map (fun i => (i.zero, i.size, i.bytes)) = some (some (.string ⟨#[]⟩), 1, 16) := by kernel_rfl

abbrev SOwns (w : World) (base : Nat) (v : Value) (ls : List (List UInt8)) : Prop := w.ownsRow base 9 1 v ls.length (ls.map str)

end Go.Proofs.YtcmeejoabiedaaaDoor
