/-
  Unhex, the document's and the program's: the bytes of a text of digits, or none.
-/
import Derived.Test.YtcmeejoabiedaaaDoorHex
namespace Go.Proofs.YtcmeejoabiedaaaDoor
open Go.RowKit
set_option maxRecDepth 100000

/-- Is it a digit of base 16, a small one? -/
def digOk (c : Nat) : Bool := decide ((48 ≤ c ∧ c ≤ 57) ∨ (97 ≤ c ∧ c ≤ 102))
/-- Which? -/
def digV (c : Nat) : Nat := if 48 ≤ c ∧ c ≤ 57 then c - 48 else if 97 ≤ c ∧ c ≤ 102 then c - 87 else 0

theorem digV_lt (c : Nat) : digV c < 16 := by unfold digV; split <;> (try split) <;> omega

theorem dig_dec {c : Nat} (h : 48 ≤ c ∧ c ≤ 57) : digOk c = true ∧ digV c = c - 48 := ⟨decide_eq_true (.inl h), by simp [digV, h]⟩
theorem dig_let {c : Nat} (h : 97 ≤ c ∧ c ≤ 102) : digOk c = true ∧ digV c = c - 87 := ⟨decide_eq_true (.inr h), by unfold digV; rw [if_neg (by omega), if_pos h]⟩
theorem dig_no {c : Nat} (h1 : ¬ (48 ≤ c ∧ c ≤ 57)) (h2 : ¬ (97 ≤ c ∧ c ≤ 102)) : digOk c = false ∧ digV c = 0 := ⟨decide_eq_false (by omega), by unfold digV; rw [if_neg h1, if_neg h2]⟩

theorem ret_digit {a b : Int} {x y : Bool} (h : a = b) (h' : x = y) : Ending.returned (.tuple #[.int .u8 a, .bool x]) = .returned (.tuple #[.int .u8 b, .bool y]) := by rw [h, h']

/-- A text's byte, as a number. -/
def gd (s : ByteArray) (i : Nat) : Nat := (s.data.toList.getD i 0).toNat

theorem gd_eq (s : ByteArray) (i : Nat) (h : i < s.size) : s[i].toNat = gd s i := by
  have h' : i < s.data.toList.length := by simpa using h
  unfold gd
  rw [List.getD_eq_getElem?_getD, List.getElem?_eq_getElem h']
  rfl

theorem gd_lt (s : ByteArray) (i : Nat) : gd s i < 256 := UInt8.toNat_lt _

/-- Are the first k pairs digits? -/
def okTo (s : ByteArray) : Nat → Bool
  | 0 => true
  | k + 1 => okTo s k && (digOk (gd s (2 * k)) && digOk (gd s (2 * k + 1)))

/-- The bytes of the first k pairs. -/
def decTo (s : ByteArray) : Nat → List UInt8
  | 0 => []
  | k + 1 => decTo s k ++ [UInt8.ofNat (16 * digV (gd s (2 * k)) + digV (gd s (2 * k + 1)))]

theorem decTo_len (s : ByteArray) (k : Nat) : (decTo s k).length = k := by
  induction k with
  | zero => rfl
  | succ k ih => simp [decTo, ih]

theorem okTo_no (s : ByteArray) (k n : Nat) (hk : k < n) (h : (digOk (gd s (2 * k)) && digOk (gd s (2 * k + 1))) = false) : okTo s n = false := by
  induction n with
  | zero => omega
  | succ n ih =>
    by_cases e : k = n
    · subst e
      simp only [okTo, h, Bool.and_false]
    · simp only [okTo, ih (by omega), Bool.false_and]

def unOk (s : ByteArray) : Bool := decide (s.size % 2 = 0) && okTo s (s.size / 2)
def unV (s : ByteArray) : List UInt8 := if unOk s = true then decTo s (s.size / 2) else []

theorem un_odd {s : ByteArray} (h : s.size % 2 ≠ 0) : unOk s = false ∧ unV s = [] := by
  have e : unOk s = false := by simp [unOk, h]
  exact ⟨e, by simp [unV, e]⟩

theorem un_bad {s : ByteArray} {k : Nat} (hk : 2 * k < s.size) (he : s.size % 2 = 0) (h : (digOk (gd s (2 * k)) && digOk (gd s (2 * k + 1))) = false) : unOk s = false ∧ unV s = [] := by
  have e : unOk s = false := by simp only [unOk, okTo_no s k (s.size / 2) (by omega) h, Bool.and_false]
  exact ⟨e, by simp [unV, e]⟩

theorem un_good {s : ByteArray} {k : Nat} (hk : 2 * k = s.size) (h : okTo s k = true) : unOk s = true ∧ unV s = decTo s k := by
  have e2 : s.size / 2 = k := by omega
  have e : unOk s = true := by simp only [unOk, e2, h, Bool.and_true, decide_eq_true_eq]; omega
  exact ⟨e, by simp [unV, e, e2]⟩

theorem bytes_join (a b : Nat) (ha : a < 16) (hb : b < 16) : bits .or .u8 ((a : Int) * 16) (b : Int) = ((16 * a + b : Nat) : Int) := by
  rw [show ((a : Int) * 16) = ((a * 16 : Nat) : Int) by omega, u8_or_nat _ _ (by omega) (by omega), nat_join 4 _ _ (by omega) (by omega)]
  omega

end Go.Proofs.YtcmeejoabiedaaaDoor
