/-
  Numbers in decimal: riddleref1.Decimal.
-/
import Derived.Test.YtcmeejoabiedaaaDoorStep
import Derived.Laws.IdiomStrings
import Derived.Handy
namespace Go.Proofs.YtcmeejoabiedaaaDoor
open Go.RowKit
set_option maxRecDepth 100000

/-- A digit. -/
def dg (n : Nat) : UInt8 := UInt8.ofNat (48 + n)

theorem dg_nat {n : Nat} (h : n < 10) : (dg n).toNat = 48 + n := by simp [dg]; omega

/-- A number in decimal, with at most f digits. -/
def decF : Nat → Nat → List UInt8
  | 0, _ => []
  | f + 1, n => if n < 10 then [dg n] else decF f (n / 10) ++ [dg (n % 10)]

/-- A number in decimal (of at most 20 digits); nothing for 0. -/
def dec (n : Nat) : List UInt8 := decF 20 n
def decZ (n : Nat) : List UInt8 := if n = 0 then [] else dec n

theorem decF_more (f n : Nat) (h : n < 10 ^ f) (hf : 0 < f) : decF (f + 1) n = decF f n := by
  induction f generalizing n with
  | zero => omega
  | succ f ih =>
    by_cases h10 : n < 10
    · simp [decF, h10]
    · have hf0 : 0 < f := by
        rcases Nat.eq_zero_or_pos f with rfl | h0
        · simp at h; omega
        · exact h0
      rw [decF, if_neg h10, ih (n / 10) (by rw [Nat.pow_succ] at h; omega) hf0, decF, if_neg h10]

theorem decF_len (f n : Nat) : (decF f n).length ≤ f := by
  induction f generalizing n with
  | zero => simp [decF]
  | succ f ih =>
    rw [decF]
    split
    · simp
    · have := ih (n / 10); simp; omega

theorem dec_len (n : Nat) : (dec n).length ≤ 20 := decF_len 20 n

theorem dec_step (n : Nat) (h : n < 10 ^ 20) : dec n = decZ (n / 10) ++ [dg (n % 10)] := by
  by_cases h10 : n < 10
  · rw [show n / 10 = 0 by omega, show n % 10 = n by omega]
    simp [decZ, dec, decF, h10]
  · have h0 : n / 10 ≠ 0 := by omega
    rw [decZ, if_neg h0]
    show decF (19 + 1) n = decF 20 (n / 10) ++ _
    rw [decF, if_neg h10, decF_more 19 (n / 10) (by omega) (by omega)]

theorem decZ_step (n : Nat) (h0 : 0 < n) (h : n < 10 ^ 20) : decZ n = decZ (n / 10) ++ [dg (n % 10)] := by
  rw [← dec_step n h, decZ, if_neg (by omega)]

/-- A text as a value. -/
abbrev str (xs : List UInt8) : Value := .string ⟨xs.toArray⟩

/-- 'string([]byte{c})', the bytes just made. -/
theorem run_str1 {P : Program} {w : World} (c : UInt8) (src dst : TypeId) (hs : P.underlying src = some (.slice 5)) (he : P.underlying 5 = some (.int .u8)) (hd : P.underlying dst = some .string) (n : Int) (hn : n = (c.toNat : Int)) :
    (convert src dst (.slice (some ⟨w.heap.size, 0, none⟩) 1 1)).run P (w.alloc (.cells #[.int .u8 n] 5)) = .ok (str [c]) (w.alloc (.cells #[.int .u8 n] 5)) := by
  subst hn
  exact run_convert_bytes_back _ src dst 5 ⟨w.heap.size, 0, none⟩ 1 [c] hs he hd (fun j hj => (cells_lit w [c]).2 _ rfl j hj)

theorem cat (xs ys : List UInt8) : ((⟨xs.toArray⟩ : ByteArray) ++ (⟨ys.toArray⟩ : ByteArray)) = ⟨(xs ++ ys).toArray⟩ := by
  apply ByteArray.ext
  simp

theorem str_cat (xs ys : List UInt8) : Value.string ((⟨xs.toArray⟩ : ByteArray) ++ (⟨ys.toArray⟩ : ByteArray)) = str (xs ++ ys) := by rw [cat]

theorem digit_cell (n : Nat) : 48 + (n : Int) % 10 = ((dg (n % 10)).toNat : Int) := by
  rw [dg_nat (by omega)]; omega

end Go.Proofs.YtcmeejoabiedaaaDoor
