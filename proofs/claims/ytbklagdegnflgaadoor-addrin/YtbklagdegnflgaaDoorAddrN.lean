/-
  What is said of nets and of single bits: no Go text here.
-/
import Derived.Test.YtbklagdegnflgaaDoorAddrM
namespace Go.Proofs.YtbklagdegnflgaaDoor
open Go.RowKit
set_option maxRecDepth 100000

/-- A byte with one bit turned, with one bit set. -/
def flipB (x : UInt8) (m : Nat) : UInt8 := UInt8.ofNat (x.toNat ^^^ (128 / 2 ^ m))
def orB (x : UInt8) (m : Nat) : UInt8 := UInt8.ofNat (x.toNat ||| (128 / 2 ^ m))
def flipV : List UInt8 → Nat → List UInt8
  | [], _ => []
  | x :: r, k => if k < 8 then flipB x k :: r else x :: flipV r (k - 8)
def setV : List UInt8 → Nat → List UInt8
  | [], _ => []
  | x :: r, k => if k < 8 then orB x k :: r else x :: setV r (k - 8)

theorem bit_byte : ∀ (x : Fin 256) (m : Fin 8) (n : Fin 9), (topB n.val (topB n.val (UInt8.ofNat x.val)) = topB n.val (UInt8.ofNat x.val)) ∧ ((topB n.val (flipB (UInt8.ofNat x.val) m.val) = topB n.val (UInt8.ofNat x.val)) ↔ n.val ≤ m.val)
    ∧ (n.val ≤ m.val → topB n.val (orB (topB n.val (UInt8.ofNat x.val)) m.val) ≠ orB (topB n.val (UInt8.ofNat x.val)) m.val) := by decide +kernel

theorem topB_8 (n : Nat) (x : UInt8) (h : 8 ≤ n) : topB n x = topB 8 x := by
  rw [topB, topB, if_neg (by omega), if_neg (by omega), if_neg (by decide), if_neg (by decide)]
theorem byte_mask (x : UInt8) (n : Nat) : topB n (topB n x) = topB n x := by
  have hx : UInt8.ofNat x.toNat = x := by simp
  by_cases h : n < 9
  · have := (bit_byte ⟨x.toNat, by have := x.toNat_lt; omega⟩ 0 ⟨n, h⟩).1
    simpa only [hx] using this
  · rw [topB_8 n _ (by omega), topB_8 n _ (by omega)]
    have := (bit_byte ⟨x.toNat, by have := x.toNat_lt; omega⟩ 0 ⟨8, by decide⟩).1
    simpa only [hx] using this
theorem byte_flip (x : UInt8) (m n : Nat) (hm : m < 8) : topB n (flipB x m) = topB n x ↔ n ≤ m := by
  have hx : UInt8.ofNat x.toNat = x := by simp
  by_cases h : n < 9
  · have := (bit_byte ⟨x.toNat, by have := x.toNat_lt; omega⟩ ⟨m, hm⟩ ⟨n, h⟩).2.1
    simpa only [hx] using this
  · rw [topB_8 n _ (by omega), topB_8 n _ (by omega)]
    have := (bit_byte ⟨x.toNat, by have := x.toNat_lt; omega⟩ ⟨m, hm⟩ ⟨8, by decide⟩).2.1
    simp only [hx] at this
    rw [this]
    constructor
    · intro h'; have : (8 : Nat) ≤ m := h'; omega
    · intro h'; omega
theorem byte_set (x : UInt8) (m n : Nat) (hm : m < 8) (hn : n ≤ m) : topB n (orB (topB n x) m) ≠ orB (topB n x) m := by
  have hx : UInt8.ofNat x.toNat = x := by simp
  have := (bit_byte ⟨x.toNat, by have := x.toNat_lt; omega⟩ ⟨m, hm⟩ ⟨n, by omega⟩).2.2 hn
  simpa only [hx] using this

theorem mask_mask (xs : List UInt8) (n : Nat) : maskV n (maskV n xs) = maskV n xs := by
  induction xs generalizing n with
  | nil => rfl
  | cons x r ih => simp only [maskV, byte_mask, ih]
theorem mask_flip (xs : List UInt8) (n k : Nat) (hk : k < 8 * xs.length) : maskV n (flipV xs k) = maskV n xs ↔ n ≤ k := by
  induction xs generalizing n k with
  | nil => simp at hk
  | cons x r ih =>
    simp only [flipV]
    split
    · rename_i h
      simp only [maskV, List.cons.injEq, and_true]
      exact byte_flip x k n h
    · rename_i h
      simp only [maskV, List.cons.injEq, true_and]
      rw [ih (n - 8) (k - 8) (by simp at hk; omega)]
      omega
theorem mask_set (xs : List UInt8) (n k : Nat) (hk : k < 8 * xs.length) (hn : n ≤ k) : maskV n (setV (maskV n xs) k) ≠ setV (maskV n xs) k := by
  induction xs generalizing n k with
  | nil => simp at hk
  | cons x r ih =>
    simp only [maskV, setV]
    split
    · rename_i h
      simp only [maskV, ne_eq, List.cons.injEq, not_and]
      intro e
      exact absurd e (byte_set x k n h hn)
    · rename_i h
      simp only [maskV, ne_eq, List.cons.injEq, not_and]
      intro _
      exact ih (n - 8) (k - 8) (by simp at hk; omega) (by omega)

theorem flip_at : ∀ (xs : List UInt8) (k : Nat) (hk : k / 8 < xs.length), flipV xs k = xs.set (k / 8) (flipB xs[k / 8] (k % 8))
  | x :: r, k, hk => by
    simp only [flipV]
    split
    · rename_i h
      have e1 : k / 8 = 0 := by omega
      have e2 : k % 8 = k := by omega
      simp only [e1, e2, List.set_cons_zero, List.getElem_cons_zero]
    · rename_i h
      have e1 : k / 8 = (k - 8) / 8 + 1 := by omega
      have e2 : k % 8 = (k - 8) % 8 := by omega
      have hk' : (k - 8) / 8 < r.length := by simp at hk; omega
      rw [flip_at r (k - 8) hk']
      simp only [e1, e2, List.set_cons_succ, List.getElem_cons_succ]
theorem set_at : ∀ (xs : List UInt8) (k : Nat) (hk : k / 8 < xs.length), setV xs k = xs.set (k / 8) (orB xs[k / 8] (k % 8))
  | x :: r, k, hk => by
    simp only [setV]
    split
    · rename_i h
      have e1 : k / 8 = 0 := by omega
      have e2 : k % 8 = k := by omega
      simp only [e1, e2, List.set_cons_zero, List.getElem_cons_zero]
    · rename_i h
      have e1 : k / 8 = (k - 8) / 8 + 1 := by omega
      have e2 : k % 8 = (k - 8) % 8 := by omega
      have hk' : (k - 8) / 8 < r.length := by simp at hk; omega
      rw [set_at r (k - 8) hk']
      simp only [e1, e2, List.set_cons_succ, List.getElem_cons_succ]

theorem bits_xor : ∀ (x : Fin 256) (m : Fin 8), bits .xor .u8 ((x.val : Nat) : Int) ((128 / 2 ^ m.val : Nat) : Int) = ((x.val ^^^ (128 / 2 ^ m.val) : Nat) : Int) ∧ x.val ^^^ (128 / 2 ^ m.val) < 256
    ∧ bits .or .u8 ((x.val : Nat) : Int) ((128 / 2 ^ m.val : Nat) : Int) = ((x.val ||| (128 / 2 ^ m.val) : Nat) : Int) ∧ x.val ||| (128 / 2 ^ m.val) < 256 := by decide +kernel

theorem flipV_len (xs : List UInt8) (k : Nat) : (flipV xs k).length = xs.length := by
  induction xs generalizing k with
  | nil => rfl
  | cons x r ih => simp only [flipV]; split <;> simp [ih]
theorem setV_len (xs : List UInt8) (k : Nat) : (setV xs k).length = xs.length := by
  induction xs generalizing k with
  | nil => rfl
  | cons x r ih => simp only [setV]; split <;> simp [ih]

/-- What the law asks of Net and In. -/
theorem law_net (xs : List UInt8) (n : Nat) (hl : xs.length = 4 ∨ xs.length = 16) (hn : n ≤ 8 * xs.length) : netE xs.length (n : Int) = 0 ∧ netV xs (n : Int) = maskV n xs := by
  have e : netE xs.length (n : Int) = 0 := by rw [netE, if_neg (by omega), if_neg (by omega)]
  exact ⟨e, by rw [netV, if_pos e, Int.toNat_natCast]⟩
theorem law_in (xs ys : List UInt8) (n : Nat) (hl : xs.length = 4 ∨ xs.length = 16) (hy : ys.length = xs.length) (hn : n ≤ 8 * xs.length) :
    inE xs (maskV n ys) (n : Int) = 0 ∧ inV xs (maskV n ys) (n : Int) = decide (maskV n xs = maskV n ys) := by
  have e : inE xs (maskV n ys) (n : Int) = 0 := by
    rw [inE, if_neg (by rw [mask_len]; exact fun h => h hy), if_pos (law_net xs n hl hn).1, Int.toNat_natCast, if_pos (mask_mask ys n)]
  exact ⟨e, by rw [inV, e, Int.toNat_natCast]; simp⟩
theorem law_host (xs ys : List UInt8) (n : Nat) (hl : xs.length = 4 ∨ xs.length = 16) (hy : ys.length = xs.length) (hn : n ≤ 8 * xs.length) (hm : maskV n ys ≠ ys) :
    inE xs ys (n : Int) = 62 ∧ inV xs ys (n : Int) = false := by
  have e : inE xs ys (n : Int) = 62 := by
    rw [inE, if_neg (fun h => h hy), if_pos (law_net xs n hl hn).1, Int.toNat_natCast, if_neg hm]
  exact ⟨e, by rw [inV, e]; rfl⟩

end Go.Proofs.YtbklagdegnflgaaDoor
