/-
  The document's own Decode.
-/
import Derived.Test.YtibaednekfjonaaEncR
namespace Go.Proofs.Ytibaednekfjonaa
open Go.RowKit
set_option maxRecDepth 100000

/-- The instruction that stands at place j. -/
def decAt (bs : List UInt8) (j : Nat) : In := ⟨UInt16.ofNat (numAt bs (8 * j) 2), bs.getD (8 * j + 2) 0, bs.getD (8 * j + 3) 0, UInt32.ofNat (numAt bs (8 * j + 4) 4)⟩

/-- The first k of them. -/
def decP (bs : List UInt8) : Nat → List In
  | 0 => []
  | k + 1 => decP bs k ++ [decAt bs k]

theorem decP_len (bs : List UInt8) (k : Nat) : (decP bs k).length = k := by
  induction k with
  | zero => rfl
  | succ k ih => simp [decP, ih]

def decE (bs : List UInt8) : Int := if bs.length % 8 ≠ 0 then 20 else if 32768 < bs.length then 21 else 0
def decV (bs : List UInt8) : List In := if decE bs = 0 then decP bs (bs.length / 8) else []

/-- What a call leaves that makes instructions, or an error. -/
def IMadeE (w w' : World) (e : Ending) (xs : List In) (code : Int) : Prop := ∃ v, e = .returned (.tuple #[v, .int .i64 code]) ∧ IOwns w' w.heap.size v xs ∧ w.grownBy w' none

theorem decAt_cells (xs : List UInt8) (k : Nat) (h : 8 * k + 8 ≤ xs.length) : (decAt xs k).cells = [.int .u16 (numAt xs (8 * k) 2 : Int), .int .u8 (xs[8 * k + 2].toNat : Int), .int .u8 (xs[8 * k + 3].toNat : Int), .int .u32 (numAt xs (8 * k + 4) 4 : Int)] := by
  have h2 := numAt_lt xs (8 * k) 2
  have h4 := numAt_lt xs (8 * k + 4) 4
  have e2 : (UInt16.ofNat (numAt xs (8 * k) 2)).toNat = numAt xs (8 * k) 2 := by simp; omega
  have e4 : (UInt32.ofNat (numAt xs (8 * k + 4) 4)).toNat = numAt xs (8 * k + 4) 4 := by simp; omega
  have g2 : xs.getD (8 * k + 2) 0 = xs[8 * k + 2] := by simp [show 8 * k + 2 < xs.length by omega]
  have g3 : xs.getD (8 * k + 3) 0 = xs[8 * k + 3] := by simp [show 8 * k + 3 < xs.length by omega]
  simp only [decAt, In.cells, e2, e4, g2, g3]

end Go.Proofs.Ytibaednekfjonaa
