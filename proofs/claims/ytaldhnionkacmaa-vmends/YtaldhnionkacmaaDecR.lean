/-
  The document's own Decode.
-/
import Derived.Test.YtaldhnionkacmaaEncR
namespace Go.Proofs.Ytaldhnionkacmaa
open Go.RowKit
set_option maxRecDepth 100000

/-- The instruction that stands at place j. -/
def decAt (bs : List UInt8) (j : Nat) : In := ⟨UInt16.ofNat (numAt bs (8 * j) 2), bs.getD (8 * j + 2) 0, bs.getD (8 * j + 3) 0, UInt32.ofNat (numAt bs (8 * j + 4) 4)⟩

/-- The first k of them. -/
def decP (bs : List UInt8) : Nat → List In
  | 0 => []
  | k + 1 => decP bs k ++ [decAt bs k]

theorem decP_len (bs : List UInt8) (k : Nat) : (decP bs k).length = k := by
  induction k with
  | zero => rfl
  | succ k ih => simp [decP, ih]

def decE (bs : List UInt8) : Int := if bs.length % 8 ≠ 0 then 20 else if 32768 < bs.length then 21 else 0
def decV (bs : List UInt8) : List In := if decE bs = 0 then decP bs (bs.length / 8) else []

/-- What a call leaves that makes instructions, or an error. -/
def IMadeE (w w' : World) (e : Ending) (xs : List In) (code : Int) : Prop := ∃ v, e = .returned (.tuple #[v, .int .i64 code]) ∧ IOwns w' w.heap.size v xs ∧ w.grownBy w' none

theorem decAt_cells (xs : List UInt8) (k : Nat) (h : 8 * k + 8 ≤ xs.length) : (decAt xs k).cells = [.int .u16 (numAt xs (8 * k) 2 : Int), .int .u8 (xs[8 * k + 2].toNat : Int), .int .u8 (xs[8 * k + 3].toNat : Int), .int .u32 (numAt xs (8 * k + 4) 4 : Int)] := by
  have h2 := numAt_lt xs (8 * k) 2
  have h4 := numAt_lt xs (8 * k + 4) 4
  have e2 : (UInt16.ofNat (numAt xs (8 * k) 2)).toNat = numAt xs (8 * k) 2 := by simp; omega
  have e4 : (UInt32.ofNat (numAt xs (8 * k + 4) 4)).toNat = numAt xs (8 * k + 4) 4 := by simp; omega
  have g2 : xs.getD (8 * k + 2) 0 = xs[8 * k + 2] := by simp [show 8 * k + 2 < xs.length by omega]
  have g3 : xs.getD (8 * k + 3) 0 = xs[8 * k + 3] := by simp [show 8 * k + 3 < xs.length by omega]
  simp only [decAt, In.cells, e2, e4, g2, g3]

theorem refget_ok (a : Option Addr) (ca : Nat) (xs : List UInt8) (m S : Nat) (p s : Int) (hp : p = (m : Int)) (hs : s = (S : Int)) (hS : S = 1 ∨ S = 2 ∨ S = 4) (hm : m + S ≤ xs.length) (w : World) (ha : Cells w a xs) (hn : xs.length ≤ 140737488355328) :
    Calls Try.prog 57 #[.slice a xs.length ca, .int .i64 p, .int .i64 s] w fun e w' => e = .returned (.tuple #[.int .u32 (numAt xs m S), .bool true]) ∧ w = w' := by
  subst hp hs
  have k := refget_any a ca xs m S w ha hn
  have hok : okB xs.length m S = true := decide_eq_true (by omega)
  have hg : getV xs m S = numAt xs m S := by simp [getV, hok]
  rw [hg, hok] at k
  exact k

end Go.Proofs.Ytaldhnionkacmaa
