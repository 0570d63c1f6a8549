/-
  The document's own Bytes, Encode and Decode.
-/
import Derived.Test.YtaldhnionkacmaaPutR
import Derived.Test.YtaldhnionkacmaaStep
import Derived.Test.YtaldhnionkacmaaICopy
import Derived.Deep.RegionHeld3
namespace Go.Proofs.Ytaldhnionkacmaa
open Go.RowKit
set_option maxRecDepth 100000

/-- v in so many bytes. -/
def bytesV (S v : Nat) : List UInt8 := putTo (List.replicate S 0) 0 S v S

theorem bytesV_len (S v : Nat) : (bytesV S v).length = S := by simp [bytesV, putTo_len]

theorem bytesV_put (S v : Nat) (hS : S = 1 ∨ S = 2 ∨ S = 4) : putV (List.replicate S (0 : UInt8)) 0 S v = bytesV S v ∧ okB (List.replicate S (0 : UInt8)).length 0 S = true := by
  have hok : okB (List.replicate S (0 : UInt8)).length 0 S = true := decide_eq_true (by rw [List.length_replicate]; omega)
  refine ⟨?_, hok⟩
  simp only [putV, hok, if_pos]
  rfl

/-- An instruction's bytes; a program's. -/
def encI (x : In) : List UInt8 := bytesV 2 x.code.toNat ++ [x.jt, x.jf] ++ bytesV 4 x.k.toNat
def encS (xs : List In) : List UInt8 := xs.flatMap encI

theorem encI_len (x : In) : (encI x).length = 8 := by simp [encI, bytesV_len]
theorem encS_succ (xs : List In) (k : Nat) (hk : k < xs.length) : encS (xs.take (k + 1)) = encS (xs.take k) ++ encI xs[k] := by
  rw [List.take_succ_eq_append_getElem hk]; simp only [encS, List.flatMap_append, List.flatMap_cons, List.flatMap_nil, List.append_nil]
theorem encS_len (xs : List In) : (encS xs).length = 8 * xs.length := by
  induction xs with
  | nil => rfl
  | cons x xs ih => simp only [encS, List.flatMap_cons, List.length_append, List.length_cons, encI_len] at *; omega

/-- What a call leaves that makes bytes, or an error. -/
def MadeE (w w' : World) (e : Ending) (xs : List UInt8) (code : Int) : Prop := ∃ v, e = .returned (.tuple #[v, .int .i64 code]) ∧ Owns w' w.heap.size v xs ∧ w.grownBy w' none

def encV (xs : List In) : List UInt8 := if xs.length ≤ 4096 then encS xs else []
def encE (xs : List In) : Int := if xs.length ≤ 4096 then 0 else 21

end Go.Proofs.Ytaldhnionkacmaa
