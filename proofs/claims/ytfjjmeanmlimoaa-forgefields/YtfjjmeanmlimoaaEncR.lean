/-
  The document's own Bytes, Encode and Decode.
-/
import Derived.Test.YtfjjmeanmlimoaaPutR
import Derived.Test.YtfjjmeanmlimoaaStep
import Derived.Test.YtfjjmeanmlimoaaICopy
import Derived.Deep.RegionHeld3
namespace Go.Proofs.Ytfjjmeanmlimoaa
open Go.RowKit
set_option maxRecDepth 100000

/-- v in so many bytes. -/
def bytesV (S v : Nat) : List UInt8 := putTo (List.replicate S 0) 0 S v S

theorem bytesV_len (S v : Nat) : (bytesV S v).length = S := by simp [bytesV, putTo_len]

theorem bytesV_put (S v : Nat) (hS : S = 1 ∨ S = 2 ∨ S = 4) : putV (List.replicate S (0 : UInt8)) 0 S v = bytesV S v ∧ okB (List.replicate S (0 : UInt8)).length 0 S = true := by
  have hok : okB (List.replicate S (0 : UInt8)).length 0 S = true := decide_eq_true (by rw [List.length_replicate]; omega)
  refine ⟨?_, hok⟩
  simp only [putV, hok, if_pos]
  rfl

set_option maxHeartbeats 400000 in
theorem bytes_any (S v : Nat) (s : Int) (hs : s = (S : Int)) (hS : S = 1 ∨ S = 2 ∨ S = 4) (hv : v ≤ 4294967295) (w : World) :
    Calls Try.prog 43 #[.int .u32 v, .int .i64 s] w fun e w' => ∃ u, e = .returned u ∧ Owns w' w.heap.size u (bytesV S v) ∧ w.grownBy w' none := by
  subst hs
  obtain ⟨i0, hi, hz0, hz1, hz2⟩ := info_parts info5
  go_enter Try.func43, Try.ntmps43
  go_wp2_with (at_make; refine wpList_make_full _ rfl (.tmp 8) (.tmp 8) 26 rfl w.heap.size 5 i0 (.int .u8 0) 1 Try.underlying26 hi hz0 hz1 .i64 .i64 (S : Int) (S : Int) S rfl rfl rfl rfl ?q1 ?q2 ?q3 ?q4)
  case q1 => rw [hz2]; omega
  case q2 => unfold maxLen; omega
  case q3 => exact Nat.le_refl _
  case q4 =>
    intro w1 h1 h2
    have O : Owns w1 w.heap.size (.slice (some ⟨w.heap.size, 0, none⟩) S S) (List.replicate S 0) := by
      rw [toList_madeCells_one] at h1
      unfold Owns
      simpa [bv] using h1
    obtain ⟨ao, cap, hv1, C, h0, -⟩ := O.rd
    rw [List.length_replicate] at hv1
    simp only [Value.slice.injEq] at hv1
    obtain ⟨rfl, -, rfl⟩ := hv1
    have hp := refput_any (some ⟨w.heap.size, 0, none⟩) S (List.replicate S 0) 0 S v w1 C (by simp) (by simp; omega) hv
    rw [(bytesV_put S v hS).1, (bytesV_put S v hS).2, List.length_replicate] at hp
    have HP := hp
    clear h1 O C h0 hp
    go_wp2_with fail
    refine HP.mono ?_
    rintro e w2 ⟨u, rfl, O2, K2⟩
    have G2 := grown_trans h2 K2
    have O3 : Owns w2 w.heap.size u (bytesV S v) := owns_mono O2 h2.size
    clear O2 K2
    go_wp2
    go_ret
    exact ⟨u, rfl, O3, G2⟩

/-- An instruction's bytes; a program's. -/
def encI (x : In) : List UInt8 := bytesV 2 x.code.toNat ++ [x.jt, x.jf] ++ bytesV 4 x.k.toNat
def encS (xs : List In) : List UInt8 := xs.flatMap encI

theorem encI_len (x : In) : (encI x).length = 8 := by simp [encI, bytesV_len]
theorem encS_succ (xs : List In) (k : Nat) (hk : k < xs.length) : encS (xs.take (k + 1)) = encS (xs.take k) ++ encI xs[k] := by
  rw [List.take_succ_eq_append_getElem hk]; simp only [encS, List.flatMap_append, List.flatMap_cons, List.flatMap_nil, List.append_nil]
theorem encS_len (xs : List In) : (encS xs).length = 8 * xs.length := by
  induction xs with
  | nil => rfl
  | cons x xs ih => simp only [encS, List.flatMap_cons, List.length_append, List.length_cons, encI_len] at *; omega

/-- What a call leaves that makes bytes, or an error. -/
def MadeE (w w' : World) (e : Ending) (xs : List UInt8) (code : Int) : Prop := ∃ v, e = .returned (.tuple #[v, .int .i64 code]) ∧ Owns w' w.heap.size v xs ∧ w.grownBy w' none

def encV (xs : List In) : List UInt8 := if xs.length ≤ 4096 then encS xs else []
def encE (xs : List In) : Int := if xs.length ≤ 4096 then 0 else 21

end Go.Proofs.Ytfjjmeanmlimoaa
