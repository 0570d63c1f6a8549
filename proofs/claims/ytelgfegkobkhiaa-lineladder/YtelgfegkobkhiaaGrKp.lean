/-
  Runs through graphs: what the texts share. No Go text here.
-/
import Derived.Test.YtelgfegkobkhiaaGrH
import Derived.Test.YtelgfegkobkhiaaLotP16
import Derived.Test.YtelgfegkobkhiaaLotP10
import Derived.Test.YtelgfegkobkhiaaLotP7
namespace Go.Proofs.Ytelgfegkobkhiaa
open Go.RowKit
set_option maxRecDepth 100000

theorem fault_safe15 {c : Int} {k : Nat} (h : faultV c k = 0) : knownB c = true ∧ (memB c = true → k < 16) := by
  unfold faultV at h
  split at h
  · simp at h
  · rename_i hk
    split at h
    · simp at h
    · rename_i hm
      refine ⟨by simpa using hk, fun hh => ?_⟩
      simp only [hh, Bool.true_and, decide_eq_true_eq] at hm
      omega

theorem leaves_ret {x : In} (h : leavesB x = false) (hk : knownB x.code.toNat = true) : (((x.code.toNat : Int) == 6) = false) ∧ ((x.code.toNat : Int) == 22) = false := by
  simp only [leavesB, classV, hk, if_true, Bool.or_eq_false_iff, beq_eq_false_iff_ne] at h
  constructor
  · rw [beq_eq_false_iff_ne]
    intro e
    rw [e] at h
    exact h.2 rfl
  · rw [beq_eq_false_iff_ne]
    intro e
    rw [e] at h
    exact h.2 rfl

def addC (j : Nat) (r : Mc × Int × Nat) : Mc × Int × Nat := (r.1, r.2.1, j + r.2.2)

theorem codeF_step {pk : List UInt8} {xs : List In} {j : Nat} (hj : j < xs.length) (M : Mc) : codeF pk (xs.drop j) M = if (stepV xs[j].code.toNat xs[j].k.toNat pk M).2 = 0 then addC 1 (codeF pk (xs.drop (j + 1)) (stepV xs[j].code.toNat xs[j].k.toNat pk M).1) else ((stepV xs[j].code.toNat xs[j].k.toNat pk M).1, (stepV xs[j].code.toNat xs[j].k.toNat pk M).2, 1) := by
  rw [List.drop_eq_getElem_cons hj, codeF]
  simp only [addC, Nat.add_comm 1]

theorem codeF_over {pk : List UInt8} {xs : List In} {j : Nat} (hj : ¬ j < xs.length) (M : Mc) : codeF pk (xs.drop j) M = (M, 0, 0) := by
  rw [List.drop_eq_nil_of_le (by omega), codeF]

theorem codeF_le {pk : List UInt8} : ∀ (xs : List In) (M : Mc), (codeF pk xs M).2.2 ≤ xs.length
  | [], _ => by simp [codeF]
  | x :: r, M => by
    have := codeF_le (pk := pk) r (stepV x.code.toNat x.k.toNat pk M).1
    rw [codeF]
    split
    · simp only [List.length_cons]
      omega
    · simp

theorem goG_eq {g : List Bk} {pk : List UInt8} {f k : Nat} {M : Mc} (hk : k < g.length) (r : Mc × Int × Nat) (hr : codeF pk g[k].code M = r) : goG g pk (f + 1) k M =
    if r.2.1 ≠ 0 then (0, r.2.1, r.2.2) else if g[k].en = 1 then (giveV g[k].last r.1, 0, r.2.2 + 1) else if g[k].en = 2 then addS r.2.2 (goG g pk f g[k].yes.toNat r.1)
    else addS (r.2.2 + 1) (goG g pk f (if asksV g[k].last r.1 = true then g[k].yes else g[k].no).toNat r.1) := by
  subst hr
  have e : g.getD k bk0 = g[k] := by rw [List.getD_eq_getElem?_getD, List.getElem?_eq_getElem hk]; rfl
  rw [goG, e]

theorem codeF_ok {pk : List UInt8} (hp : pk.length ≤ 4294967295) : ∀ (xs : List In) (M : Mc), M.ok → (codeF pk xs M).1.ok
  | [], _, h => h
  | x :: r, M, h => by
    have h1 : (stepV x.code.toNat x.k.toNat pk M).1.ok := stepV_ok h (by have := x.k.toNat_lt; omega) hp
    rw [codeF]
    split
    · exact codeF_ok hp r _ h1
    · exact h1

theorem codeLen_mono (g : List Bk) : ∀ {i j : Nat}, i ≤ j → codeLen (g.take i) ≤ codeLen (g.take j) := by
  intro i j h
  have := codeLen_take (g.take j) i
  rwa [List.take_take, Nat.min_eq_left h] at this

theorem codeLen_succ {g : List Bk} {k : Nat} (hk : k < g.length) : codeLen (g.take (k + 1)) = codeLen (g.take k) + g[k].code.length := by
  rw [← List.take_append_getElem hk, codeLen, codeLen, List.map_append, List.sum_append, List.map_cons, List.map_nil, List.sum_cons, List.sum_nil, Nat.add_zero]

theorem addS_addS (i j : Nat) (r : Nat × Int × Nat) : addS i (addS j r) = addS (i + j) r := by simp only [addS, Nat.add_assoc]

theorem uses_jump {c : Int} (h : usesJ c = true) : jumpB c = true := by
  simp only [usesJ, Bool.and_eq_true] at h
  exact h.2

theorem size61 : (Try.prog.info? 61).map (·.size) = some 3 := by kernel_rfl

abbrev verA (v : Nat) (f : Int) (s : Nat) : Array Value := #[.int .u32 (v : Int), .int .i64 f, .int .i64 (s : Int)]

/-- What a run through a graph ends with. -/
def GEnd (w : World) (r : Nat × Int × Nat) (E : Int) (e : Ending) (w' : World) : Prop := e = .returned (.tuple #[.agg #[.int .u32 (r.1 : Int), .int .i64 r.2.1, .int .i64 (r.2.2 : Int)], .int .i64 E]) ∧ w.grownBy w' none

end Go.Proofs.Ytelgfegkobkhiaa
