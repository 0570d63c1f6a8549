/-
  Instructions in memory: four cells each.
-/
import Derived.Test.YtaldhnionkacmabBase
namespace Go.Proofs.Ytaldhnionkacmab
open Go.RowKit
set_option maxRecDepth 100000

/-- An instruction. -/
structure In where
  code : UInt16
  jt : UInt8
  jf : UInt8
  k : UInt32

def In.cells (x : In) : List Value := [.int .u16 (x.code.toNat : Int), .int .u8 (x.jt.toNat : Int), .int .u8 (x.jf.toNat : Int), .int .u32 (x.k.toNat : Int)]

/-- The cells of a list of them. -/
def flat (xs : List In) : List Value := xs.flatMap In.cells

theorem flat_nil : flat [] = [] := rfl
theorem flat_cons (x : In) (xs : List In) : flat (x :: xs) = x.cells ++ flat xs := rfl
theorem flat_append (xs ys : List In) : flat (xs ++ ys) = flat xs ++ flat ys := by simp only [flat, List.flatMap_append]

theorem flat_len (xs : List In) : (flat xs).length = xs.length * 4 := by
  induction xs with
  | nil => rfl
  | cons x xs ih => rw [flat_cons, List.length_append, ih, List.length_cons]; simp [In.cells]; omega

theorem flat_get (xs : List In) (i j : Nat) (hi : i < xs.length) (hj : j < 4) : (flat xs)[i * 4 + j]? = (xs[i].cells)[j]? := by
  induction xs generalizing i with
  | nil => simp at hi
  | cons x xs ih =>
    rw [flat_cons]
    have hl : x.cells.length = 4 := rfl
    cases i with
    | zero => rw [List.getElem?_append_left (by omega)]; simp
    | succ i =>
      rw [List.getElem?_append_right (by omega), hl, show (i + 1) * 4 + j - 4 = i * 4 + j by omega, ih i (by simpa using hi)]
      simp

theorem flat_one (xs : List In) : ∀ u ∈ flat xs, u.oneCell' = true := by
  intro u hu
  obtain ⟨x, _, hx⟩ := List.mem_flatMap.1 hu
  simp only [In.cells, List.mem_cons, List.not_mem_nil, or_false] at hx
  rcases hx with rfl | rfl | rfl | rfl <;> rfl

theorem CV.insns {w : World} {ao : Option Addr} {xs : List In} (h : CV w ao (flat xs)) {k : Nat} (hk : k < xs.length) :
    ∃ b off, ao = some ⟨b, off, none⟩ ∧ ∀ i (hi : i < xs.length), w.cell? ⟨b, off + i * 4, none⟩ = some (.int .u16 (xs[i].code.toNat : Int)) ∧ w.cell? ⟨b, off + i * 4 + 1, none⟩ = some (.int .u8 (xs[i].jt.toNat : Int)) ∧
      w.cell? ⟨b, off + i * 4 + 2, none⟩ = some (.int .u8 (xs[i].jf.toNat : Int)) ∧ w.cell? ⟨b, off + i * 4 + 3, none⟩ = some (.int .u32 (xs[i].k.toNat : Int)) := by
  have hl := flat_len xs
  obtain ⟨b, off, hao, hc⟩ := h.addr (k := k * 4) (by omega)
  refine ⟨b, off, hao, fun i hi => ?_⟩
  have key : ∀ j (hj : j < 4), w.cell? ⟨b, off + i * 4 + j, none⟩ = (xs[i].cells)[j]? := fun j hj => by
    rw [← flat_get xs i j hi hj, Nat.add_assoc, hc (i * 4 + j) (by omega), List.getElem?_eq_getElem (by omega)]
  exact ⟨key 0 (by omega), key 1 (by omega), key 2 (by omega), key 3 (by omega)⟩

end Go.Proofs.Ytaldhnionkacmab
