/-
  Tokens in memory: four cells each; SameTokens, SpoilTokens.
-/
import Derived.Test.YtcmeejoabiedaaaDoorLexV
import Derived.Test.YtcmeejoabiedaaaDoorICopy
import Derived.Test.YtcmeejoabiedaaaDoorCopy
namespace Go.Proofs.YtcmeejoabiedaaaDoor
open Go.RowKit
set_option maxRecDepth 100000

def Tk.cells (x : Tk) : List Value := [.int .i64 (x.kind : Int), .int .i64 (x.pos : Int), str x.text, .int .u32 (x.num : Int)]

/-- The cells of a list of them. -/
def flatT (xs : List Tk) : List Value := xs.flatMap Tk.cells

theorem flatT_nil : flatT [] = [] := rfl
theorem flatT_cons (x : Tk) (xs : List Tk) : flatT (x :: xs) = x.cells ++ flatT xs := rfl
theorem flatT_append (xs ys : List Tk) : flatT (xs ++ ys) = flatT xs ++ flatT ys := by simp only [flatT, List.flatMap_append]

theorem flatT_len (xs : List Tk) : (flatT xs).length = xs.length * 4 := by
  induction xs with
  | nil => rfl
  | cons x xs ih => rw [flatT_cons, List.length_append, ih, List.length_cons]; simp [Tk.cells]; omega

theorem flatT_get (xs : List Tk) (i j : Nat) (hi : i < xs.length) (hj : j < 4) : (flatT xs)[i * 4 + j]? = (xs[i].cells)[j]? := by
  induction xs generalizing i with
  | nil => simp at hi
  | cons x xs ih =>
    rw [flatT_cons]
    have hl : x.cells.length = 4 := rfl
    cases i with
    | zero => rw [List.getElem?_append_left (by omega)]; simp
    | succ i =>
      rw [List.getElem?_append_right (by omega), hl, show (i + 1) * 4 + j - 4 = i * 4 + j by omega, ih i (by simpa using hi)]
      simp

theorem flatT_one (xs : List Tk) : ∀ u ∈ flatT xs, u.oneCell' = true := by
  intro u hu
  obtain ⟨x, _, hx⟩ := List.mem_flatMap.1 hu
  simp only [Tk.cells, List.mem_cons, List.not_mem_nil, or_false] at hx
  rcases hx with rfl | rfl | rfl | rfl <;> rfl

theorem CV.toks {w : World} {ao : Option Addr} {xs : List Tk} (h : CV w ao (flatT xs)) {k : Nat} (hk : k < xs.length) :
    ∃ b off, ao = some ⟨b, off, none⟩ ∧ ∀ i (hi : i < xs.length), w.cell? ⟨b, off + i * 4, none⟩ = some (.int .i64 (xs[i].kind : Int)) ∧ w.cell? ⟨b, off + i * 4 + 1, none⟩ = some (.int .i64 (xs[i].pos : Int)) ∧
      w.cell? ⟨b, off + i * 4 + 2, none⟩ = some (str xs[i].text) ∧ w.cell? ⟨b, off + i * 4 + 3, none⟩ = some (.int .u32 (xs[i].num : Int)) := by
  have hl := flatT_len xs
  obtain ⟨b, off, hao, hc⟩ := h.addr (k := k * 4) (by omega)
  refine ⟨b, off, hao, fun i hi => ?_⟩
  have key : ∀ j (hj : j < 4), w.cell? ⟨b, off + i * 4 + j, none⟩ = (xs[i].cells)[j]? := fun j hj => by
    rw [← flatT_get xs i j hi hj, Nat.add_assoc, hc (i * 4 + j) (by omega), List.getElem?_eq_getElem (by omega)]
  exact ⟨key 0 (by omega), key 1 (by omega), key 2 (by omega), key 3 (by omega)⟩

theorem info31 : (Tryd.prog.info? 31).map (fun i => (i.zero, i.size, i.bytes)) = some (some (.agg #[.int .i64 0, .int .i64 0, .string .empty, .int .u32 0]), 4, 40) := by kernel_rfl
/-- An owned row of tokens. -/
abbrev TOwns (w : World) (base : Nat) (v : Value) (xs : List Tk) : Prop := w.ownsRow base 31 4 v xs.length (flatT xs)

/-- The two loops of SpoilTokens, behind its append. -/
def TSpoilRel (w : World) (row : Option Nat) (g g' n n' : Nat) (wr : World) : Prop := BlkN wr 31 g n ∧ BlkN wr 31 g' n' ∧ w.grownBy wr row
theorem TSpoilRel.set {w wr : World} {row : Option Nat} {g g' n n' : Nat} (h : TSpoilRel w row g g' n n' wr) {p : Addr} (hp : row = some p.block ∨ w.heap.size ≤ p.block) (u : Value) : TSpoilRel w row g g' n n' (wr.setCell p u) :=
  ⟨h.1.setCell _ _, h.2.1.setCell _ _, grown_setCell h.2.2 _ _ hp⟩

end Go.Proofs.YtcmeejoabiedaaaDoor
