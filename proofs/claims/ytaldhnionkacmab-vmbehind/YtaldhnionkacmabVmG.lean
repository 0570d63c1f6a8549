/-
  The landed machine: a run's block of 28 cells.
-/
import Derived.Test.YtaldhnionkacmabVmN
import Derived.Laws.Rows
import Derived.Laws.Tables
import Derived.Laws.ResultCell
namespace Go.Proofs.Ytaldhnionkacmab
open Go.RowKit
set_option maxRecDepth 100000

/-- Cells lie in a block of their own. -/
def GVt (w : World) (g t : Nat) (cs : Array Value) : Prop := w.heap[g]? = some (.cells cs t (0, 0))
theorem GVt.cell {w : World} {g t : Nat} {cs : Array Value} (h : GVt w g t cs) (i : Nat) : w.cell? ⟨g, i, none⟩ = cs[i]? := cell_of_row w g i cs t (0, 0) h
theorem GVt.free {w : World} {g t : Nat} {cs : Array Value} (h : GVt w g t cs) (i : Nat) : w.frozen? ⟨g, i, none⟩ = false := by
  unfold GVt at h
  simp [World.frozen?, h]
theorem GVt.lt {w : World} {g t : Nat} {cs : Array Value} (h : GVt w g t cs) : g < w.heap.size := by
  unfold GVt at h
  by_cases hb : g < w.heap.size
  · exact hb
  · rw [Array.getElem?_eq_none (by omega)] at h; cases h
theorem GVt.grown {w w' : World} {g t : Nat} {cs : Array Value} {row : Option Nat} (h : GVt w g t cs) (G : w.grownBy w' row) (hr : row ≠ some g) : GVt w' g t cs := by
  have := G.block g h.lt (Ne.symm hr)
  unfold GVt at *
  rw [this, h]
theorem GVt.kept {w w' : World} {g t : Nat} {cs : Array Value} (h : GVt w g t cs) (G : w.grownBy w' none) : GVt w' g t cs := h.grown G (by simp)
theorem GVt.set {w : World} {g t : Nat} {cs : Array Value} (h : GVt w g t cs) (i : Nat) (v : Value) : GVt (w.setCell ⟨g, i, none⟩ v) g t (cs.setIfInBounds i v) := by
  unfold GVt at *
  simp only [World.setCell, Array.getElem?_modify, h, if_true, Option.map_some]
  rfl
theorem GVt.alloc (w : World) (t : Nat) (cs : Array Value) : GVt (w.alloc (.cells cs t)) w.heap.size t cs := heap_alloc_new w _
theorem GVt.setRow {w : World} {g t : Nat} {cs : Array Value} (h : GVt w g t cs) (ds : Array Value) : GVt (w.setRow g ds) g t ds := by
  unfold GVt at *
  exact setRow_heap w g _ _ t _ h
theorem gvheap_setRow_ne (w : World) (g k : Nat) (cs : Array Value) (h : k ≠ g) : (w.setRow g cs).heap[k]? = w.heap[k]? := by
  simp [World.setRow, Array.getElem?_modify, Ne.symm h]
theorem gvgrown_setRow {w W : World} {row : Option Nat} (G : w.grownBy W row) (g : Nat) (cs : Array Value) (hg : row = some g ∨ w.heap.size ≤ g) : w.grownBy (W.setRow g cs) row := by
  refine ⟨G.os, G.tape, G.output, by rw [setRow_size]; exact G.size, fun i hi hr => ?_⟩
  have : i ≠ g := by
    rintro rfl
    rcases hg with hg | hg
    · exact hr hg.symm
    · omega
  rw [gvheap_setRow_ne _ _ _ _ this]
  exact G.block i hi hr
/-- A result row that lies in a block, and a second result. -/
theorem vret_row {P : Program} {fn : Func} {p u : Tmp} {ty : TypeId} (h : fn.results = #[.cell p ty, .tmp u]) (tmps : Array Value) (w : World) (g : Nat) (cs : Array Value) (d : TypeDesc) (hp : tmps.getD p undef = .pointer (some ⟨g, 0, none⟩)) (A : GVt w g ty cs)
    (hu : P.underlying ty = some d) (hd : (match d with | .struct _ | .array _ _ => true | _ => false) = true) (hi : (P.info? ty).map (·.size) = some cs.size) : (results fn tmps).run P w = .ok (.tuple #[.agg cs, tmps.getD u undef]) w := by
  rw [results_cell_tmp h, hp]
  have := run_loadVar_row (P := P) w g ty ty cs (0, 0) _ A hu hd hi
  simp only [asAddr, Sem.run_pure, Result.andThen, this]

/-- A run: its words, the packet, the fault, the two tables, the program, the place, is it over?, the verdict. -/
structure Rn where
  M : Mc
  pk : Value
  f : Int
  d : Value
  q : Value
  p : Value
  j : Nat
  o : Bool
  v : Nat
  vf : Int
  s : Nat

def Rn.tail (R : Rn) : List Value := [R.pk, .int .i64 R.f, R.d, R.q, R.p, .int .i64 (R.j : Int), .bool R.o, .int .u32 (R.v : Int), .int .i64 R.vf, .int .i64 (R.s : Int)]
def Rn.arr (R : Rn) : Array Value := (R.M.cells ++ R.tail).toArray
/-- It lies in a block. -/
def RAt (w : World) (g : Nat) (R : Rn) : Prop := GVt w g 64 R.arr ∧ R.M.m.length = 16

theorem cells_len {M : Mc} (h : M.m.length = 16) : M.cells.length = 18 := by simp [Mc.cells, h]

theorem RAt.word {w : World} {g : Nat} {R : Rn} (h : RAt w g R) (i : Nat) (hi : i < 18) : w.cell? ⟨g, i, none⟩ = R.M.cells[i]? := by
  rw [h.1.cell i, Rn.arr, List.getElem?_toArray, List.getElem?_append_left (by rw [cells_len h.2]; exact hi)]
theorem RAt.tl {w : World} {g : Nat} {R : Rn} (h : RAt w g R) (i : Nat) : w.cell? ⟨g, 18 + i, none⟩ = R.tail[i]? := by
  rw [h.1.cell (18 + i), Rn.arr, List.getElem?_toArray, List.getElem?_append_right (by rw [cells_len h.2]; omega), cells_len h.2, Nat.add_sub_cancel_left]
theorem RAt.a {w : World} {g : Nat} {R : Rn} (h : RAt w g R) : w.cell? ⟨g, 0, none⟩ = some (.int .u32 (R.M.a : Int)) := h.word 0 (by omega)
theorem RAt.x {w : World} {g : Nat} {R : Rn} (h : RAt w g R) : w.cell? ⟨g, 1, none⟩ = some (.int .u32 (R.M.x : Int)) := h.word 1 (by omega)
theorem RAt.m {w : World} {g : Nat} {R : Rn} (h : RAt w g R) (i : Nat) (hi : i < 16) : w.cell? ⟨g, 2 + i, none⟩ = some (.int .u32 (R.M.m.getD i 0 : Int)) := by
  rw [h.word (2 + i) (by omega), Mc.cells, show 2 + i = i + 1 + 1 by omega, List.getElem?_cons_succ, List.getElem?_cons_succ, List.getElem?_map, List.getElem?_eq_getElem (by have := h.2; omega)]
  simp [u32v, List.getElem?_eq_getElem (show i < R.M.m.length by have := h.2; omega)]
theorem RAt.free {w : World} {g : Nat} {R : Rn} (h : RAt w g R) (i : Nat) : w.frozen? ⟨g, i, none⟩ = false := h.1.free i
theorem RAt.grown {w w' : World} {g : Nat} {R : Rn} {row : Option Nat} (h : RAt w g R) (G : w.grownBy w' row) (hr : row ≠ some g) : RAt w' g R := ⟨h.1.grown G hr, h.2⟩
theorem RAt.kept {w w' : World} {g : Nat} {R : Rn} (h : RAt w g R) (G : w.grownBy w' none) : RAt w' g R := ⟨h.1.kept G, h.2⟩

theorem arr_word {R R' : Rn} {i : Nat} {v : Value} (hm : R.M.m.length = 16) (hi : i < 18) (ht : R'.tail = R.tail) (hw : R'.M.cells = R.M.cells.set i v) : R'.arr = R.arr.setIfInBounds i v := by
  rw [Rn.arr, Rn.arr, List.setIfInBounds_toArray, List.set_append_left _ _ (by rw [cells_len hm]; exact hi), ht, hw]
theorem arr_tail {R R' : Rn} {i : Nat} {v : Value} (hm : R.M.m.length = 16) (hM : R'.M = R.M) (ht : R'.tail = R.tail.set i v) : R'.arr = R.arr.setIfInBounds (18 + i) v := by
  rw [Rn.arr, Rn.arr, List.setIfInBounds_toArray, List.set_append_right _ _ (by rw [cells_len hm]; omega), cells_len hm, Nat.add_sub_cancel_left, ht, hM]

theorem RAt.setWord {w : World} {g : Nat} {R R' : Rn} {i : Nat} {v : Value} (h : RAt w g R) (hi : i < 18) (hl : R'.M.m.length = 16) (ht : R'.tail = R.tail) (hw : R'.M.cells = R.M.cells.set i v) : RAt (w.setCell ⟨g, i, none⟩ v) g R' := by
  refine ⟨?_, hl⟩
  rw [arr_word h.2 hi ht hw]
  exact h.1.set _ _
theorem RAt.setTail {w : World} {g : Nat} {R R' : Rn} {v : Value} (h : RAt w g R) (i : Nat) (hM : R'.M = R.M) (ht : R'.tail = R.tail.set i v) : RAt (w.setCell ⟨g, 18 + i, none⟩ v) g R' := by
  refine ⟨?_, by rw [hM]; exact h.2⟩
  rw [arr_tail h.2 hM ht]
  exact h.1.set _ _
theorem RAt.setA {w : World} {g : Nat} {R : Rn} (h : RAt w g R) (v : Nat) : RAt (w.setCell ⟨g, 0, none⟩ (.int .u32 (v : Int))) g { R with M := ⟨v, R.M.x, R.M.m⟩ } := h.setWord (by omega) h.2 rfl rfl
theorem RAt.setX {w : World} {g : Nat} {R : Rn} (h : RAt w g R) (v : Nat) : RAt (w.setCell ⟨g, 1, none⟩ (.int .u32 (v : Int))) g { R with M := ⟨R.M.a, v, R.M.m⟩ } := h.setWord (by omega) h.2 rfl rfl
theorem RAt.setM {w : World} {g : Nat} {R : Rn} (h : RAt w g R) (i v : Nat) (hi : i < 16) : RAt (w.setCell ⟨g, 2 + i, none⟩ (.int .u32 (v : Int))) g { R with M := ⟨R.M.a, R.M.x, R.M.m.set i v⟩ } := by
  refine h.setWord (by omega) (by simp [h.2]) rfl ?_
  rw [Mc.cells, Mc.cells, show 2 + i = i + 1 + 1 by omega, List.set_cons_succ, List.set_cons_succ, List.map_set]
  rfl
theorem RAt.setF {w : World} {g : Nat} {R : Rn} (h : RAt w g R) (f : Int) : RAt (w.setCell ⟨g, 19, none⟩ (.int .i64 f)) g { R with f := f } := h.setTail 1 rfl rfl
theorem RAt.setJ {w : World} {g : Nat} {R : Rn} (h : RAt w g R) (j : Nat) : RAt (w.setCell ⟨g, 23, none⟩ (.int .i64 (j : Int))) g { R with j := j } := h.setTail 5 rfl rfl
theorem RAt.setO {w : World} {g : Nat} {R : Rn} (h : RAt w g R) (o : Bool) : RAt (w.setCell ⟨g, 24, none⟩ (.bool o)) g { R with o := o } := h.setTail 6 rfl rfl
theorem RAt.setV {w : World} {g : Nat} {R : Rn} (h : RAt w g R) (v : Nat) : RAt (w.setCell ⟨g, 25, none⟩ (.int .u32 (v : Int))) g { R with v := v } := h.setTail 7 rfl rfl
theorem RAt.setVf {w : World} {g : Nat} {R : Rn} (h : RAt w g R) (f : Int) : RAt (w.setCell ⟨g, 26, none⟩ (.int .i64 f)) g { R with vf := f } := h.setTail 8 rfl rfl
theorem RAt.setS {w : World} {g : Nat} {R : Rn} (h : RAt w g R) (s : Nat) : RAt (w.setCell ⟨g, 27, none⟩ (.int .i64 (s : Int))) g { R with s := s } := h.setTail 9 rfl rfl

/-- What a deed leaves. -/
def DeedPost (w : World) (g : Nat) (R : Rn) (M : Mc) (f : Int) (e : Ending) (w' : World) : Prop := e = .returned (.tuple #[]) ∧ RAt w' g { R with M := M, f := f } ∧ w.grownBy w' (some g)

end Go.Proofs.Ytaldhnionkacmab
