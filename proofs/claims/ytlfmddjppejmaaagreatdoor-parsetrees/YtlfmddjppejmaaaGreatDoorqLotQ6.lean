import Derived.Test.YtlfmddjppejmaaaGreatDoorqLotQ1
import Derived.Test.YtlfmddjppejmaaaGreatDoorqLotQ2
import Derived.Handy
import Derived.Laws.Rows
import Derived.Laws.Tables
import Derived.Laws.ResultCell
import Derived.Deep.DeepCutAuto
namespace Go.Proofs.YtlfmddjppejmaaaGreatDoor
open Go.RowKit
set_option maxRecDepth 100000
structure Lk where
 acfc : Bool
 pfc : Bool
 mp : Int
structure Vw where
 proto : Nat
 multi : Bool
 beg : Bool
 fin : Bool
 seq : Nat
 pos : Nat
 net : Nat
 next : Nat
 load : Nat
def Vw.zero : Vw := ⟨0, false, false, false, 0, 0, 0, 0, 0⟩
def spV (l : Lk) : Nat := if l.mp = 2 then 16777216 else 4096
structure aj0 (l : Lk) (b : List UInt8) (v : Vw) : Prop where
 len : b.length ≤ 65535
 pos1 : 1 ≤ v.pos
 pos2 : v.pos ≤ b.length
 load : v.load ≤ b.length
 far : v.load ≠ 0 → v.pos + 20 ≤ v.load
 pr : v.proto < 65536 ∧ v.proto % 2 = 1
 net : v.net = if (v.proto = 33 ∧ (v.multi = false ∨ v.beg = true)) then 4 else if (v.proto = 87 ∧ (v.multi = false ∨ v.beg = true)) then 6 else 0
 none : v.net = 0 → v.next = 0 ∧ v.load = 0
 next : v.next ≤ 255
 one : v.multi = false → v.beg = false ∧ v.fin = false ∧ v.seq = 0
 two : v.multi = true → l.mp ≠ 0 ∧ v.seq < spV l
 mp : 0 ≤ l.mp ∧ l.mp ≤ 2
def VAt (w : World) (g t : Nat) (cs : Array Value) : Prop := w.heap[g]? = some (.cells cs t (0, 0))
theorem VAt.cell {w : World} {g t : Nat} {cs : Array Value} (h : VAt w g t cs) (i : Nat) : w.cell? ⟨g, i, none⟩ = cs[i]? := cell_of_row w g i cs t (0, 0) h
theorem VAt.free {w : World} {g t : Nat} {cs : Array Value} (h : VAt w g t cs) (i : Nat) : w.frozen? ⟨g, i, none⟩ = false := by
 unfold VAt at h
 simp [World.frozen?, h]
theorem VAt.lt {w : World} {g t : Nat} {cs : Array Value} (h : VAt w g t cs) : g < w.heap.size := by
 unfold VAt at h
 by_cases hb : g < w.heap.size
 ·exact hb
 ·rw [Array.getElem?_eq_none (by omega)] at h; cases h
theorem VAt.grown {w w' : World} {g t : Nat} {cs : Array Value} {row : Option Nat} (h : VAt w g t cs) (G : w.grownBy w' row) (hr : row ≠ some g) : VAt w' g t cs := by
 have := G.block g h.lt (Ne.symm hr)
 unfold VAt at *
 rw [this, h]
theorem VAt.kept {w w' : World} {g t : Nat} {cs : Array Value} (h : VAt w g t cs) (G : w.grownBy w' none) : VAt w' g t cs := h.grown G (by simp)
theorem VAt.set {w : World} {g t : Nat} {cs : Array Value} (h : VAt w g t cs) (i : Nat) (v : Value) : VAt (w.setCell ⟨g, i, none⟩ v) g t (cs.setIfInBounds i v) := by
 unfold VAt at *
 simp only [World.setCell, Array.getElem?_modify, h, if_true, Option.map_some]
 rfl
theorem VAt.alloc (w : World) (t : Nat) (cs : Array Value) : VAt (w.alloc (.cells cs t)) w.heap.size t cs := heap_alloc_new w _
theorem VAt.setRow {w : World} {g t : Nat} {cs : Array Value} (h : VAt w g t cs) (ds : Array Value) : VAt (w.setRow g ds) g t ds := by
 unfold VAt at *
 exact setRow_heap w g _ _ t _ h
theorem a5B (w : World) (g k : Nat) (cs : Array Value) (h : k ≠ g) : (w.setRow g cs).heap[k]? = w.heap[k]? := by
 simp [World.setRow, Array.getElem?_modify, Ne.symm h]
theorem j7 {w W : World} {row : Option Nat} (G : w.grownBy W row) (g : Nat) (cs : Array Value) (hg : row = some g ∨ w.heap.size ≤ g) : w.grownBy (W.setRow g cs) row := by
 refine ⟨G.os, G.tape, G.output, by rw [setRow_size]; exact G.size, fun i hi hr => ?_⟩
 have : i ≠ g := by
  rintro rfl
  rcases hg with hg | hg
  ·exact hr hg.symm
  ·omega
 rw [a5B _ _ _ _ this]
 exact G.block i hi hr
theorem VAt.other {w : World} {g t k : Nat} {cs : Array Value} (h : VAt w g t cs) (ds : Array Value) (hk : g ≠ k) : VAt (w.setRow k ds) g t cs := by
 unfold VAt at *
 rw [a5B _ _ _ _ hk]
 exact h
theorem VAt.setOther {w : World} {g t k i : Nat} {cs : Array Value} (h : VAt w g t cs) (u : Value) (hk : g ≠ k) : VAt (w.setCell ⟨k, i, none⟩ u) g t cs := by
 unfold VAt at *
 simp only [World.setCell, Array.getElem?_modify, if_neg (Ne.symm hk)]
 exact h
theorem l8 {P : Program} {fn : Func} {p u : Tmp} {ty : TypeId} (h : fn.results = #[.cell p ty, .tmp u]) (tmps : Array Value) (w : World) (g : Nat) (cs : Array Value) (d : TypeDesc) (hp : tmps.getD p undef = .pointer (some ⟨g, 0, none⟩)) (A : VAt w g ty cs)
  (hu : P.underlying ty = some d) (hd : (match d with | .struct _ | .array _ _ => true | _ => false) = true) (hi : (P.info? ty).map (·.size) = some cs.size) : (results fn tmps).run P w = .ok (.tuple #[.agg cs, tmps.getD u undef]) w := by
 rw [results_cell_tmp h, hp]
 have := run_loadVar_row (P := P) w g ty ty cs (0, 0) _ A hu hd hi
 simp only [asAddr, Sem.run_pure, Result.andThen, this]

end Go.Proofs.YtlfmddjppejmaaaGreatDoor
