/-
  The landed machine: a run's block of 28 cells. Package graph as landed: leaves, asks, bare, the goals. Blocks in memory: eight cells each; package graph as landed: leadsOn, ends. A struct put together may be taken first, in a statement whose order is open. Steps within a statement whose order is open: new memory (beside the machine's texts).
-/
import Derived.Test.YtencoknpocipbaaGreatLotP6
import Derived.Laws.Rows
import Derived.Laws.Tables
import Derived.Laws.ResultCell
import Derived.Deep.RegionHeld3
import Derived.Deep.DeepCutAuto
import Derived.Deep.RegionWith
import Derived.Shelf.Abstract
import Derived.Test.YtencoknpocipbaaGreatLotP1
import Derived.Deep.RegionLaw
import Derived.Deep.WholeRow
namespace Go.Proofs.YtencoknpocipbaaGreat
open Go.RowKit
set_option maxRecDepth 100000

/-- Cells lie in a block of their own. -/
def GVt (w : World) (g t : Nat) (cs : Array Value) : Prop := w.heap[g]? = some (.cells cs t (0, 0))
theorem GVt.cell {w : World} {g t : Nat} {cs : Array Value} (h : GVt w g t cs) (i : Nat) : w.cell? ⟨g, i, none⟩ = cs[i]? := cell_of_row w g i cs t (0, 0) h
theorem GVt.free {w : World} {g t : Nat} {cs : Array Value} (h : GVt w g t cs) (i : Nat) : w.frozen? ⟨g, i, none⟩ = false := by
  unfold GVt at h
  simp [World.frozen?, h]
theorem GVt.lt {w : World} {g t : Nat} {cs : Array Value} (h : GVt w g t cs) : g < w.heap.size := by
  unfold GVt at h
  by_cases hb : g < w.heap.size
  · exact hb
  · rw [Array.getElem?_eq_none (by omega)] at h; cases h
theorem GVt.grown {w w' : World} {g t : Nat} {cs : Array Value} {row : Option Nat} (h : GVt w g t cs) (G : w.grownBy w' row) (hr : row ≠ some g) : GVt w' g t cs := by
  have := G.block g h.lt (Ne.symm hr)
  unfold GVt at *
  rw [this, h]
theorem GVt.kept {w w' : World} {g t : Nat} {cs : Array Value} (h : GVt w g t cs) (G : w.grownBy w' none) : GVt w' g t cs := h.grown G (by simp)
theorem GVt.set {w : World} {g t : Nat} {cs : Array Value} (h : GVt w g t cs) (i : Nat) (v : Value) : GVt (w.setCell ⟨g, i, none⟩ v) g t (cs.setIfInBounds i v) := by
  unfold GVt at *
  simp only [World.setCell, Array.getElem?_modify, h, if_true, Option.map_some]
  rfl
theorem GVt.alloc (w : World) (t : Nat) (cs : Array Value) : GVt (w.alloc (.cells cs t)) w.heap.size t cs := heap_alloc_new w _
theorem GVt.setRow {w : World} {g t : Nat} {cs : Array Value} (h : GVt w g t cs) (ds : Array Value) : GVt (w.setRow g ds) g t ds := by
  unfold GVt at *
  exact setRow_heap w g _ _ t _ h
theorem gvheap_setRow_ne (w : World) (g k : Nat) (cs : Array Value) (h : k ≠ g) : (w.setRow g cs).heap[k]? = w.heap[k]? := by
  simp [World.setRow, Array.getElem?_modify, Ne.symm h]
theorem gvgrown_setRow {w W : World} {row : Option Nat} (G : w.grownBy W row) (g : Nat) (cs : Array Value) (hg : row = some g ∨ w.heap.size ≤ g) : w.grownBy (W.setRow g cs) row := by
  refine ⟨G.os, G.tape, G.output, by rw [setRow_size]; exact G.size, fun i hi hr => ?_⟩
  have : i ≠ g := by
    rintro rfl
    rcases hg with hg | hg
    · exact hr hg.symm
    · omega
  rw [gvheap_setRow_ne _ _ _ _ this]
  exact G.block i hi hr
/-- A result row that lies in a block, and a second result. -/
theorem vret_row {P : Program} {fn : Func} {p u : Tmp} {ty : TypeId} (h : fn.results = #[.cell p ty, .tmp u]) (tmps : Array Value) (w : World) (g : Nat) (cs : Array Value) (d : TypeDesc) (hp : tmps.getD p undef = .pointer (some ⟨g, 0, none⟩)) (A : GVt w g ty cs)
    (hu : P.underlying ty = some d) (hd : (match d with | .struct _ | .array _ _ => true | _ => false) = true) (hi : (P.info? ty).map (·.size) = some cs.size) : (results fn tmps).run P w = .ok (.tuple #[.agg cs, tmps.getD u undef]) w := by
  rw [results_cell_tmp h, hp]
  have := run_loadVar_row (P := P) w g ty ty cs (0, 0) _ A hu hd hi
  simp only [asAddr, Sem.run_pure, Result.andThen, this]

/-- A run: its words, the packet, the fault, the two tables; the type of its block, and what else lies in it. -/
structure Rn where
  M : Mc
  pk : Value
  f : Int
  d : Value
  q : Value
  t : Nat
  rest : List Value

def Rn.tail (R : Rn) : List Value := R.pk :: .int .i64 R.f :: R.d :: R.q :: R.rest
def Rn.arr (R : Rn) : Array Value := (R.M.cells ++ R.tail).toArray
/-- It lies in a block. -/
def RAt (w : World) (g : Nat) (R : Rn) : Prop := GVt w g R.t R.arr ∧ R.M.m.length = 16

theorem cells_len {M : Mc} (h : M.m.length = 16) : M.cells.length = 18 := by simp [Mc.cells, h]

theorem RAt.word {w : World} {g : Nat} {R : Rn} (h : RAt w g R) (i : Nat) (hi : i < 18) : w.cell? ⟨g, i, none⟩ = R.M.cells[i]? := by
  rw [h.1.cell i, Rn.arr, List.getElem?_toArray, List.getElem?_append_left (by rw [cells_len h.2]; exact hi)]
theorem RAt.tl {w : World} {g : Nat} {R : Rn} (h : RAt w g R) (i : Nat) : w.cell? ⟨g, 18 + i, none⟩ = R.tail[i]? := by
  rw [h.1.cell (18 + i), Rn.arr, List.getElem?_toArray, List.getElem?_append_right (by rw [cells_len h.2]; omega), cells_len h.2, Nat.add_sub_cancel_left]
theorem RAt.a {w : World} {g : Nat} {R : Rn} (h : RAt w g R) : w.cell? ⟨g, 0, none⟩ = some (.int .u32 (R.M.a : Int)) := h.word 0 (by omega)
theorem RAt.x {w : World} {g : Nat} {R : Rn} (h : RAt w g R) : w.cell? ⟨g, 1, none⟩ = some (.int .u32 (R.M.x : Int)) := h.word 1 (by omega)
theorem RAt.m {w : World} {g : Nat} {R : Rn} (h : RAt w g R) (i : Nat) (hi : i < 16) : w.cell? ⟨g, 2 + i, none⟩ = some (.int .u32 (R.M.m.getD i 0 : Int)) := by
  rw [h.word (2 + i) (by omega), Mc.cells, show 2 + i = i + 1 + 1 by omega, List.getElem?_cons_succ, List.getElem?_cons_succ, List.getElem?_map, List.getElem?_eq_getElem (by have := h.2; omega)]
  simp [u32v, List.getElem?_eq_getElem (show i < R.M.m.length by have := h.2; omega)]
theorem RAt.free {w : World} {g : Nat} {R : Rn} (h : RAt w g R) (i : Nat) : w.frozen? ⟨g, i, none⟩ = false := h.1.free i
theorem RAt.grown {w w' : World} {g : Nat} {R : Rn} {row : Option Nat} (h : RAt w g R) (G : w.grownBy w' row) (hr : row ≠ some g) : RAt w' g R := ⟨h.1.grown G hr, h.2⟩
theorem RAt.kept {w w' : World} {g : Nat} {R : Rn} (h : RAt w g R) (G : w.grownBy w' none) : RAt w' g R := ⟨h.1.kept G, h.2⟩

theorem arr_word {R R' : Rn} {i : Nat} {v : Value} (hm : R.M.m.length = 16) (hi : i < 18) (ht : R'.tail = R.tail) (hw : R'.M.cells = R.M.cells.set i v) : R'.arr = R.arr.setIfInBounds i v := by
  rw [Rn.arr, Rn.arr, List.setIfInBounds_toArray, List.set_append_left _ _ (by rw [cells_len hm]; exact hi), ht, hw]
theorem arr_tail {R R' : Rn} {i : Nat} {v : Value} (hm : R.M.m.length = 16) (hM : R'.M = R.M) (ht : R'.tail = R.tail.set i v) : R'.arr = R.arr.setIfInBounds (18 + i) v := by
  rw [Rn.arr, Rn.arr, List.setIfInBounds_toArray, List.set_append_right _ _ (by rw [cells_len hm]; omega), cells_len hm, Nat.add_sub_cancel_left, ht, hM]

theorem RAt.setWord {w : World} {g : Nat} {R R' : Rn} {i : Nat} {v : Value} (h : RAt w g R) (hi : i < 18) (hl : R'.M.m.length = 16) (ht : R'.tail = R.tail) (hw : R'.M.cells = R.M.cells.set i v) (ht0 : R'.t = R.t := by rfl) : RAt (w.setCell ⟨g, i, none⟩ v) g R' := by
  refine ⟨?_, hl⟩
  rw [arr_word h.2 hi ht hw, ht0]
  exact h.1.set _ _
theorem RAt.setTail {w : World} {g : Nat} {R R' : Rn} {v : Value} (h : RAt w g R) (i : Nat) (hM : R'.M = R.M) (ht : R'.tail = R.tail.set i v) (ht0 : R'.t = R.t := by rfl) : RAt (w.setCell ⟨g, 18 + i, none⟩ v) g R' := by
  refine ⟨?_, by rw [hM]; exact h.2⟩
  rw [arr_tail h.2 hM ht, ht0]
  exact h.1.set _ _
theorem RAt.setA {w : World} {g : Nat} {R : Rn} (h : RAt w g R) (v : Nat) : RAt (w.setCell ⟨g, 0, none⟩ (.int .u32 (v : Int))) g { R with M := ⟨v, R.M.x, R.M.m⟩ } := h.setWord (by omega) h.2 rfl rfl
theorem RAt.setX {w : World} {g : Nat} {R : Rn} (h : RAt w g R) (v : Nat) : RAt (w.setCell ⟨g, 1, none⟩ (.int .u32 (v : Int))) g { R with M := ⟨R.M.a, v, R.M.m⟩ } := h.setWord (by omega) h.2 rfl rfl
theorem RAt.setM {w : World} {g : Nat} {R : Rn} (h : RAt w g R) (i v : Nat) (hi : i < 16) : RAt (w.setCell ⟨g, 2 + i, none⟩ (.int .u32 (v : Int))) g { R with M := ⟨R.M.a, R.M.x, R.M.m.set i v⟩ } := by
  refine h.setWord (by omega) (by simp [h.2]) rfl ?_
  rw [Mc.cells, Mc.cells, show 2 + i = i + 1 + 1 by omega, List.set_cons_succ, List.set_cons_succ, List.map_set]
  rfl
theorem RAt.setF {w : World} {g : Nat} {R : Rn} (h : RAt w g R) (f : Int) : RAt (w.setCell ⟨g, 19, none⟩ (.int .i64 f)) g { R with f := f } := h.setTail 1 rfl rfl
/-- What a run through a graph holds besides: is it over?, the verdict. -/
def gRest (o : Bool) (v : Nat) (vf : Int) (s : Nat) : List Value := [.bool o, .int .u32 (v : Int), .int .i64 vf, .int .i64 (s : Int)]
theorem RAt.setO {w : World} {g : Nat} {R : Rn} (h : RAt w g R) {o : Bool} {v : Nat} {vf : Int} {s : Nat} (hr : R.rest = gRest o v vf s) (o' : Bool) : RAt (w.setCell ⟨g, 22, none⟩ (.bool o')) g { R with rest := gRest o' v vf s } := h.setTail 4 rfl (by simp only [Rn.tail, hr]; rfl)
theorem RAt.setV {w : World} {g : Nat} {R : Rn} (h : RAt w g R) {o : Bool} {v : Nat} {vf : Int} {s : Nat} (hr : R.rest = gRest o v vf s) (v' : Nat) : RAt (w.setCell ⟨g, 23, none⟩ (.int .u32 (v' : Int))) g { R with rest := gRest o v' vf s } := h.setTail 5 rfl (by simp only [Rn.tail, hr]; rfl)
theorem RAt.setVf {w : World} {g : Nat} {R : Rn} (h : RAt w g R) {o : Bool} {v : Nat} {vf : Int} {s : Nat} (hr : R.rest = gRest o v vf s) (f : Int) : RAt (w.setCell ⟨g, 24, none⟩ (.int .i64 f)) g { R with rest := gRest o v f s } := h.setTail 6 rfl (by simp only [Rn.tail, hr]; rfl)
theorem RAt.setS {w : World} {g : Nat} {R : Rn} (h : RAt w g R) {o : Bool} {v : Nat} {vf : Int} {s : Nat} (hr : R.rest = gRest o v vf s) (s' : Nat) : RAt (w.setCell ⟨g, 25, none⟩ (.int .i64 (s' : Int))) g { R with rest := gRest o v vf s' } := h.setTail 7 rfl (by simp only [Rn.tail, hr]; rfl)
theorem RAt.o {w : World} {g : Nat} {R : Rn} (h : RAt w g R) {o : Bool} {v : Nat} {vf : Int} {s : Nat} (hr : R.rest = gRest o v vf s) : w.cell? ⟨g, 22, none⟩ = some (.bool o) := by
  have := h.tl 4
  rw [Rn.tail, hr] at this
  exact this
theorem RAt.v {w : World} {g : Nat} {R : Rn} (h : RAt w g R) {o : Bool} {v : Nat} {vf : Int} {s : Nat} (hr : R.rest = gRest o v vf s) : w.cell? ⟨g, 23, none⟩ = some (.int .u32 (v : Int)) := by
  have := h.tl 5
  rw [Rn.tail, hr] at this
  exact this
theorem RAt.vf {w : World} {g : Nat} {R : Rn} (h : RAt w g R) {o : Bool} {v : Nat} {vf : Int} {s : Nat} (hr : R.rest = gRest o v vf s) : w.cell? ⟨g, 24, none⟩ = some (.int .i64 vf) := by
  have := h.tl 6
  rw [Rn.tail, hr] at this
  exact this
theorem RAt.s {w : World} {g : Nat} {R : Rn} (h : RAt w g R) {o : Bool} {v : Nat} {vf : Int} {s : Nat} (hr : R.rest = gRest o v vf s) : w.cell? ⟨g, 25, none⟩ = some (.int .i64 (s : Int)) := by
  have := h.tl 7
  rw [Rn.tail, hr] at this
  exact this

/-- What a deed leaves. -/
def DeedPost (w : World) (g : Nat) (R : Rn) (M : Mc) (f : Int) (e : Ending) (w' : World) : Prop := e = .returned (.tuple #[]) ∧ RAt w' g { R with M := M, f := f } ∧ w.grownBy w' (some g)

end Go.Proofs.YtencoknpocipbaaGreat

namespace Go.Proofs.YtencoknpocipbaaGreat
open Go.RowKit
set_option maxRecDepth 100000

/-- An instruction as a value. -/
abbrev ginV (x : In) : Value := .agg #[.int .u16 (x.code.toNat : Int), .int .u8 (x.jt.toNat : Int), .int .u8 (x.jf.toNat : Int), .int .u32 (x.k.toNat : Int)]
theorem code_lt (x : In) : (0 : Int) ≤ (x.code.toNat : Int) ∧ (x.code.toNat : Int) ≤ 65535 := by
  have := x.code.toNat_lt
  omega

set_option maxHeartbeats 400000 in
theorem leaves_any (x : In) (w : World) : Calls Tryz.prog 56 #[ginV x] w fun e w' => e = .returned (.bool (leavesB x)) ∧ w.grownBy w' none := by
  have G0 : w.grownBy (w.alloc (.cells #[.int .u16 (x.code.toNat : Int), .int .u8 (x.jt.toNat : Int), .int .u8 (x.jf.toNat : Int), .int .u32 (x.k.toNat : Int)] 54)) none := World.grownBy_alloc _ _ _
  go_enter Tryz.func56, Tryz.ntmps56
  go_wp2_with fail
  refine (class_any _ _ (code_lt x).1 (code_lt x).2).mono ?_
  rintro e w1 ⟨rfl, K⟩
  have G1 := grown_trans G0 K
  clear G0 K
  cases h5 : (classV x.code.toNat == 5) with
  | true =>
    go_wp2
    go_ret
    exact ⟨ret_bool (by simp [leavesB, h5]), G1⟩
  | false =>
    go_wp2
    go_ret
    exact ⟨ret_bool (by simp [leavesB, h5]), G1⟩

set_option maxHeartbeats 400000 in
theorem gasks_any (x : In) (w : World) : Calls Tryz.prog 123 #[ginV x] w fun e w' => e = .returned (.bool (usesJ x.code.toNat)) ∧ w.grownBy w' none := by
  have G0 : w.grownBy (w.alloc (.cells #[.int .u16 (x.code.toNat : Int), .int .u8 (x.jt.toNat : Int), .int .u8 (x.jf.toNat : Int), .int .u32 (x.k.toNat : Int)] 54)) none := World.grownBy_alloc _ _ _
  go_enter Tryz.func123, Tryz.ntmps123
  go_wp2_with fail
  refine (uses_any _ _).mono ?_
  rintro e w1 ⟨rfl, K⟩
  go_wp2
  go_ret
  exact ⟨rfl, grown_trans G0 K⟩

theorem vnew (W : World) (cs : Array Value) (t k : Nat) (h : W.heap.size = k) : GVt (W.alloc (.cells cs t)) k t cs := by subst h; exact heap_alloc_new W _
theorem vkeep {W : World} {k t : Nat} {cs : Array Value} (h : GVt W k t cs) (o : Obj) : GVt (W.alloc o) k t cs := h.kept (World.grownBy_alloc _ _ _)

theorem sizeIn : (Tryz.prog.info? 54).map (·.size) = some 4 := by kernel_rfl

set_option maxHeartbeats 1000000 in
theorem gbare_any (x : In) (w : World) : Calls Tryz.prog 58 #[ginV x] w fun e w' => e = .returned (ginV (bareV x)) ∧ w.grownBy w' none := by
  obtain ⟨c, t, f, k⟩ := x
  show Calls Tryz.prog 58 #[.agg #[.int .u16 (c.toNat : Int), .int .u8 (t.toNat : Int), .int .u8 (f.toNat : Int), .int .u32 (k.toNat : Int)]] w _
  have eb : bareV ⟨c, t, f, k⟩ = ⟨c, 0, 0, if usesK c.toNat = true then k else 0⟩ := rfl
  rw [eb]
  obtain ⟨k', hk'⟩ : ∃ k', (if usesK (c.toNat : Int) = true then k else 0) = k' := ⟨_, rfl⟩
  rw [hk']
  have HK' : Hid ((if usesK (c.toNat : Int) = true then k else 0) = k') := hk'
  clear hk'
  obtain ⟨W, hW⟩ : ∃ W, (((w.alloc (.cells #[.int .u16 (c.toNat : Int), .int .u8 (t.toNat : Int), .int .u8 (f.toNat : Int), .int .u32 (k.toNat : Int)] 54)).alloc (.cells #[.int .u16 0, .int .u8 0, .int .u8 0, .int .u32 0] 54)).alloc (.cells #[.int .u16 (c.toNat : Int), .int .u8 0, .int .u8 0, .int .u32 0] 54)) = W := ⟨_, rfl⟩
  have A0 : GVt W w.heap.size 54 #[.int .u16 (c.toNat : Int), .int .u8 (t.toNat : Int), .int .u8 (f.toNat : Int), .int .u32 (k.toNat : Int)] := by rw [← hW]; exact vkeep (vkeep (vnew _ _ _ _ rfl) _) _
  have B0 : GVt W (w.heap.size + 1) 54 #[.int .u16 0, .int .u8 0, .int .u8 0, .int .u32 0] := by rw [← hW]; exact vkeep (vnew _ _ _ _ (by simp only [World.size_alloc])) _
  have C0 : GVt W (w.heap.size + 1 + 1) 54 #[.int .u16 (c.toNat : Int), .int .u8 0, .int .u8 0, .int .u32 0] := by rw [← hW]; exact vnew _ _ _ _ (by simp only [World.size_alloc])
  have G0 : w.grownBy W none := by rw [← hW]; exact grown_trans (grown_trans (World.grownBy_alloc _ _ _) (World.grownBy_alloc _ _ _)) (World.grownBy_alloc _ _ _)
  have HW : Hid ((((w.alloc (.cells #[.int .u16 (c.toNat : Int), .int .u8 (t.toNat : Int), .int .u8 (f.toNat : Int), .int .u32 (k.toNat : Int)] 54)).alloc (.cells #[.int .u16 0, .int .u8 0, .int .u8 0, .int .u32 0] 54)).alloc (.cells #[.int .u16 (c.toNat : Int), .int .u8 0, .int .u8 0, .int .u32 0] 54)) = W) := hW
  clear hW eb
  go_enter Tryz.func58, Tryz.ntmps58
  go_upto_region 2 with fail
  rw [HW.out]
  clear HW
  obtain ⟨B, hB⟩ : ∃ B, w.heap.size + 1 = B := ⟨_, rfl⟩
  rw [hB] at B0 C0 ⊢
  obtain ⟨C, hC⟩ : ∃ C, B + 1 = C := ⟨_, rfl⟩
  rw [hC] at C0 ⊢
  obtain ⟨A, hA⟩ : ∃ A, w.heap.size = A := ⟨_, rfl⟩
  rw [hA] at A0 ⊢
  have HN : Hid (w.heap.size ≤ A ∧ w.heap.size ≤ B ∧ w.heap.size ≤ C ∧ A ≠ B ∧ A ≠ C ∧ B ≠ C) := ⟨by omega, by omega, by omega, by omega, by omega, by omega⟩
  clear hB hC hA
  have a0 : W.cell? ⟨A, 0, none⟩ = some (.int .u16 (c.toNat : Int)) := A0.cell 0
  have HB : Hid (GVt W A 54 #[.int .u16 (c.toNat : Int), .int .u8 (t.toNat : Int), .int .u8 (f.toNat : Int), .int .u32 (k.toNat : Int)] ∧ GVt W B 54 #[.int .u16 0, .int .u8 0, .int .u8 0, .int .u32 0] ∧ GVt W C 54 #[.int .u16 (c.toNat : Int), .int .u8 0, .int .u8 0, .int .u32 0] ∧ w.grownBy W none) := ⟨A0, B0, C0, G0⟩
  clear A0 B0 C0 G0
  go_wp2_with fail
  refine (uses_any _ _).mono ?_
  rintro e w1 ⟨rfl, K⟩
  obtain ⟨A0, B0, C0, G0⟩ := HB.out
  have A1 := A0.kept K
  have B1 := B0.kept K
  have C1 := C0.kept K
  have HG : Hid (w.grownBy w1 none) := grown_trans G0 K
  obtain ⟨l1, l2, l3, n1, n2, n3⟩ := HN.out
  clear HN HB K G0 A0 B0 C0 a0
  have a3 : w1.cell? ⟨A, 3, none⟩ = some (.int .u32 (k.toNat : Int)) := A1.cell 3
  have c3 : w1.cell? ⟨C, 3, none⟩ = some (.int .u32 0) := C1.cell 3
  have f3 := C1.free 3
  cases hu : usesK (c.toNat : Int) with
  | true =>
    have C2 := C1.set 3 (.int .u32 (k.toNat : Int))
    have HK : Hid (w1.grownBy (w1.setCell ⟨C, 3, none⟩ (.int .u32 (k.toNat : Int))) (some C)) := grown_set1 _ _ _
    have B2 := B1.grown HK.out (by simp; omega)
    have a0 : w1.cell? ⟨A, 0, none⟩ = some (.int .u16 (c.toNat : Int)) := A1.cell 0
    clear C1 B1 A1
    go_upto_region 5 with fail
    have L2 := C2
    generalize w1.setCell ⟨C, 3, none⟩ (.int .u32 (k.toNat : Int)) = w2 at *
    rw [show (#[Value.int .u16 (c.toNat : Int), .int .u8 0, .int .u8 0, .int .u32 0].setIfInBounds 3 (.int .u32 (k.toNat : Int)) : Array Value) = #[.int .u16 (c.toNat : Int), .int .u8 0, .int .u8 0, .int .u32 (k.toNat : Int)] from rfl] at C2
    clear a0 a3 c3 f3 L2
    go_wp2_with (first | refine wpList_load_row rfl 54 (.tmp 3) rfl C rfl 54 #[.int .u16 (c.toNat : Int), .int .u8 0, .int .u8 0, .int .u32 (k.toNat : Int)] (0, 0) _ C2 Tryz.underlying54 rfl sizeIn ?_ | refine wpList_store_row rfl 54 (.tmp 2) (.tmp 21) rfl B #[.int .u16 (c.toNat : Int), .int .u8 0, .int .u8 0, .int .u32 (k.toNat : Int)] rfl rfl 54 _ B2 sizeIn rfl (by simp [Value.oneCell']) ?_)
    refine bodyPost_ret (results_cell_row rfl _ _ B _ #[.int .u16 (c.toNat : Int), .int .u8 0, .int .u8 0, .int .u32 (k.toNat : Int)] (0, 0) _ rfl (B2.setRow _) Tryz.underlying54 rfl sizeIn) rfl ?_
    refine ⟨by rw [← HK'.out, if_pos hu]; rfl, gvgrown_setRow (grown_trans_new HG.out HK.out (fun x e => by cases e; exact l3)) _ _ (.inr l2)⟩
  | false =>
    have B2 := B1
    have C2 := C1
    clear C1 B1 A1 a3 c3 f3
    go_upto_region 5 with fail
    go_wp2_with (first | refine wpList_load_row rfl 54 (.tmp 3) rfl C rfl 54 #[.int .u16 (c.toNat : Int), .int .u8 0, .int .u8 0, .int .u32 0] (0, 0) _ C2 Tryz.underlying54 rfl sizeIn ?_ | refine wpList_store_row rfl 54 (.tmp 2) (.tmp 21) rfl B #[.int .u16 (c.toNat : Int), .int .u8 0, .int .u8 0, .int .u32 0] rfl rfl 54 _ B2 sizeIn rfl (by simp [Value.oneCell']) ?_)
    refine bodyPost_ret (results_cell_row rfl _ _ B _ #[.int .u16 (c.toNat : Int), .int .u8 0, .int .u8 0, .int .u32 0] (0, 0) _ rfl (B2.setRow _) Tryz.underlying54 rfl sizeIn) rfl ?_
    refine ⟨by rw [← HK'.out, if_neg (by rw [hu]; simp)]; rfl, gvgrown_setRow HG.out _ _ (.inr l2)⟩

/-- The closure that asks whether a goal lies ahead. -/
theorem behind_any (i n : Nat) (y : Int) (I N : Nat) (w : World) (hI : w.cell? ⟨I, 0, none⟩ = some (.int .i64 (i : Int))) (hN : w.cell? ⟨N, 0, none⟩ = some (.int .i64 (n : Int))) :
    Calls Tryz.prog 124 #[.int .i64 y, .pointer (some ⟨I, 0, none⟩), .pointer (some ⟨N, 0, none⟩)] w fun e w' => e = .returned (.bool (aheadB i n y)) ∧ w.grownBy w' none := by
  by_cases h : (i : Int) < y
  · go_enter Tryz.func124, Tryz.ntmps124
    go_wp2
    go_ret
    exact ⟨ret_bool (by simp [aheadB, h]), World.grownBy.refl _ _⟩
  · go_enter Tryz.func124, Tryz.ntmps124
    go_wp2
    go_ret
    exact ⟨ret_bool (by simp only [aheadB, decide_eq_false (Int.not_lt.2 h), Bool.false_and]), World.grownBy.refl _ _⟩

end Go.Proofs.YtencoknpocipbaaGreat

namespace Go.Proofs.YtencoknpocipbaaGreat
open Go.RowKit
set_option maxRecDepth 100000

/-- A block's cells, and the block as a value. -/
abbrev bkA (b : Bk) (a : Option Addr) (ca : Nat) : Array Value := #[.slice a b.code.length ca, .int .i64 b.en, .int .u16 (b.last.code.toNat : Int), .int .u8 (b.last.jt.toNat : Int), .int .u8 (b.last.jf.toNat : Int), .int .u32 (b.last.k.toNat : Int), .int .i64 b.yes, .int .i64 b.no]
abbrev bkV (b : Bk) (a : Option Addr) (ca : Nat) : Value := .agg (bkA b a ca)

set_option maxHeartbeats 1000000 in
theorem leads_any (b : Bk) (a : Option Addr) (ca i n : Nat) (w : World) : Calls Tryz.prog 113 #[bkV b a ca, .int .i64 (i : Int), .int .i64 (n : Int)] w fun e w' => e = .returned (.bool (leadsB b i n)) ∧ w.grownBy w' none := by
  obtain ⟨code, en, last, yes, no⟩ := b
  obtain ⟨c, t, f, k⟩ := last
  simp only [bkV, bkA]
  obtain ⟨W, hW⟩ : ∃ W, (((w.alloc (.cells #[.slice a code.length ca, .int .i64 en, .int .u16 (c.toNat : Int), .int .u8 (t.toNat : Int), .int .u8 (f.toNat : Int), .int .u32 (k.toNat : Int), .int .i64 yes, .int .i64 no] 56)).alloc (.cells #[.int .i64 (i : Int)] 3)).alloc (.cells #[.int .i64 (n : Int)] 3)) = W := ⟨_, rfl⟩
  have A0 : GVt W w.heap.size 56 #[.slice a code.length ca, .int .i64 en, .int .u16 (c.toNat : Int), .int .u8 (t.toNat : Int), .int .u8 (f.toNat : Int), .int .u32 (k.toNat : Int), .int .i64 yes, .int .i64 no] := by rw [← hW]; exact vkeep (vkeep (vnew _ _ _ _ rfl) _) _
  have B0 : GVt W (w.heap.size + 1) 3 #[.int .i64 (i : Int)] := by rw [← hW]; exact vkeep (vnew _ _ _ _ (by simp only [World.size_alloc])) _
  have C0 : GVt W (w.heap.size + 1 + 1) 3 #[.int .i64 (n : Int)] := by rw [← hW]; exact vnew _ _ _ _ (by simp only [World.size_alloc])
  have G0 : w.grownBy W none := by rw [← hW]; exact grown_trans (grown_trans (World.grownBy_alloc _ _ _) (World.grownBy_alloc _ _ _)) (World.grownBy_alloc _ _ _)
  have HW : Hid ((((w.alloc (.cells #[.slice a code.length ca, .int .i64 en, .int .u16 (c.toNat : Int), .int .u8 (t.toNat : Int), .int .u8 (f.toNat : Int), .int .u32 (k.toNat : Int), .int .i64 yes, .int .i64 no] 56)).alloc (.cells #[.int .i64 (i : Int)] 3)).alloc (.cells #[.int .i64 (n : Int)] 3)) = W) := hW
  clear hW
  have a1 : W.cell? ⟨w.heap.size, 1, none⟩ = some (.int .i64 en) := A0.cell 1
  have a6 : W.cell? ⟨w.heap.size, 6, none⟩ = some (.int .i64 yes) := A0.cell 6
  have a7 : W.cell? ⟨w.heap.size, 7, none⟩ = some (.int .i64 no) := A0.cell 7
  have HB : Hid (W.cell? ⟨w.heap.size + 1, 0, none⟩ = some (.int .i64 (i : Int)) ∧ W.cell? ⟨w.heap.size + 1 + 1, 0, none⟩ = some (.int .i64 (n : Int))) := ⟨B0.cell 0, C0.cell 0⟩
  clear A0 B0 C0
  go_enter Tryz.func113, Tryz.ntmps113
  go_upto_region 1 with fail
  rw [HW.out]
  clear HW
  obtain ⟨B, hB⟩ : ∃ B, w.heap.size + 1 = B := ⟨_, rfl⟩
  rw [hB] at HB ⊢
  obtain ⟨C, hC⟩ : ∃ C, B + 1 = C := ⟨_, rfl⟩
  rw [hC] at HB ⊢
  obtain ⟨A, hA⟩ : ∃ A, w.heap.size = A := ⟨_, rfl⟩
  rw [hA] at a1 a6 a7 ⊢
  clear hB hC hA
  by_cases h2 : en = 2
  · subst h2
    go_wp2_with fail
    refine (behind_any i n yes _ _ _ HB.out.1 HB.out.2).mono ?_
    rintro e w1 ⟨rfl, K⟩
    go_wp2
    go_ret
    exact ⟨ret_bool (by simp [leadsB]), grown_trans G0 K⟩
  · have h2' : (en == 2) = false := by rw [beq_eq_false_iff_ne]; exact h2
    by_cases h3 : en = 3
    · subst h3
      go_wp2_with fail
      refine (behind_any i n yes _ _ _ HB.out.1 HB.out.2).mono ?_
      rintro e w1 ⟨rfl, K⟩
      have HB1 : Hid (w1.cell? ⟨B, 0, none⟩ = some (.int .i64 (i : Int)) ∧ w1.cell? ⟨C, 0, none⟩ = some (.int .i64 (n : Int))) := ⟨K.cell HB.out.1 (by simp), K.cell HB.out.2 (by simp)⟩
      have b7 := K.cell a7 (by simp)
      cases hy : aheadB i n yes with
      | true =>
        go_wp2_with fail
        refine (behind_any i n no _ _ _ HB1.out.1 HB1.out.2).mono ?_
        rintro e w2 ⟨rfl, K2⟩
        go_wp2
        go_ret
        exact ⟨ret_bool (by simp [leadsB, hy]), grown_trans (grown_trans G0 K) K2⟩
      | false =>
        go_wp2
        go_ret
        exact ⟨ret_bool (by simp [leadsB, hy]), grown_trans G0 K⟩
    · have h3' : (en == 3) = false := by rw [beq_eq_false_iff_ne]; exact h3
      go_wp2
      go_ret
      exact ⟨ret_bool (by simp [leadsB, h2, h3]), G0⟩

end Go.Proofs.YtencoknpocipbaaGreat

namespace Go.Proofs.YtencoknpocipbaaGreat
open Go.RowKit
set_option maxRecDepth 100000

theorem yieldsIf_bld {P : Program} {ops : Array Oper} {S : World → Prop} {op : Oper} {a : Act} (hw : Region.wanted op (yielded ops a.tmps) = true) (t : TypeId) (ps : Array (Nat × Operand)) (ho : op.op = .build t ps) (qs : Array (Nat × Value)) (hq : ps.map (fun (i, x) => (i, a.eval x)) = qs) (v : Value) (hr : ∀ W : World, (Instr.build t qs).run P W = .ok v W) : YieldsIf P ops S op v a :=
  .inl ⟨hw, fun w _ => by
    unfold execOp
    have hr' := hr w
    rw [← hq] at hr'
    simp only [ho, Sem.run_bind, Sem.run_pure, Result.andThen_ok, hr']⟩

end Go.Proofs.YtencoknpocipbaaGreat

namespace Go.Proofs.YtencoknpocipbaaGreat
open Go.RowKit
set_option maxRecDepth 100000

theorem GVt.other {w : World} {g t k : Nat} {cs : Array Value} (h : GVt w g t cs) (ds : Array Value) (hk : g ≠ k) : GVt (w.setRow k ds) g t cs := by
  unfold GVt at *
  rw [gvheap_setRow_ne _ _ _ _ hk]
  exact h
theorem GVt.setOther {w : World} {g t k i : Nat} {cs : Array Value} (h : GVt w g t cs) (u : Value) (hk : g ≠ k) : GVt (w.setCell ⟨k, i, none⟩ u) g t cs := by
  unfold GVt at *
  simp only [World.setCell, Array.getElem?_modify, if_neg (Ne.symm hk)]
  exact h

theorem gstep_alloc {P : Program} {ops : Array Oper} {o : Oper} {a : Act} {w : World} {K : Act → World → Prop} {Q : Exit → Act → World → Prop} {E : Prop}
    (hgd : o.guard = none) (t : TypeId) (ho : o.op = .alloc t) (cs : Array Value)
    (hr : ∀ W : World, (Instr.alloc t true (.tuple #[])).run P W = .ok (.pointer (some ⟨W.heap.size, 0, none⟩)) (W.alloc (.cells cs t)))
    (hK : ∀ V w', GVt w' V t cs → w.grownBy w' none → w.heap.size ≤ V → K (a.put o.dst (.pointer (some ⟨V, 0, none⟩))) w') :
    if Region.wanted o (yielded ops a.tmps) = true then Oper.wp P o a w K Q else E := by
  have hw : Region.wanted o (yielded ops a.tmps) = true := by simp [Region.wanted, hgd]
  rw [if_pos hw]
  unfold Oper.wp execOp
  simp only [ho, Sem.run_bind, Sem.run_pure, Result.andThen_ok, hr]
  exact hK _ _ (GVt.alloc w t cs) (World.grownBy_alloc _ _ _) (Nat.le_refl _)

/-- A load of a whole block's row may be taken first. -/
theorem gyieldsIf_load_row {P : Program} {ops : Array Oper} {S : World → Prop} {op : Oper} {a : Act} (hw : Region.wanted op (yielded ops a.tmps) = true) (ty : TypeId) (x : Operand) (ho : op.op = .load ty x)
    (g : Nat) (hx : a.eval x = .pointer (some ⟨g, 0, none⟩)) (t : TypeId) (cs : Array Value) (d : TypeDesc) (hS : ∀ w, S w → GVt w g t cs)
    (hu : P.underlying ty = some d) (hd : (match d with | .struct _ | .array _ _ => true | _ => false) = true) (hi : (P.info? ty).map (·.size) = some cs.size) : YieldsIf P ops S op (.agg cs) a :=
  .inl ⟨hw, fun w hw' => by
    unfold execOp
    simp only [ho, hx, Instr.loadAt, Instr.sureAddr, Sem.run_bind, Sem.run_pure, Result.andThen_ok, run_loadVar_row w g t ty cs (0, 0) d (hS w hw') hu hd hi]⟩

end Go.Proofs.YtencoknpocipbaaGreat
