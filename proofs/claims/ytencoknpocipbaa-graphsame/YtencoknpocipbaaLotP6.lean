/-
  Package insn: Known, Class, Uses. The machine's words in memory. The landed machine: a run's block of 28 cells.
-/
import Derived.Test.YtencoknpocipbaaLotP5
import Derived.Test.YtencoknpocipbaaLotP4
import Derived.Laws.Rows
import Derived.Laws.Tables
import Derived.Laws.ResultCell
namespace Go.Proofs.Ytencoknpocipbaa
open Go.RowKit
set_option maxRecDepth 100000

/-- A known code is one of so many. -/
theorem known_cases {c : Int} (h : knownB c = true) : c ∈ ([0, 32, 40, 48, 64, 72, 80, 96, 128, 1, 97, 129, 177, 2, 3, 132, 6, 22, 7, 135, 5, 21, 29, 37, 45, 53, 61, 69, 77, 4, 12, 20, 28, 36, 44, 52, 60, 68, 76, 84, 92, 100, 108, 116, 124, 148, 156, 164, 172] : List Int) := by
  simp only [knownB, plainB, jumpB, operB, Bool.or_eq_true, beq_iff_eq] at h
  simp only [List.mem_cons, List.not_mem_nil, or_false]
  omega

theorem known_all (p : Int → Bool) (hp : ([0, 32, 40, 48, 64, 72, 80, 96, 128, 1, 97, 129, 177, 2, 3, 132, 6, 22, 7, 135, 5, 21, 29, 37, 45, 53, 61, 69, 77, 4, 12, 20, 28, 36, 44, 52, 60, 68, 76, 84, 92, 100, 108, 116, 124, 148, 156, 164, 172] : List Int).all p = true) {c : Int} (h : knownB c = true) : p c = true := List.all_eq_true.1 hp c (known_cases h)

theorem tK_known {c : Int} (h : tK c = true) : knownB c = true := by
  simp only [tK, loadB, knownB, plainB, jumpB, operB, Bool.or_eq_true, beq_iff_eq] at *
  omega

theorem tF_known {c : Int} (h : tF c = true) : knownB c = true := by
  simp only [tF, loadB, knownB, plainB, jumpB, operB, Bool.or_eq_true, beq_iff_eq] at *
  omega

theorem tK_eq (c : Int) : tK c = usesK c := by
  cases hk : knownB c with
  | false =>
    cases ht : tK c with
    | true => rw [tK_known ht] at hk; cases hk
    | false => simp [usesK, hk]
  | true => exact eq_of_beq (known_all (fun c => tK c == usesK c) (by decide +kernel) hk)

theorem tJ_eq (c : Int) : jumpB c = usesJ c := by
  cases hj : jumpB c <;> simp [usesJ, knownB, hj]

theorem tF_eq (c : Int) : tF c = usesF c := by
  cases hk : knownB c with
  | false =>
    cases ht : tF c with
    | true => rw [tF_known ht] at hk; cases hk
    | false => simp [usesF, hk]
  | true => simp [usesF, hk, tF, Bool.or_assoc]

theorem told_field (x y z u : Bool) (w : World) : (Instr.field 114 (.agg #[.bool x, .bool y, .bool z, .bool u]) 0).run Try.prog w = .ok (.bool x) w := by kernel_rfl

set_option maxHeartbeats 400000 in
theorem known_any (c : Int) (w : World) : Calls Try.prog 43 #[.int .u16 c] w fun e w' => e = .returned (.bool (knownB c)) ∧ w.grownBy w' none := by
  go_enter Try.func43, Try.ntmps43
  go_wp2_with fail
  refine (traits_any c _).mono ?_
  rintro e w' ⟨rfl, G⟩
  have hfd : ∀ w : World, (Instr.field 114 (.agg #[.bool (knownB c), .bool (tK c), .bool (jumpB c), .bool (tF c)]) 0).run Try.prog w = .ok (.bool (knownB c)) w := fun w => told_field _ _ _ _ w
  go_wp2
  go_ret
  exact ⟨rfl, G⟩

set_option maxHeartbeats 400000 in
theorem class_any (c : Int) (w : World) (h0 : 0 ≤ c) (h1 : c ≤ 65535) : Calls Try.prog 28 #[.int .u16 c] w fun e w' => e = .returned (.int .i64 (classV c)) ∧ w.grownBy w' none := by
  have hb := and7 c h0 h1
  have b0 : 0 ≤ c % 8 := by omega
  have b1 : c % 8 < 8 := by omega
  cases hk : knownB c with
  | true =>
    go_enter Try.func28, Try.ntmps28
    go_wp2_with fail
    refine (known_any c _).mono ?_
    rintro e w' ⟨rfl, G⟩
    go_wp2
    go_ret
    exact ⟨by simp [classV, hk], G⟩
  | false =>
    go_enter Try.func28, Try.ntmps28
    go_wp2_with fail
    refine (known_any c _).mono ?_
    rintro e w' ⟨rfl, G⟩
    go_wp2
    go_ret
    exact ⟨by simp [classV, hk], G⟩

set_option maxHeartbeats 400000 in
theorem uses_any (c : Int) (w : World) : Calls Try.prog 96 #[.int .u16 c] w fun e w' => e = .returned (.tuple #[.bool (usesK c), .bool (usesJ c), .bool (usesF c)]) ∧ w.grownBy w' none := by
  rw [← tK_eq, ← tJ_eq, ← tF_eq]
  go_enter Try.func96, Try.ntmps96
  go_wp2_with fail
  refine (traits_any c _).mono ?_
  rintro e w' ⟨rfl, G⟩
  have G2 := grown_trans G (World.grownBy_alloc w' (.cells #[.bool (knownB c), .bool (tK c), .bool (jumpB c), .bool (tF c)] 114) none)
  clear G
  go_wp2
  go_quiet (fail)
  go_wp2
  go_ret3
  exact ⟨rfl, grown_trans G2 (grown_drewN _ _ none)⟩

end Go.Proofs.Ytencoknpocipbaa

namespace Go.Proofs.Ytencoknpocipbaa
open Go.RowKit
set_option maxRecDepth 100000

/-- The words lie in a block of their own. -/
def MAt (w : World) (t : TypeId) (base g : Nat) (M : Mc) : Prop := w.ownsRow base t 18 (.slice (some ⟨g, 0, none⟩) 1 1) 1 M.cells

theorem MAt.a {w : World} {t base g : Nat} {M : Mc} (h : MAt w t base g M) : w.cell? ⟨g, 0, none⟩ = some (.int .u32 (M.a : Int)) := by
  rw [World.ownsRow.cellAt h 0 (by omega)]; rfl

theorem MAt.x {w : World} {t base g : Nat} {M : Mc} (h : MAt w t base g M) : w.cell? ⟨g, 1, none⟩ = some (.int .u32 (M.x : Int)) := by
  rw [World.ownsRow.cellAt h 1 (by omega)]; rfl

theorem MAt.m {w : World} {t base g : Nat} {M : Mc} (h : MAt w t base g M) (hm : M.m.length = 16) (i : Nat) (hi : i < 16) : w.cell? ⟨g, 2 + i, none⟩ = some (.int .u32 (M.m.getD i 0 : Int)) := by
  rw [World.ownsRow.cellAt h (2 + i) (by omega), Mc.cells, show 2 + i = i + 1 + 1 by omega, List.getElem?_cons_succ, List.getElem?_cons_succ, List.getElem?_map, List.getElem?_eq_getElem (by omega)]
  simp [u32v, List.getElem?_eq_getElem (show i < M.m.length by omega)]

theorem MAt.free {w : World} {t base g : Nat} {M : Mc} (h : MAt w t base g M) (i : Nat) : w.frozen? ⟨g, i, none⟩ = false := World.ownsRow.frozenAt h i

theorem MAt.setA {w : World} {t base g : Nat} {M : Mc} (h : MAt w t base g M) (v : Nat) : MAt (w.setCell ⟨g, 0, none⟩ (.int .u32 (v : Int))) t base g ⟨v, M.x, M.m⟩ := (World.ownsRow.stored h 0 (.int .u32 (v : Int))).1

theorem MAt.setX {w : World} {t base g : Nat} {M : Mc} (h : MAt w t base g M) (v : Nat) : MAt (w.setCell ⟨g, 1, none⟩ (.int .u32 (v : Int))) t base g ⟨M.a, v, M.m⟩ := (World.ownsRow.stored h 1 (.int .u32 (v : Int))).1

theorem MAt.setM {w : World} {t base g : Nat} {M : Mc} (h : MAt w t base g M) (i v : Nat) : MAt (w.setCell ⟨g, 2 + i, none⟩ (.int .u32 (v : Int))) t base g ⟨M.a, M.x, M.m.set i v⟩ := by
  have := (World.ownsRow.stored h (2 + i) (.int .u32 (v : Int))).1
  unfold MAt
  have e : (Mc.cells ⟨M.a, M.x, M.m.set i v⟩) = M.cells.set (2 + i) (.int .u32 (v : Int)) := by
    rw [Mc.cells, Mc.cells, show 2 + i = i + 1 + 1 by omega, List.set_cons_succ, List.set_cons_succ, List.map_set]
    rfl
  rw [e]
  exact this

theorem MAt.lt {w : World} {t base g : Nat} {M : Mc} (h : MAt w t base g M) : base ≤ g ∧ g < w.heap.size := World.ownsRow.lt h g rfl

theorem MAt.kept {w w' : World} {t base g : Nat} {row : Option Nat} {M : Mc} (h : MAt w t base g M) (hg : w.grownBy w' row) (hne : row ≠ some g) : MAt w' t base g M :=
  World.ownsRow.kept h hg (.inr (by simp only [Value.ownBlock]; exact fun e => hne e.symm))

theorem mat_new (w : World) (t base : Nat) (hb : base ≤ w.heap.size) : MAt (w.alloc (.cells #[.int .u32 0, .int .u32 0, .int .u32 0, .int .u32 0, .int .u32 0, .int .u32 0, .int .u32 0, .int .u32 0, .int .u32 0, .int .u32 0, .int .u32 0, .int .u32 0, .int .u32 0, .int .u32 0, .int .u32 0, .int .u32 0, .int .u32 0, .int .u32 0] t)) t base w.heap.size mc0 :=
  World.ownsRow_lit (e := t) (size := 18) w #[.int .u32 0, .int .u32 0, .int .u32 0, .int .u32 0, .int .u32 0, .int .u32 0, .int .u32 0, .int .u32 0, .int .u32 0, .int .u32 0, .int .u32 0, .int .u32 0, .int .u32 0, .int .u32 0, .int .u32 0, .int .u32 0, .int .u32 0, .int .u32 0] 1 hb (by unfold maxLen; omega) (by simp)

theorem vand15 (k : Nat) (hk : k ≤ 4294967295) : bits .and .u32 (k : Int) 15 = ((k % 16 : Nat) : Int) := by
  have := u32_and_nat k 15 (by omega) (by omega)
  rw [show ((15 : Nat) : Int) = 15 by rfl] at this
  rw [this, show (15 : Nat) = 2 ^ 4 - 1 by rfl, Nat.and_two_pow_sub_one_eq_mod]

end Go.Proofs.Ytencoknpocipbaa

namespace Go.Proofs.Ytencoknpocipbaa
open Go.RowKit
set_option maxRecDepth 100000

/-- Cells lie in a block of their own. -/
def GVt (w : World) (g t : Nat) (cs : Array Value) : Prop := w.heap[g]? = some (.cells cs t (0, 0))
theorem GVt.cell {w : World} {g t : Nat} {cs : Array Value} (h : GVt w g t cs) (i : Nat) : w.cell? ⟨g, i, none⟩ = cs[i]? := cell_of_row w g i cs t (0, 0) h
theorem GVt.free {w : World} {g t : Nat} {cs : Array Value} (h : GVt w g t cs) (i : Nat) : w.frozen? ⟨g, i, none⟩ = false := by
  unfold GVt at h
  simp [World.frozen?, h]
theorem GVt.lt {w : World} {g t : Nat} {cs : Array Value} (h : GVt w g t cs) : g < w.heap.size := by
  unfold GVt at h
  by_cases hb : g < w.heap.size
  · exact hb
  · rw [Array.getElem?_eq_none (by omega)] at h; cases h
theorem GVt.grown {w w' : World} {g t : Nat} {cs : Array Value} {row : Option Nat} (h : GVt w g t cs) (G : w.grownBy w' row) (hr : row ≠ some g) : GVt w' g t cs := by
  have := G.block g h.lt (Ne.symm hr)
  unfold GVt at *
  rw [this, h]
theorem GVt.kept {w w' : World} {g t : Nat} {cs : Array Value} (h : GVt w g t cs) (G : w.grownBy w' none) : GVt w' g t cs := h.grown G (by simp)
theorem GVt.set {w : World} {g t : Nat} {cs : Array Value} (h : GVt w g t cs) (i : Nat) (v : Value) : GVt (w.setCell ⟨g, i, none⟩ v) g t (cs.setIfInBounds i v) := by
  unfold GVt at *
  simp only [World.setCell, Array.getElem?_modify, h, if_true, Option.map_some]
  rfl
theorem GVt.alloc (w : World) (t : Nat) (cs : Array Value) : GVt (w.alloc (.cells cs t)) w.heap.size t cs := heap_alloc_new w _
theorem GVt.setRow {w : World} {g t : Nat} {cs : Array Value} (h : GVt w g t cs) (ds : Array Value) : GVt (w.setRow g ds) g t ds := by
  unfold GVt at *
  exact setRow_heap w g _ _ t _ h
theorem gvheap_setRow_ne (w : World) (g k : Nat) (cs : Array Value) (h : k ≠ g) : (w.setRow g cs).heap[k]? = w.heap[k]? := by
  simp [World.setRow, Array.getElem?_modify, Ne.symm h]
theorem gvgrown_setRow {w W : World} {row : Option Nat} (G : w.grownBy W row) (g : Nat) (cs : Array Value) (hg : row = some g ∨ w.heap.size ≤ g) : w.grownBy (W.setRow g cs) row := by
  refine ⟨G.os, G.tape, G.output, by rw [setRow_size]; exact G.size, fun i hi hr => ?_⟩
  have : i ≠ g := by
    rintro rfl
    rcases hg with hg | hg
    · exact hr hg.symm
    · omega
  rw [gvheap_setRow_ne _ _ _ _ this]
  exact G.block i hi hr
/-- A result row that lies in a block, and a second result. -/
theorem vret_row {P : Program} {fn : Func} {p u : Tmp} {ty : TypeId} (h : fn.results = #[.cell p ty, .tmp u]) (tmps : Array Value) (w : World) (g : Nat) (cs : Array Value) (d : TypeDesc) (hp : tmps.getD p undef = .pointer (some ⟨g, 0, none⟩)) (A : GVt w g ty cs)
    (hu : P.underlying ty = some d) (hd : (match d with | .struct _ | .array _ _ => true | _ => false) = true) (hi : (P.info? ty).map (·.size) = some cs.size) : (results fn tmps).run P w = .ok (.tuple #[.agg cs, tmps.getD u undef]) w := by
  rw [results_cell_tmp h, hp]
  have := run_loadVar_row (P := P) w g ty ty cs (0, 0) _ A hu hd hi
  simp only [asAddr, Sem.run_pure, Result.andThen, this]

/-- A run: its words, the packet, the fault, the two tables; the type of its block, and what else lies in it. -/
structure Rn where
  M : Mc
  pk : Value
  f : Int
  d : Value
  q : Value
  t : Nat
  rest : List Value

def Rn.tail (R : Rn) : List Value := R.pk :: .int .i64 R.f :: R.d :: R.q :: R.rest
def Rn.arr (R : Rn) : Array Value := (R.M.cells ++ R.tail).toArray
/-- It lies in a block. -/
def RAt (w : World) (g : Nat) (R : Rn) : Prop := GVt w g R.t R.arr ∧ R.M.m.length = 16

theorem cells_len {M : Mc} (h : M.m.length = 16) : M.cells.length = 18 := by simp [Mc.cells, h]

theorem RAt.word {w : World} {g : Nat} {R : Rn} (h : RAt w g R) (i : Nat) (hi : i < 18) : w.cell? ⟨g, i, none⟩ = R.M.cells[i]? := by
  rw [h.1.cell i, Rn.arr, List.getElem?_toArray, List.getElem?_append_left (by rw [cells_len h.2]; exact hi)]
theorem RAt.tl {w : World} {g : Nat} {R : Rn} (h : RAt w g R) (i : Nat) : w.cell? ⟨g, 18 + i, none⟩ = R.tail[i]? := by
  rw [h.1.cell (18 + i), Rn.arr, List.getElem?_toArray, List.getElem?_append_right (by rw [cells_len h.2]; omega), cells_len h.2, Nat.add_sub_cancel_left]
theorem RAt.a {w : World} {g : Nat} {R : Rn} (h : RAt w g R) : w.cell? ⟨g, 0, none⟩ = some (.int .u32 (R.M.a : Int)) := h.word 0 (by omega)
theorem RAt.x {w : World} {g : Nat} {R : Rn} (h : RAt w g R) : w.cell? ⟨g, 1, none⟩ = some (.int .u32 (R.M.x : Int)) := h.word 1 (by omega)
theorem RAt.m {w : World} {g : Nat} {R : Rn} (h : RAt w g R) (i : Nat) (hi : i < 16) : w.cell? ⟨g, 2 + i, none⟩ = some (.int .u32 (R.M.m.getD i 0 : Int)) := by
  rw [h.word (2 + i) (by omega), Mc.cells, show 2 + i = i + 1 + 1 by omega, List.getElem?_cons_succ, List.getElem?_cons_succ, List.getElem?_map, List.getElem?_eq_getElem (by have := h.2; omega)]
  simp [u32v, List.getElem?_eq_getElem (show i < R.M.m.length by have := h.2; omega)]
theorem RAt.free {w : World} {g : Nat} {R : Rn} (h : RAt w g R) (i : Nat) : w.frozen? ⟨g, i, none⟩ = false := h.1.free i
theorem RAt.grown {w w' : World} {g : Nat} {R : Rn} {row : Option Nat} (h : RAt w g R) (G : w.grownBy w' row) (hr : row ≠ some g) : RAt w' g R := ⟨h.1.grown G hr, h.2⟩
theorem RAt.kept {w w' : World} {g : Nat} {R : Rn} (h : RAt w g R) (G : w.grownBy w' none) : RAt w' g R := ⟨h.1.kept G, h.2⟩

theorem arr_word {R R' : Rn} {i : Nat} {v : Value} (hm : R.M.m.length = 16) (hi : i < 18) (ht : R'.tail = R.tail) (hw : R'.M.cells = R.M.cells.set i v) : R'.arr = R.arr.setIfInBounds i v := by
  rw [Rn.arr, Rn.arr, List.setIfInBounds_toArray, List.set_append_left _ _ (by rw [cells_len hm]; exact hi), ht, hw]
theorem arr_tail {R R' : Rn} {i : Nat} {v : Value} (hm : R.M.m.length = 16) (hM : R'.M = R.M) (ht : R'.tail = R.tail.set i v) : R'.arr = R.arr.setIfInBounds (18 + i) v := by
  rw [Rn.arr, Rn.arr, List.setIfInBounds_toArray, List.set_append_right _ _ (by rw [cells_len hm]; omega), cells_len hm, Nat.add_sub_cancel_left, ht, hM]

theorem RAt.setWord {w : World} {g : Nat} {R R' : Rn} {i : Nat} {v : Value} (h : RAt w g R) (hi : i < 18) (hl : R'.M.m.length = 16) (ht : R'.tail = R.tail) (hw : R'.M.cells = R.M.cells.set i v) (ht0 : R'.t = R.t := by rfl) : RAt (w.setCell ⟨g, i, none⟩ v) g R' := by
  refine ⟨?_, hl⟩
  rw [arr_word h.2 hi ht hw, ht0]
  exact h.1.set _ _
theorem RAt.setTail {w : World} {g : Nat} {R R' : Rn} {v : Value} (h : RAt w g R) (i : Nat) (hM : R'.M = R.M) (ht : R'.tail = R.tail.set i v) (ht0 : R'.t = R.t := by rfl) : RAt (w.setCell ⟨g, 18 + i, none⟩ v) g R' := by
  refine ⟨?_, by rw [hM]; exact h.2⟩
  rw [arr_tail h.2 hM ht, ht0]
  exact h.1.set _ _
theorem RAt.setA {w : World} {g : Nat} {R : Rn} (h : RAt w g R) (v : Nat) : RAt (w.setCell ⟨g, 0, none⟩ (.int .u32 (v : Int))) g { R with M := ⟨v, R.M.x, R.M.m⟩ } := h.setWord (by omega) h.2 rfl rfl
theorem RAt.setX {w : World} {g : Nat} {R : Rn} (h : RAt w g R) (v : Nat) : RAt (w.setCell ⟨g, 1, none⟩ (.int .u32 (v : Int))) g { R with M := ⟨R.M.a, v, R.M.m⟩ } := h.setWord (by omega) h.2 rfl rfl
theorem RAt.setM {w : World} {g : Nat} {R : Rn} (h : RAt w g R) (i v : Nat) (hi : i < 16) : RAt (w.setCell ⟨g, 2 + i, none⟩ (.int .u32 (v : Int))) g { R with M := ⟨R.M.a, R.M.x, R.M.m.set i v⟩ } := by
  refine h.setWord (by omega) (by simp [h.2]) rfl ?_
  rw [Mc.cells, Mc.cells, show 2 + i = i + 1 + 1 by omega, List.set_cons_succ, List.set_cons_succ, List.map_set]
  rfl
theorem RAt.setF {w : World} {g : Nat} {R : Rn} (h : RAt w g R) (f : Int) : RAt (w.setCell ⟨g, 19, none⟩ (.int .i64 f)) g { R with f := f } := h.setTail 1 rfl rfl
/-- What a run through a graph holds besides: is it over?, the verdict. -/
def gRest (o : Bool) (v : Nat) (vf : Int) (s : Nat) : List Value := [.bool o, .int .u32 (v : Int), .int .i64 vf, .int .i64 (s : Int)]
theorem RAt.setO {w : World} {g : Nat} {R : Rn} (h : RAt w g R) {o : Bool} {v : Nat} {vf : Int} {s : Nat} (hr : R.rest = gRest o v vf s) (o' : Bool) : RAt (w.setCell ⟨g, 22, none⟩ (.bool o')) g { R with rest := gRest o' v vf s } := h.setTail 4 rfl (by simp only [Rn.tail, hr]; rfl)
theorem RAt.setV {w : World} {g : Nat} {R : Rn} (h : RAt w g R) {o : Bool} {v : Nat} {vf : Int} {s : Nat} (hr : R.rest = gRest o v vf s) (v' : Nat) : RAt (w.setCell ⟨g, 23, none⟩ (.int .u32 (v' : Int))) g { R with rest := gRest o v' vf s } := h.setTail 5 rfl (by simp only [Rn.tail, hr]; rfl)
theorem RAt.setVf {w : World} {g : Nat} {R : Rn} (h : RAt w g R) {o : Bool} {v : Nat} {vf : Int} {s : Nat} (hr : R.rest = gRest o v vf s) (f : Int) : RAt (w.setCell ⟨g, 24, none⟩ (.int .i64 f)) g { R with rest := gRest o v f s } := h.setTail 6 rfl (by simp only [Rn.tail, hr]; rfl)
theorem RAt.setS {w : World} {g : Nat} {R : Rn} (h : RAt w g R) {o : Bool} {v : Nat} {vf : Int} {s : Nat} (hr : R.rest = gRest o v vf s) (s' : Nat) : RAt (w.setCell ⟨g, 25, none⟩ (.int .i64 (s' : Int))) g { R with rest := gRest o v vf s' } := h.setTail 7 rfl (by simp only [Rn.tail, hr]; rfl)
theorem RAt.o {w : World} {g : Nat} {R : Rn} (h : RAt w g R) {o : Bool} {v : Nat} {vf : Int} {s : Nat} (hr : R.rest = gRest o v vf s) : w.cell? ⟨g, 22, none⟩ = some (.bool o) := by
  have := h.tl 4
  rw [Rn.tail, hr] at this
  exact this
theorem RAt.v {w : World} {g : Nat} {R : Rn} (h : RAt w g R) {o : Bool} {v : Nat} {vf : Int} {s : Nat} (hr : R.rest = gRest o v vf s) : w.cell? ⟨g, 23, none⟩ = some (.int .u32 (v : Int)) := by
  have := h.tl 5
  rw [Rn.tail, hr] at this
  exact this
theorem RAt.vf {w : World} {g : Nat} {R : Rn} (h : RAt w g R) {o : Bool} {v : Nat} {vf : Int} {s : Nat} (hr : R.rest = gRest o v vf s) : w.cell? ⟨g, 24, none⟩ = some (.int .i64 vf) := by
  have := h.tl 6
  rw [Rn.tail, hr] at this
  exact this
theorem RAt.s {w : World} {g : Nat} {R : Rn} (h : RAt w g R) {o : Bool} {v : Nat} {vf : Int} {s : Nat} (hr : R.rest = gRest o v vf s) : w.cell? ⟨g, 25, none⟩ = some (.int .i64 (s : Int)) := by
  have := h.tl 7
  rw [Rn.tail, hr] at this
  exact this

/-- What a deed leaves. -/
def DeedPost (w : World) (g : Nat) (R : Rn) (M : Mc) (f : Int) (e : Ending) (w' : World) : Prop := e = .returned (.tuple #[]) ∧ RAt w' g { R with M := M, f := f } ∧ w.grownBy w' (some g)

end Go.Proofs.Ytencoknpocipbaa
