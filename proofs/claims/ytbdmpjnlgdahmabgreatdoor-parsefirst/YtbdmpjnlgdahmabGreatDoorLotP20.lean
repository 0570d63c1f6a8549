/-
  Arrays of bytes in a block; the document's own groups, Parse4, Print4. Arrays of bytes held against each other. Nodes in memory: twenty-four cells each; SameNodes, SpoilNodes. Lists of ints: SameInts, SpoilInts.
-/
import Derived.Test.YtbdmpjnlgdahmabGreatDoorLotP19
import Derived.Laws.Rows
import Derived.Laws.ResultCell
import Derived.Deep.DeepCutAuto
import Derived.ChangeKeysEq
import Derived.Test.YtbdmpjnlgdahmabGreatDoorLotP6
import Derived.Test.YtbdmpjnlgdahmabGreatDoorLotP3
import Derived.Test.YtbdmpjnlgdahmabGreatDoorLotP1
import Derived.Laws.StructEq
import Derived.Deep.MidRow
namespace Go.Proofs.YtbdmpjnlgdahmabGreatDoor
open Go.RowKit
set_option maxRecDepth 100000

/-- An array of bytes lies in a block of its own. -/
def AAt (w : World) (g t : Nat) (xs : List UInt8) : Prop := w.heap[g]? = some (.cells (xs.map bv).toArray t (0, 0))
theorem AAt.cell {w : World} {g t : Nat} {xs : List UInt8} (h : AAt w g t xs) {i : Nat} (hi : i < xs.length) : w.cell? ⟨g, i, none⟩ = some (.int .u8 (xs[i].toNat : Int)) := by
  unfold AAt at h
  rw [cell_of_row w g i _ t (0, 0) h]
  simp [hi, bv]
theorem AAt.free {w : World} {g t : Nat} {xs : List UInt8} (h : AAt w g t xs) (i : Nat) : w.frozen? ⟨g, i, none⟩ = false := by
  unfold AAt at h
  simp [World.frozen?, h]
theorem AAt.lt {w : World} {g t : Nat} {xs : List UInt8} (h : AAt w g t xs) : g < w.heap.size := by
  unfold AAt at h
  by_cases hb : g < w.heap.size
  · exact hb
  · rw [Array.getElem?_eq_none (by omega)] at h; cases h
theorem AAt.grown {w w' : World} {g t : Nat} {xs : List UInt8} {row : Option Nat} (h : AAt w g t xs) (G : w.grownBy w' row) (hr : row ≠ some g) : AAt w' g t xs := by
  have := G.block g h.lt (Ne.symm hr)
  unfold AAt at *
  rw [this, h]
theorem AAt.set {w : World} {g t : Nat} {xs : List UInt8} (h : AAt w g t xs) (i n : Nat) (hn : n < 256) : AAt (w.setCell ⟨g, i, none⟩ (.int .u8 (n : Int))) g t (xs.set i (UInt8.ofNat n)) := by
  unfold AAt at *
  have e : bv (UInt8.ofNat n) = .int .u8 (n : Int) := by
    unfold bv
    rw [UInt8.toNat_ofNat_of_lt' (by simpa using hn)]
  simp only [World.setCell, Array.getElem?_modify, h, if_true, Option.map_some]
  rw [List.map_set, e]
  simp
theorem AAt.alloc (w : World) (t : Nat) (xs : List UInt8) : AAt (w.alloc (.cells (xs.map bv).toArray t)) w.heap.size t xs := heap_alloc_new w _
theorem AAt.drew {w : World} {g t : Nat} {xs : List UInt8} (h : AAt w g t xs) : AAt w.drew g t xs := h
theorem AAt.setRow {w : World} {g t : Nat} {xs : List UInt8} (h : AAt w g t xs) (ys : List UInt8) : AAt (w.setRow g (ys.map bv).toArray) g t ys := by
  unfold AAt at *
  exact setRow_heap w g _ _ t _ h
theorem heap_setRow_ne (w : World) (g k : Nat) (cs : Array Value) (h : k ≠ g) : (w.setRow g cs).heap[k]? = w.heap[k]? := by
  simp [World.setRow, Array.getElem?_modify, Ne.symm h]
theorem grown_setRow {w W : World} {row : Option Nat} (G : w.grownBy W row) (g : Nat) (cs : Array Value) (hg : row = some g ∨ w.heap.size ≤ g) : w.grownBy (W.setRow g cs) row := by
  refine ⟨G.os, G.tape, G.output, by rw [setRow_size]; exact G.size, fun i hi hr => ?_⟩
  have : i ≠ g := by
    rintro rfl
    rcases hg with hg | hg
    · exact hr hg.symm
    · omega
  rw [heap_setRow_ne _ _ _ _ this]
  exact G.block i hi hr
theorem AAt.other {w : World} {g t k : Nat} {xs : List UInt8} (h : AAt w g t xs) (cs : Array Value) (hk : g ≠ k) : AAt (w.setRow k cs) g t xs := by
  unfold AAt at *
  rw [heap_setRow_ne _ _ _ _ hk]
  exact h
theorem AAt.setOther {w : World} {g t k i : Nat} {xs : List UInt8} (h : AAt w g t xs) (u : Value) (hk : g ≠ k) : AAt (w.setCell ⟨k, i, none⟩ u) g t xs := by
  unfold AAt at *
  simp only [World.setCell, Array.getElem?_modify, if_neg (Ne.symm hk)]
  exact h
theorem bv_all (xs : List UInt8) : (xs.map bv).toArray.all (·.oneCell') = true := by
  rw [Array.all_eq_true_iff_forall_mem]
  intro v hv
  exact bv_one xs v (by simpa using hv)
theorem bv_size (xs : List UInt8) : (xs.map bv).toArray.size = xs.length := by simp

/-- How long a text is. -/
def strLen : Value → Nat
  | .string s => s.size
  | _ => 0

/-- The answer of a reading: an array, and an error. -/
def arrV (n : Nat) (r : Option (List UInt8)) : Value := .agg ((r.getD (List.replicate n 0)).map bv).toArray
def errV (r : Option (List UInt8)) : Int := if r.isSome = true then 0 else 60

/-- A result array that lies in a block, and a second result. -/
theorem ret_arr {P : Program} {fn : Func} {p u : Tmp} {ty : TypeId} (h : fn.results = #[.cell p ty, .tmp u]) (tmps : Array Value) (w : World) (g : Nat) (xs : List UInt8) (n : Nat) (e : TypeId) (hp : tmps.getD p undef = .pointer (some ⟨g, 0, none⟩)) (A : AAt w g ty xs)
    (hu : P.underlying ty = some (.array n e)) (hi : (P.info? ty).map (·.size) = some xs.length) : (results fn tmps).run P w = .ok (.tuple #[.agg (xs.map bv).toArray, tmps.getD u undef]) w := by
  rw [results_cell_tmp h, hp]
  have := run_loadVar_row (P := P) w g ty ty (xs.map bv).toArray (0, 0) _ A hu rfl (by rw [bv_size]; exact hi)
  simp only [asAddr, Sem.run_pure, Result.andThen, this]
/-- A result array that lies in a block. -/
theorem ret_arr1 {P : Program} {fn : Func} {p : Tmp} {ty : TypeId} (h : fn.results = #[.cell p ty]) (tmps : Array Value) (w : World) (g : Nat) (xs : List UInt8) (n : Nat) (e : TypeId) (hp : tmps.getD p undef = .pointer (some ⟨g, 0, none⟩)) (A : AAt w g ty xs)
    (hu : P.underlying ty = some (.array n e)) (hi : (P.info? ty).map (·.size) = some xs.length) : (results fn tmps).run P w = .ok (.agg (xs.map bv).toArray) w :=
  results_cell_row h tmps w g ty _ (0, 0) _ hp A hu rfl (by rw [bv_size]; exact hi)

theorem size116 : (Tryz.prog.info? 116).map (·.size) = some 4 := by kernel_rfl

theorem size48 : (Tryz.prog.info? 48).map (·.size) = some 16 := by kernel_rfl

theorem set_step (vs : List UInt8) (j k : Nat) (u : UInt8) (h : vs.length = j) (hk : 0 < k) : (vs ++ List.replicate k 0).set j u = (vs ++ [u]) ++ List.replicate (k - 1) 0 := by
  obtain ⟨m, rfl⟩ : ∃ m, k = m + 1 := ⟨k - 1, by omega⟩
  subst h
  rw [List.replicate_succ, List.set_append_right _ _ (Nat.le_refl _)]
  simp

end Go.Proofs.YtbdmpjnlgdahmabGreatDoor

namespace Go.Proofs.YtbdmpjnlgdahmabGreatDoor
open Go.RowKit
set_option maxRecDepth 100000

theorem items_bytes {P : Program} (d : Nat) (e : TypeId) (he : P.underlying e = some (.int .u8)) (hk : P.plainKey e = true) (xs ys : List UInt8) (w : World) (hl : xs.length = ys.length) :
    ∀ (m k : Nat), k + m = xs.length → (Op.eqItems (d + 1) e 1 (xs.map bv).toArray (ys.map bv).toArray (List.range' k m)).run P w = .ok (decide (xs.drop k = ys.drop k)) w
  | 0, k, h => by
    have e1 : xs.drop k = ys.drop k := by rw [List.drop_eq_nil_of_le (by omega), List.drop_eq_nil_of_le (by omega)]
    simp only [List.range'_zero, Op.eqItems, Sem.run_pure]
    rw [decide_eq_true e1]
  | m + 1, k, h => by
    have hx : k < xs.length := by omega
    have hy : k < ys.length := by omega
    have p1 := run_part_plain (P := P) w hk (xs := (xs.map bv).toArray) (off := k * 1) (v := bv xs[k]) (by simp [hx])
    have p2 := run_part_plain (P := P) w hk (xs := (ys.map bv).toArray) (off := k * 1) (v := bv ys[k]) (by simp [hy])
    have p3 : (Op.equalIn (d + 1) e (bv xs[k]) (bv ys[k])).run P w = .ok ((xs[k].toNat : Int) == (ys[k].toNat : Int)) w := run_equalIn_int w d e .u8 .u8 _ _ he
    have ih := items_bytes d e he hk xs ys w hl m (k + 1) (by omega)
    rw [List.range'_succ]
    simp only [Op.eqItems, Sem.run_bind, p1, p2, p3, Result.andThen_ok]
    rw [List.drop_eq_getElem_cons hx, List.drop_eq_getElem_cons hy]
    by_cases hq : xs[k] = ys[k]
    · rw [hq, show ((ys[k].toNat : Int) == (ys[k].toNat : Int)) = true by simp]
      simp only [Bool.not_true, Bool.false_eq_true, if_false]
      rw [ih]
      simp only [List.cons.injEq, true_and]
    · have : ((xs[k].toNat : Int) == (ys[k].toNat : Int)) = false := by
        rw [beq_eq_false_iff_ne]
        intro e
        exact hq (UInt8.toNat_inj.1 (by omega))
      rw [this]
      simp only [Bool.not_false, if_true, Sem.run_pure]
      rw [decide_eq_false (fun e => hq (List.cons.inj e).1)]

theorem eq_bytes {P : Program} {t e : TypeId} {n : Nat} {i : TypeInfo} (hu : P.underlying t = some (.array n e)) (hi : P.info? e = some i) (he : P.underlying e = some (.int .u8)) (hk : P.plainKey e = true) (hc : P.cellsOf e = 1) (xs ys : List UInt8) (hx : xs.length = n) (hy : ys.length = n) (w : World) :
    (Op.equalIn 10000 t (.agg (xs.map bv).toArray) (.agg (ys.map bv).toArray)).run P w = .ok (decide (xs = ys)) w := by
  rw [show (10000 : Nat) = 9999 + 1 from rfl, run_equalIn_array w 9999 _ _ hu hi, hc, List.range_eq_range', show (9999 : Nat) = 9998 + 1 from rfl, items_bytes 9998 e he hk xs ys w (by omega) n 0 (by omega)]
  rfl

theorem eq116 (xs ys : List UInt8) (hx : xs.length = 4) (hy : ys.length = 4) (w : World) : (Op.equalIn 10000 116 (.agg (xs.map bv).toArray) (.agg (ys.map bv).toArray)).run Tryz.prog w = .ok (decide (xs = ys)) w := by
  obtain ⟨i0, hi, -⟩ := info_parts info5
  exact eq_bytes Tryz.underlying116 hi Tryz.underlying5 (by kernel_rfl) (by kernel_rfl) xs ys hx hy w

theorem eq48 (xs ys : List UInt8) (hx : xs.length = 16) (hy : ys.length = 16) (w : World) : (Op.equalIn 10000 48 (.agg (xs.map bv).toArray) (.agg (ys.map bv).toArray)).run Tryz.prog w = .ok (decide (xs = ys)) w := by
  obtain ⟨i0, hi, -⟩ := info_parts info5
  exact eq_bytes Tryz.underlying48 hi Tryz.underlying5 (by kernel_rfl) (by kernel_rfl) xs ys hx hy w

end Go.Proofs.YtbdmpjnlgdahmabGreatDoor

namespace Go.Proofs.YtbdmpjnlgdahmabGreatDoor
open Go.RowKit
set_option maxRecDepth 100000

def adr (x : Nd) (i : Nat) : Value := .int .u8 ((x.addr.getD i 0).toNat : Int)
def Nd.cells (x : Nd) : List Value := [.int .i64 (x.kind : Int), .int .i64 (x.op : Int), .int .u32 (x.n : Int), .int .u32 (x.m : Int), .int .i64 (x.size : Int), .int .i64 (x.of : Int), .int .i64 (x.side : Int),
  adr x 0, adr x 1, adr x 2, adr x 3, adr x 4, adr x 5, adr x 6, adr x 7, adr x 8, adr x 9, adr x 10, adr x 11, adr x 12, adr x 13, adr x 14, adr x 15, .int .i64 (x.bits : Int)]
theorem Nd.cells_len (x : Nd) : x.cells.length = 24 := rfl

/-- The cells of a list of them. -/
def flatN (xs : List Nd) : List Value := xs.flatMap Nd.cells

theorem flatN_nil : flatN [] = [] := rfl
theorem flatN_cons (x : Nd) (xs : List Nd) : flatN (x :: xs) = x.cells ++ flatN xs := rfl
theorem flatN_append (xs ys : List Nd) : flatN (xs ++ ys) = flatN xs ++ flatN ys := by simp only [flatN, List.flatMap_append]
theorem flatN_one1 (x : Nd) : flatN [x] = x.cells := by rw [flatN_cons, flatN_nil, List.append_nil]

theorem flatN_len (xs : List Nd) : (flatN xs).length = xs.length * 24 := by
  induction xs with
  | nil => rfl
  | cons x xs ih => rw [flatN_cons, List.length_append, ih, List.length_cons, Nd.cells_len]; omega

theorem flatN_get (xs : List Nd) (i j : Nat) (hi : i < xs.length) (hj : j < 24) : (flatN xs)[i * 24 + j]? = (xs[i].cells)[j]? := by
  induction xs generalizing i with
  | nil => simp at hi
  | cons x xs ih =>
    rw [flatN_cons]
    have hl : x.cells.length = 24 := rfl
    cases i with
    | zero => rw [List.getElem?_append_left (by omega)]; simp
    | succ i =>
      rw [List.getElem?_append_right (by omega), hl, show (i + 1) * 24 + j - 24 = i * 24 + j by omega, ih i (by simpa using hi)]
      simp

theorem Nd.cells_one (x : Nd) : ∀ u ∈ x.cells, u.oneCell' = true := by
  intro u hu
  simp only [Nd.cells, adr, List.mem_cons, List.not_mem_nil, or_false] at hu
  rcases hu with rfl | rfl | rfl | rfl | rfl | rfl | rfl | rfl | rfl | rfl | rfl | rfl | rfl | rfl | rfl | rfl | rfl | rfl | rfl | rfl | rfl | rfl | rfl | rfl <;> rfl
theorem flatN_one (xs : List Nd) : ∀ u ∈ flatN xs, u.oneCell' = true := by
  intro u hu
  obtain ⟨x, _, hx⟩ := List.mem_flatMap.1 hu
  exact x.cells_one u hx

theorem CV.nodes {w : World} {ao : Option Addr} {xs : List Nd} (h : CV w ao (flatN xs)) {k : Nat} (hk : k < xs.length) :
    ∃ b off, ao = some ⟨b, off, none⟩ ∧ ∀ i (hi : i < xs.length), w.rangeAt b (off + i * 24) xs[i].cells := by
  have hl := flatN_len xs
  obtain ⟨b, off, hao, hc⟩ := h.addr (k := k * 24) (by omega)
  refine ⟨b, off, hao, fun i hi j v hv => ?_⟩
  have hj : j < 24 := (List.getElem?_eq_some_iff.1 hv).1
  rw [← flatN_get xs i j hi hj] at hv
  rw [Nat.add_assoc, hc (i * 24 + j) (by omega), ← hv, List.getElem?_eq_getElem (by omega)]

theorem size50 : (Tryz.prog.info? 50).map (·.size) = some 24 := by kernel_rfl
theorem info50 : (Tryz.prog.info? 50).map (fun i => (i.zero, i.size, i.bytes)) = some (some (.agg nd0.cells.toArray), 24, 72) := by kernel_rfl
/-- An owned row of nodes. -/
abbrev NOwns (w : World) (base : Nat) (v : Value) (xs : List Nd) : Prop := w.ownsRow base 50 24 v xs.length (flatN xs)

theorem eqFields_refl {P : Program} (d : Nat) (xs : Array Value) (w : World) : ∀ fs : List Field, (∀ f ∈ fs, ∃ a, (part f.type xs f.offset).run P w = .ok a w ∧ (Op.equalIn d f.type a a).run P w = .ok true w) → (Op.eqFields d xs xs fs).run P w = .ok true w
  | [], _ => by simp [Op.eqFields]
  | f :: fs, h => by
    obtain ⟨a, h1, h2⟩ := h f (List.mem_cons_self ..)
    have ih := eqFields_refl d xs w fs (fun g hg => h g (List.mem_cons_of_mem _ hg))
    unfold Op.eqFields
    split
    · simp only [Sem.run_bind, h1, h2, Result.andThen_ok, Bool.not_true, Bool.false_eq_true, if_false]
      exact ih
    · exact ih
theorem eq_arr {P : Program} {t e : TypeId} {n : Nat} {i : TypeInfo} (d : Nat) (hu : P.underlying t = some (.array n e)) (hi : P.info? e = some i) (he : P.underlying e = some (.int .u8)) (hk : P.plainKey e = true) (hc : P.cellsOf e = 1) (xs : List UInt8) (hx : xs.length = n) (w : World) :
    (Op.equalIn (d + 2) t (.agg (xs.map bv).toArray) (.agg (xs.map bv).toArray)).run P w = .ok true w := by
  rw [run_equalIn_array w (d + 1) _ _ hu hi, hc, List.range_eq_range', items_bytes d e he hk xs xs w rfl n 0 (by omega)]
  simp
def adrs (x : Nd) : List UInt8 := [x.addr.getD 0 0, x.addr.getD 1 0, x.addr.getD 2 0, x.addr.getD 3 0, x.addr.getD 4 0, x.addr.getD 5 0, x.addr.getD 6 0, x.addr.getD 7 0, x.addr.getD 8 0, x.addr.getD 9 0, x.addr.getD 10 0, x.addr.getD 11 0, x.addr.getD 12 0, x.addr.getD 13 0, x.addr.getD 14 0, x.addr.getD 15 0]
theorem node_fields : (Tryz.prog.fieldsOf 50).toList.map (fun f => (f.type, f.offset)) = [(3, 0), (3, 1), (31, 2), (31, 3), (3, 4), (3, 5), (3, 6), (48, 7), (3, 23)] := by kernel_rfl
theorem node_eq (x : Nd) (w : World) : (Op.equalIn 10000 50 (.agg x.cells.toArray) (.agg x.cells.toArray)).run Tryz.prog w = .ok true w := by
  obtain ⟨i0, hi, -⟩ := info_parts info5
  rw [show (10000 : Nat) = 9999 + 1 from rfl, run_equalIn_struct w 9999 _ _ _ (by kernel_rfl) (by kernel_rfl)]
  refine eqFields_refl 9999 _ w _ (fun f hf => ?_)
  have hm : (f.type, f.offset) ∈ (Tryz.prog.fieldsOf 50).toList.map (fun f => (f.type, f.offset)) := List.mem_map_of_mem hf
  rw [node_fields] at hm
  generalize f.type = ft at *
  generalize f.offset = fo at *
  simp only [List.mem_cons, Prod.mk.injEq, List.not_mem_nil, or_false] at hm
  rcases hm with ⟨rfl, rfl⟩ | ⟨rfl, rfl⟩ | ⟨rfl, rfl⟩ | ⟨rfl, rfl⟩ | ⟨rfl, rfl⟩ | ⟨rfl, rfl⟩ | ⟨rfl, rfl⟩ | ⟨rfl, rfl⟩ | ⟨rfl, rfl⟩
  · exact ⟨.int .i64 (x.kind : Int), by kernel_rfl, by rw [run_equalIn_int w 9998 _ _ .i64 _ _ Tryz.underlying3]; simp⟩
  · exact ⟨.int .i64 (x.op : Int), by kernel_rfl, by rw [run_equalIn_int w 9998 _ _ .i64 _ _ Tryz.underlying3]; simp⟩
  · exact ⟨.int .u32 (x.n : Int), by kernel_rfl, by rw [run_equalIn_int w 9998 _ _ .u32 _ _ Tryz.underlying31]; simp⟩
  · exact ⟨.int .u32 (x.m : Int), by kernel_rfl, by rw [run_equalIn_int w 9998 _ _ .u32 _ _ Tryz.underlying31]; simp⟩
  · exact ⟨.int .i64 (x.size : Int), by kernel_rfl, by rw [run_equalIn_int w 9998 _ _ .i64 _ _ Tryz.underlying3]; simp⟩
  · exact ⟨.int .i64 (x.of : Int), by kernel_rfl, by rw [run_equalIn_int w 9998 _ _ .i64 _ _ Tryz.underlying3]; simp⟩
  · exact ⟨.int .i64 (x.side : Int), by kernel_rfl, by rw [run_equalIn_int w 9998 _ _ .i64 _ _ Tryz.underlying3]; simp⟩
  · exact ⟨.agg ((adrs x).map bv).toArray, by kernel_rfl, eq_arr 9997 Tryz.underlying48 hi Tryz.underlying5 (by kernel_rfl) (by kernel_rfl) (adrs x) rfl w⟩
  · exact ⟨.int .i64 (x.bits : Int), by kernel_rfl, by rw [run_equalIn_int w 9998 _ _ .i64 _ _ Tryz.underlying3]; simp⟩

end Go.Proofs.YtbdmpjnlgdahmabGreatDoor

namespace Go.Proofs.YtbdmpjnlgdahmabGreatDoor
open Go.RowKit
set_option maxRecDepth 100000


def iv (z : Int) : Value := .int .i64 z

abbrev ZOwns (w : World) (base : Nat) (v : Value) (bs : List Int) : Prop := w.ownsRow base 3 1 v bs.length (bs.map iv)

theorem CV.ints {w : World} {ao : Option Addr} {bs : List Int} (h : CV w ao (bs.map iv)) {k : Nat} (hk : k < bs.length) :
    ∃ b off, ao = some ⟨b, off, none⟩ ∧ ∀ i (hi : i < bs.length), w.cell? ⟨b, off + i, none⟩ = some (.int .i64 bs[i]) := by
  obtain ⟨b, off, hao, hc⟩ := h.addr (k := k) (by simpa using hk)
  exact ⟨b, off, hao, fun i hi => by rw [hc i (by simpa using hi)]; simp [iv]⟩

set_option maxHeartbeats 400000 in
theorem zsame_any (a b : Option Addr) (ca cb : Nat) (xs : List Int) (w : World) (ha : CV w a (xs.map iv)) (hb : CV w b (xs.map iv)) (hm : xs.length ≤ 9223372036854775807) :
    Calls Tryz.prog 15 #[.slice a xs.length ca, .slice b xs.length cb] w fun e w' => e = .returned (.bool true) ∧ ∃ n, w' = w.drewN n := by
  have hne : ((xs.length : Int) != (xs.length : Int)) = false := by simp
  go_enter Tryz.func15, Tryz.ntmps15
  go_wp2
  go_loopw [5] (fun i wr => ∃ k : Nat, k ≤ xs.length ∧ i = .int .i64 k ∧ ∃ n, wr = w.drewN n) (fun i _ => xs.length - (intOf i).toNat)
  case atStart => exact ⟨0, Nat.zero_le _, rfl, 0, rfl⟩
  case round =>
    obtain ⟨k, hk, rfl, n, rfl⟩ := hrel
    by_cases hlt : k < xs.length
    · obtain ⟨b1, o1, rfl, h1⟩ := ha.ints hlt
      obtain ⟨b2, o2, rfl, h2⟩ := hb.ints hlt
      have c1 := h1 k hlt
      have c2 := h2 k hlt
      clear ha hb h1 h2
      generalize xs[k] = z at *
      have hl : (k : Int) < (xs.length : Int) := by omega
      go_wp2
      go_quiet (fail)
      go_wp2
      go_roundw
      case rel => exact ⟨k + 1, by omega, by go_num, _, by rfl⟩
      case measure => simp [intOf]; omega
    · go_wp2
      go_ret
      exact ⟨rfl, n, rfl⟩

/-- The two loops of SpoilInts, behind its append. -/
def ZSpoilRel (w : World) (row : Option Nat) (g g' n n' : Nat) (wr : World) : Prop := BlkN wr 3 g n ∧ BlkN wr 3 g' n' ∧ w.grownBy wr row

theorem ZSpoilRel.set {w wr : World} {row : Option Nat} {g g' n n' : Nat} (h : ZSpoilRel w row g g' n n' wr) {p : Addr} (hp : row = some p.block ∨ w.heap.size ≤ p.block) (u : Value) : ZSpoilRel w row g g' n n' (wr.setCell p u) :=
  ⟨h.1.setCell _ _, h.2.1.setCell _ _, grown_setCell h.2.2 _ _ hp⟩

end Go.Proofs.YtbdmpjnlgdahmabGreatDoor
