import Derived.Test.YtcodofamdhcfiaaGreatLotP2
import Derived.Laws.Rows
import Derived.Laws.ResultCell
import Derived.Deep.DeepCutAuto
import Derived.ChangeKeysEq
namespace Go.Proofs.YtcodofamdhcfiaaGreat
open Go.RowKit
set_option maxRecDepth 100000
structure Nd where
 kind : Nat
 op : Nat
 n : Nat
 m : Nat
 size : Nat
 of : Nat
 side : Nat
 addr : List UInt8
 bits : Nat
def nd0 : Nd := ⟨0, 0, 0, 0, 0, 0, 0, List.replicate 16 0, 0⟩
def AAt (w : World) (g t : Nat) (xs : List UInt8) : Prop := w.heap[g]? = some (.cells (xs.map bv).toArray t (0, 0))
theorem AAt.cell {w : World} {g t : Nat} {xs : List UInt8} (h : AAt w g t xs) {i : Nat} (hi : i < xs.length) : w.cell? ⟨g, i, none⟩ = some (.int .u8 (xs[i].toNat : Int)) := by
 unfold AAt at h
 rw [cell_of_row w g i _ t (0, 0) h]
 simp [hi, bv]
theorem AAt.free {w : World} {g t : Nat} {xs : List UInt8} (h : AAt w g t xs) (i : Nat) : w.frozen? ⟨g, i, none⟩ = false := by
 unfold AAt at h
 simp [World.frozen?, h]
theorem AAt.lt {w : World} {g t : Nat} {xs : List UInt8} (h : AAt w g t xs) : g < w.heap.size := by
 unfold AAt at h
 by_cases hb : g < w.heap.size
 ·exact hb
 ·rw [Array.getElem?_eq_none (by omega)] at h; cases h
theorem AAt.grown {w w' : World} {g t : Nat} {xs : List UInt8} {row : Option Nat} (h : AAt w g t xs) (G : w.grownBy w' row) (hr : row ≠ some g) : AAt w' g t xs := by
 have := G.block g h.lt (Ne.symm hr)
 unfold AAt at *
 rw [this, h]
theorem AAt.set {w : World} {g t : Nat} {xs : List UInt8} (h : AAt w g t xs) (i n : Nat) (hn : n < 256) : AAt (w.setCell ⟨g, i, none⟩ (.int .u8 (n : Int))) g t (xs.set i (UInt8.ofNat n)) := by
 unfold AAt at *
 have e : bv (UInt8.ofNat n) = .int .u8 (n : Int) := by
  unfold bv
  rw [UInt8.toNat_ofNat_of_lt' (by simpa using hn)]
 simp only [World.setCell, Array.getElem?_modify, h, if_true, Option.map_some]
 rw [List.map_set, e]
 simp
theorem AAt.alloc (w : World) (t : Nat) (xs : List UInt8) : AAt (w.alloc (.cells (xs.map bv).toArray t)) w.heap.size t xs := heap_alloc_new w _
theorem AAt.drew {w : World} {g t : Nat} {xs : List UInt8} (h : AAt w g t xs) : AAt w.drew g t xs := h
theorem AAt.setRow {w : World} {g t : Nat} {xs : List UInt8} (h : AAt w g t xs) (ys : List UInt8) : AAt (w.setRow g (ys.map bv).toArray) g t ys := by
 unfold AAt at *
 exact setRow_heap w g _ _ t _ h
theorem heap_setRow_ne (w : World) (g k : Nat) (cs : Array Value) (h : k ≠ g) : (w.setRow g cs).heap[k]? = w.heap[k]? := by
 simp [World.setRow, Array.getElem?_modify, Ne.symm h]
theorem AAt.other {w : World} {g t k : Nat} {xs : List UInt8} (h : AAt w g t xs) (cs : Array Value) (hk : g ≠ k) : AAt (w.setRow k cs) g t xs := by
 unfold AAt at *
 rw [heap_setRow_ne _ _ _ _ hk]
 exact h
theorem AAt.setOther {w : World} {g t k i : Nat} {xs : List UInt8} (h : AAt w g t xs) (u : Value) (hk : g ≠ k) : AAt (w.setCell ⟨k, i, none⟩ u) g t xs := by
 unfold AAt at *
 simp only [World.setCell, Array.getElem?_modify, if_neg (Ne.symm hk)]
 exact h
theorem items_bytes {P : Program} (d : Nat) (e : TypeId) (he : P.underlying e = some (.int .u8)) (hk : P.plainKey e = true) (xs ys : List UInt8) (w : World) (hl : xs.length = ys.length) :
  ∀ (m k : Nat), k + m = xs.length → (Op.eqItems (d + 1) e 1 (xs.map bv).toArray (ys.map bv).toArray (List.range' k m)).run P w = .ok (decide (xs.drop k = ys.drop k)) w
 | 0, k, h => by
  have e1 : xs.drop k = ys.drop k := by rw [List.drop_eq_nil_of_le (by omega), List.drop_eq_nil_of_le (by omega)]
  simp only [List.range'_zero, Op.eqItems, Sem.run_pure]
  rw [decide_eq_true e1]
 | m + 1, k, h => by
  have hx : k < xs.length := by omega
  have hy : k < ys.length := by omega
  have p1 := run_part_plain (P := P) w hk (xs := (xs.map bv).toArray) (off := k * 1) (v := bv xs[k]) (by simp [hx])
  have p2 := run_part_plain (P := P) w hk (xs := (ys.map bv).toArray) (off := k * 1) (v := bv ys[k]) (by simp [hy])
  have p3 : (Op.equalIn (d + 1) e (bv xs[k]) (bv ys[k])).run P w = .ok ((xs[k].toNat : Int) == (ys[k].toNat : Int)) w := run_equalIn_int w d e .u8 .u8 _ _ he
  have ih := items_bytes d e he hk xs ys w hl m (k + 1) (by omega)
  rw [List.range'_succ]
  simp only [Op.eqItems, Sem.run_bind, p1, p2, p3, Result.andThen_ok]
  rw [List.drop_eq_getElem_cons hx, List.drop_eq_getElem_cons hy]
  by_cases hq : xs[k] = ys[k]
  ·rw [hq, show ((ys[k].toNat : Int) == (ys[k].toNat : Int)) = true by simp]
   simp only [Bool.not_true, Bool.false_eq_true, if_false]
   rw [ih]
   simp only [List.cons.injEq, true_and]
  ·have : ((xs[k].toNat : Int) == (ys[k].toNat : Int)) = false := by
    rw [beq_eq_false_iff_ne]
    intro e
    exact hq (UInt8.toNat_inj.1 (by omega))
   rw [this]
   simp only [Bool.not_false, if_true, Sem.run_pure]
   rw [decide_eq_false (fun e => hq (List.cons.inj e).1)]
theorem eq_bytes {P : Program} {t e : TypeId} {n : Nat} {i : TypeInfo} (hu : P.underlying t = some (.array n e)) (hi : P.info? e = some i) (he : P.underlying e = some (.int .u8)) (hk : P.plainKey e = true) (hc : P.cellsOf e = 1) (xs ys : List UInt8) (hx : xs.length = n) (hy : ys.length = n) (w : World) :
  (Op.equalIn 10000 t (.agg (xs.map bv).toArray) (.agg (ys.map bv).toArray)).run P w = .ok (decide (xs = ys)) w := by
 rw [show (10000 : Nat) = 9999 + 1 from rfl, run_equalIn_array w 9999 _ _ hu hi, hc, List.range_eq_range', show (9999 : Nat) = 9998 + 1 from rfl, items_bytes 9998 e he hk xs ys w (by omega) n 0 (by omega)]
 rfl

end Go.Proofs.YtcodofamdhcfiaaGreat
