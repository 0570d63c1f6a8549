/-
  Nodes in memory: twenty-four cells each; SameNodes, SpoilNodes.
-/
import Derived.Test.YtblpmgkagbiogaaGreatLotP5
import Derived.Test.YtblpmgkagbiogaaGreatLotP3
import Derived.Test.YtblpmgkagbiogaaGreatLotP1
import Derived.Laws.StructEq
import Derived.Deep.MidRow
namespace Go.Proofs.YtblpmgkagbiogaaGreat
open Go.RowKit
set_option maxRecDepth 100000

def adr (x : Nd) (i : Nat) : Value := .int .u8 ((x.addr.getD i 0).toNat : Int)
def Nd.cells (x : Nd) : List Value := [.int .i64 (x.kind : Int), .int .i64 (x.op : Int), .int .u32 (x.n : Int), .int .u32 (x.m : Int), .int .i64 (x.size : Int), .int .i64 (x.of : Int), .int .i64 (x.side : Int),
  adr x 0, adr x 1, adr x 2, adr x 3, adr x 4, adr x 5, adr x 6, adr x 7, adr x 8, adr x 9, adr x 10, adr x 11, adr x 12, adr x 13, adr x 14, adr x 15, .int .i64 (x.bits : Int)]
theorem Nd.cells_len (x : Nd) : x.cells.length = 24 := rfl

/-- The cells of a list of them. -/
def flatN (xs : List Nd) : List Value := xs.flatMap Nd.cells

theorem flatN_nil : flatN [] = [] := rfl
theorem flatN_cons (x : Nd) (xs : List Nd) : flatN (x :: xs) = x.cells ++ flatN xs := rfl
theorem flatN_append (xs ys : List Nd) : flatN (xs ++ ys) = flatN xs ++ flatN ys := by simp only [flatN, List.flatMap_append]
theorem flatN_one1 (x : Nd) : flatN [x] = x.cells := by rw [flatN_cons, flatN_nil, List.append_nil]

theorem flatN_len (xs : List Nd) : (flatN xs).length = xs.length * 24 := by
  induction xs with
  | nil => rfl
  | cons x xs ih => rw [flatN_cons, List.length_append, ih, List.length_cons, Nd.cells_len]; omega

theorem flatN_get (xs : List Nd) (i j : Nat) (hi : i < xs.length) (hj : j < 24) : (flatN xs)[i * 24 + j]? = (xs[i].cells)[j]? := by
  induction xs generalizing i with
  | nil => simp at hi
  | cons x xs ih =>
    rw [flatN_cons]
    have hl : x.cells.length = 24 := rfl
    cases i with
    | zero => rw [List.getElem?_append_left (by omega)]; simp
    | succ i =>
      rw [List.getElem?_append_right (by omega), hl, show (i + 1) * 24 + j - 24 = i * 24 + j by omega, ih i (by simpa using hi)]
      simp

theorem Nd.cells_one (x : Nd) : ∀ u ∈ x.cells, u.oneCell' = true := by
  intro u hu
  simp only [Nd.cells, adr, List.mem_cons, List.not_mem_nil, or_false] at hu
  rcases hu with rfl | rfl | rfl | rfl | rfl | rfl | rfl | rfl | rfl | rfl | rfl | rfl | rfl | rfl | rfl | rfl | rfl | rfl | rfl | rfl | rfl | rfl | rfl | rfl <;> rfl
theorem flatN_one (xs : List Nd) : ∀ u ∈ flatN xs, u.oneCell' = true := by
  intro u hu
  obtain ⟨x, _, hx⟩ := List.mem_flatMap.1 hu
  exact x.cells_one u hx

theorem CV.nodes {w : World} {ao : Option Addr} {xs : List Nd} (h : CV w ao (flatN xs)) {k : Nat} (hk : k < xs.length) :
    ∃ b off, ao = some ⟨b, off, none⟩ ∧ ∀ i (hi : i < xs.length), w.rangeAt b (off + i * 24) xs[i].cells := by
  have hl := flatN_len xs
  obtain ⟨b, off, hao, hc⟩ := h.addr (k := k * 24) (by omega)
  refine ⟨b, off, hao, fun i hi j v hv => ?_⟩
  have hj : j < 24 := (List.getElem?_eq_some_iff.1 hv).1
  rw [← flatN_get xs i j hi hj] at hv
  rw [Nat.add_assoc, hc (i * 24 + j) (by omega), ← hv, List.getElem?_eq_getElem (by omega)]

theorem size37 : (Tryz.prog.info? 37).map (·.size) = some 24 := by kernel_rfl
theorem info37 : (Tryz.prog.info? 37).map (fun i => (i.zero, i.size, i.bytes)) = some (some (.agg nd0.cells.toArray), 24, 72) := by kernel_rfl
/-- An owned row of nodes. -/
abbrev NOwns (w : World) (base : Nat) (v : Value) (xs : List Nd) : Prop := w.ownsRow base 37 24 v xs.length (flatN xs)

theorem eqFields_refl {P : Program} (d : Nat) (xs : Array Value) (w : World) : ∀ fs : List Field, (∀ f ∈ fs, ∃ a, (part f.type xs f.offset).run P w = .ok a w ∧ (Op.equalIn d f.type a a).run P w = .ok true w) → (Op.eqFields d xs xs fs).run P w = .ok true w
  | [], _ => by simp [Op.eqFields]
  | f :: fs, h => by
    obtain ⟨a, h1, h2⟩ := h f (List.mem_cons_self ..)
    have ih := eqFields_refl d xs w fs (fun g hg => h g (List.mem_cons_of_mem _ hg))
    unfold Op.eqFields
    split
    · simp only [Sem.run_bind, h1, h2, Result.andThen_ok, Bool.not_true, Bool.false_eq_true, if_false]
      exact ih
    · exact ih
theorem eq_arr {P : Program} {t e : TypeId} {n : Nat} {i : TypeInfo} (d : Nat) (hu : P.underlying t = some (.array n e)) (hi : P.info? e = some i) (he : P.underlying e = some (.int .u8)) (hk : P.plainKey e = true) (hc : P.cellsOf e = 1) (xs : List UInt8) (hx : xs.length = n) (w : World) :
    (Op.equalIn (d + 2) t (.agg (xs.map bv).toArray) (.agg (xs.map bv).toArray)).run P w = .ok true w := by
  rw [run_equalIn_array w (d + 1) _ _ hu hi, hc, List.range_eq_range', items_bytes d e he hk xs xs w rfl n 0 (by omega)]
  simp
def adrs (x : Nd) : List UInt8 := [x.addr.getD 0 0, x.addr.getD 1 0, x.addr.getD 2 0, x.addr.getD 3 0, x.addr.getD 4 0, x.addr.getD 5 0, x.addr.getD 6 0, x.addr.getD 7 0, x.addr.getD 8 0, x.addr.getD 9 0, x.addr.getD 10 0, x.addr.getD 11 0, x.addr.getD 12 0, x.addr.getD 13 0, x.addr.getD 14 0, x.addr.getD 15 0]
theorem node_fields : (Tryz.prog.fieldsOf 37).toList.map (fun f => (f.type, f.offset)) = [(3, 0), (3, 1), (24, 2), (24, 3), (3, 4), (3, 5), (3, 6), (25, 7), (3, 23)] := by kernel_rfl
theorem node_eq (x : Nd) (w : World) : (Op.equalIn 10000 37 (.agg x.cells.toArray) (.agg x.cells.toArray)).run Tryz.prog w = .ok true w := by
  obtain ⟨i0, hi, -⟩ := info_parts info5
  rw [show (10000 : Nat) = 9999 + 1 from rfl, run_equalIn_struct w 9999 _ _ _ (by kernel_rfl) (by kernel_rfl)]
  refine eqFields_refl 9999 _ w _ (fun f hf => ?_)
  have hm : (f.type, f.offset) ∈ (Tryz.prog.fieldsOf 37).toList.map (fun f => (f.type, f.offset)) := List.mem_map_of_mem hf
  rw [node_fields] at hm
  generalize f.type = ft at *
  generalize f.offset = fo at *
  simp only [List.mem_cons, Prod.mk.injEq, List.not_mem_nil, or_false] at hm
  rcases hm with ⟨rfl, rfl⟩ | ⟨rfl, rfl⟩ | ⟨rfl, rfl⟩ | ⟨rfl, rfl⟩ | ⟨rfl, rfl⟩ | ⟨rfl, rfl⟩ | ⟨rfl, rfl⟩ | ⟨rfl, rfl⟩ | ⟨rfl, rfl⟩
  · exact ⟨.int .i64 (x.kind : Int), by kernel_rfl, by rw [run_equalIn_int w 9998 _ _ .i64 _ _ Tryz.underlying3]; simp⟩
  · exact ⟨.int .i64 (x.op : Int), by kernel_rfl, by rw [run_equalIn_int w 9998 _ _ .i64 _ _ Tryz.underlying3]; simp⟩
  · exact ⟨.int .u32 (x.n : Int), by kernel_rfl, by rw [run_equalIn_int w 9998 _ _ .u32 _ _ Tryz.underlying24]; simp⟩
  · exact ⟨.int .u32 (x.m : Int), by kernel_rfl, by rw [run_equalIn_int w 9998 _ _ .u32 _ _ Tryz.underlying24]; simp⟩
  · exact ⟨.int .i64 (x.size : Int), by kernel_rfl, by rw [run_equalIn_int w 9998 _ _ .i64 _ _ Tryz.underlying3]; simp⟩
  · exact ⟨.int .i64 (x.of : Int), by kernel_rfl, by rw [run_equalIn_int w 9998 _ _ .i64 _ _ Tryz.underlying3]; simp⟩
  · exact ⟨.int .i64 (x.side : Int), by kernel_rfl, by rw [run_equalIn_int w 9998 _ _ .i64 _ _ Tryz.underlying3]; simp⟩
  · exact ⟨.agg ((adrs x).map bv).toArray, by kernel_rfl, eq_arr 9997 Tryz.underlying25 hi Tryz.underlying5 (by kernel_rfl) (by kernel_rfl) (adrs x) rfl w⟩
  · exact ⟨.int .i64 (x.bits : Int), by kernel_rfl, by rw [run_equalIn_int w 9998 _ _ .i64 _ _ Tryz.underlying3]; simp⟩

end Go.Proofs.YtblpmgkagbiogaaGreat
