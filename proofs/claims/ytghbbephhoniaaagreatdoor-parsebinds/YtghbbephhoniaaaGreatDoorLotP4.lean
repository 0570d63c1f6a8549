import Derived.Test.YtghbbephhoniaaaGreatDoorLotP3
import Derived.Test.YtghbbephhoniaaaGreatDoorLotP2
import Derived.Test.YtghbbephhoniaaaGreatDoorLotP1
import Derived.Laws.StructEq
import Derived.Deep.MidRow
import Derived.Handy
import Derived.Laws.Rows
import Derived.Laws.Tables
import Derived.Laws.ResultCell
import Derived.Deep.DeepCutAuto
namespace Go.Proofs.YtghbbephhoniaaaGreatDoor
open Go.RowKit
set_option maxRecDepth 100000
def adr (x : Nd) (i : Nat) : Value := .int .u8 ((x.addr.getD i 0).toNat : Int)
def Nd.cells (x : Nd) : List Value := [.int .i64 (x.kind : Int), .int .i64 (x.op : Int), .int .u32 (x.n : Int), .int .u32 (x.m : Int), .int .i64 (x.size : Int), .int .i64 (x.of : Int), .int .i64 (x.side : Int),
 adr x 0, adr x 1, adr x 2, adr x 3, adr x 4, adr x 5, adr x 6, adr x 7, adr x 8, adr x 9, adr x 10, adr x 11, adr x 12, adr x 13, adr x 14, adr x 15, .int .i64 (x.bits : Int)]
theorem Nd.cells_len (x : Nd) : x.cells.length = 24 := rfl
def flatN (xs : List Nd) : List Value := xs.flatMap Nd.cells
theorem flatN_nil : flatN [] = [] := rfl
theorem flatN_cons (x : Nd) (xs : List Nd) : flatN (x :: xs) = x.cells ++ flatN xs := rfl
theorem flatN_append (xs ys : List Nd) : flatN (xs ++ ys) = flatN xs ++ flatN ys := by simp only [flatN, List.flatMap_append]
theorem flatN_one1 (x : Nd) : flatN [x] = x.cells := by rw [flatN_cons, flatN_nil, List.append_nil]
theorem flatN_len (xs : List Nd) : (flatN xs).length = xs.length * 24 := by
 induction xs with
 | nil => rfl
 | cons x xs ih => rw [flatN_cons, List.length_append, ih, List.length_cons, Nd.cells_len]; omega
theorem flatN_get (xs : List Nd) (i j : Nat) (hi : i < xs.length) (hj : j < 24) : (flatN xs)[i * 24 + j]? = (xs[i].cells)[j]? := by
 induction xs generalizing i with
 | nil => simp at hi
 | cons x xs ih =>
  rw [flatN_cons]
  have hl : x.cells.length = 24 := rfl
  cases i with
  | zero => rw [List.getElem?_append_left (by omega)]; simp
  | succ i =>
   rw [List.getElem?_append_right (by omega), hl, show (i + 1) * 24 + j - 24 = i * 24 + j by omega, ih i (by simpa using hi)]
   simp
theorem Nd.cells_one (x : Nd) : ∀ u ∈ x.cells, u.oneCell' = true := by
 intro u hu
 simp only [Nd.cells, adr, List.mem_cons, List.not_mem_nil, or_false] at hu
 rcases hu with rfl | rfl | rfl | rfl | rfl | rfl | rfl | rfl | rfl | rfl | rfl | rfl | rfl | rfl | rfl | rfl | rfl | rfl | rfl | rfl | rfl | rfl | rfl | rfl <;> rfl
theorem CV.nodes {w : World} {ao : Option Addr} {xs : List Nd} (h : CV w ao (flatN xs)) {k : Nat} (hk : k < xs.length) :
  ∃ b off, ao = some ⟨b, off, none⟩ ∧ ∀ i (hi : i < xs.length), w.rangeAt b (off + i * 24) xs[i].cells := by
 have hl := flatN_len xs
 obtain ⟨b, off, hao, hc⟩ := h.addr (k := k * 24) (by omega)
 refine ⟨b, off, hao, fun i hi j v hv => ?_⟩
 have hj : j < 24 := (List.getElem?_eq_some_iff.1 hv).1
 rw [← flatN_get xs i j hi hj] at hv
 rw [Nat.add_assoc, hc (i * 24 + j) (by omega), ← hv, List.getElem?_eq_getElem (by omega)]
theorem size28 : (Tryz.prog.info? 28).map (·.size) = some 24 := by kernel_rfl
theorem info28 : (Tryz.prog.info? 28).map (fun i => (i.zero, i.size, i.bytes)) = some (some (.agg nd0.cells.toArray), 24, 72) := by kernel_rfl
abbrev NOwns (w : World) (base : Nat) (v : Value) (xs : List Nd) : Prop := w.ownsRow base 28 24 v xs.length (flatN xs)
theorem eqFields_refl {P : Program} (d : Nat) (xs : Array Value) (w : World) : ∀ fs : List Field, (∀ f ∈ fs, ∃ a, (part f.type xs f.offset).run P w = .ok a w ∧ (Op.equalIn d f.type a a).run P w = .ok true w) → (Op.eqFields d xs xs fs).run P w = .ok true w
 | [], _ => by simp [Op.eqFields]
 | f :: fs, h => by
  obtain ⟨a, h1, h2⟩ := h f (List.mem_cons_self ..)
  have ih := eqFields_refl d xs w fs (fun g hg => h g (List.mem_cons_of_mem _ hg))
  unfold Op.eqFields
  split
  ·simp only [Sem.run_bind, h1, h2, Result.andThen_ok, Bool.not_true, Bool.false_eq_true, if_false]
   exact ih
  ·exact ih
theorem eq_arr {P : Program} {t e : TypeId} {n : Nat} {i : TypeInfo} (d : Nat) (hu : P.underlying t = some (.array n e)) (hi : P.info? e = some i) (he : P.underlying e = some (.int .u8)) (hk : P.plainKey e = true) (hc : P.cellsOf e = 1) (xs : List UInt8) (hx : xs.length = n) (w : World) :
  (Op.equalIn (d + 2) t (.agg (xs.map bv).toArray) (.agg (xs.map bv).toArray)).run P w = .ok true w := by
 rw [run_equalIn_array w (d + 1) _ _ hu hi, hc, List.range_eq_range', items_bytes d e he hk xs xs w rfl n 0 (by omega)]
 simp
def adrs (x : Nd) : List UInt8 := [x.addr.getD 0 0, x.addr.getD 1 0, x.addr.getD 2 0, x.addr.getD 3 0, x.addr.getD 4 0, x.addr.getD 5 0, x.addr.getD 6 0, x.addr.getD 7 0, x.addr.getD 8 0, x.addr.getD 9 0, x.addr.getD 10 0, x.addr.getD 11 0, x.addr.getD 12 0, x.addr.getD 13 0, x.addr.getD 14 0, x.addr.getD 15 0]
theorem node_fields : (Tryz.prog.fieldsOf 28).toList.map (fun f => (f.type, f.offset)) = [(3, 0), (3, 1), (22, 2), (22, 3), (3, 4), (3, 5), (3, 6), (26, 7), (3, 23)] := by kernel_rfl
theorem node_eq (x : Nd) (w : World) : (Op.equalIn 10000 28 (.agg x.cells.toArray) (.agg x.cells.toArray)).run Tryz.prog w = .ok true w := by
 obtain ⟨i0, hi, -⟩ := info_parts info5
 rw [show (10000 : Nat) = 9999 + 1 from rfl, run_equalIn_struct w 9999 _ _ _ (by kernel_rfl) (by kernel_rfl)]
 refine eqFields_refl 9999 _ w _ (fun f hf => ?_)
 have hm : (f.type, f.offset) ∈ (Tryz.prog.fieldsOf 28).toList.map (fun f => (f.type, f.offset)) := List.mem_map_of_mem hf
 rw [node_fields] at hm
 generalize f.type = ft at *
 generalize f.offset = fo at *
 simp only [List.mem_cons, Prod.mk.injEq, List.not_mem_nil, or_false] at hm
 rcases hm with ⟨rfl, rfl⟩ | ⟨rfl, rfl⟩ | ⟨rfl, rfl⟩ | ⟨rfl, rfl⟩ | ⟨rfl, rfl⟩ | ⟨rfl, rfl⟩ | ⟨rfl, rfl⟩ | ⟨rfl, rfl⟩ | ⟨rfl, rfl⟩
 ·exact ⟨.int .i64 (x.kind : Int), by kernel_rfl, by rw [run_equalIn_int w 9998 _ _ .i64 _ _ Tryz.underlying3]; simp⟩
 ·exact ⟨.int .i64 (x.op : Int), by kernel_rfl, by rw [run_equalIn_int w 9998 _ _ .i64 _ _ Tryz.underlying3]; simp⟩
 ·exact ⟨.int .u32 (x.n : Int), by kernel_rfl, by rw [run_equalIn_int w 9998 _ _ .u32 _ _ Tryz.underlying22]; simp⟩
 ·exact ⟨.int .u32 (x.m : Int), by kernel_rfl, by rw [run_equalIn_int w 9998 _ _ .u32 _ _ Tryz.underlying22]; simp⟩
 ·exact ⟨.int .i64 (x.size : Int), by kernel_rfl, by rw [run_equalIn_int w 9998 _ _ .i64 _ _ Tryz.underlying3]; simp⟩
 ·exact ⟨.int .i64 (x.of : Int), by kernel_rfl, by rw [run_equalIn_int w 9998 _ _ .i64 _ _ Tryz.underlying3]; simp⟩
 ·exact ⟨.int .i64 (x.side : Int), by kernel_rfl, by rw [run_equalIn_int w 9998 _ _ .i64 _ _ Tryz.underlying3]; simp⟩
 ·exact ⟨.agg ((adrs x).map bv).toArray, by kernel_rfl, eq_arr 9997 Tryz.underlying26 hi Tryz.underlying5 (by kernel_rfl) (by kernel_rfl) (adrs x) rfl w⟩
 ·exact ⟨.int .i64 (x.bits : Int), by kernel_rfl, by rw [run_equalIn_int w 9998 _ _ .i64 _ _ Tryz.underlying3]; simp⟩
structure Lk where
 acfc : Bool
 pfc : Bool
 mp : Int
structure Vw where
 proto : Nat
 multi : Bool
 beg : Bool
 fin : Bool
 seq : Nat
 pos : Nat
 net : Nat
 next : Nat
 load : Nat
def Vw.zero : Vw := ⟨0, false, false, false, 0, 0, 0, 0, 0⟩
def spV (l : Lk) : Nat := if l.mp = 2 then 16777216 else 4096
structure LookOk (l : Lk) (b : List UInt8) (v : Vw) : Prop where
 len : b.length ≤ 65535
 pos1 : 1 ≤ v.pos
 pos2 : v.pos ≤ b.length
 load : v.load ≤ b.length
 far : v.load ≠ 0 → v.pos + 20 ≤ v.load
 pr : v.proto < 65536 ∧ v.proto % 2 = 1
 net : v.net = if (v.proto = 33 ∧ (v.multi = false ∨ v.beg = true)) then 4 else if (v.proto = 87 ∧ (v.multi = false ∨ v.beg = true)) then 6 else 0
 none : v.net = 0 → v.next = 0 ∧ v.load = 0
 next : v.next ≤ 255
 one : v.multi = false → v.beg = false ∧ v.fin = false ∧ v.seq = 0
 two : v.multi = true → l.mp ≠ 0 ∧ v.seq < spV l
 mp : 0 ≤ l.mp ∧ l.mp ≤ 2
def VAt (w : World) (g t : Nat) (cs : Array Value) : Prop := w.heap[g]? = some (.cells cs t (0, 0))
theorem VAt.cell {w : World} {g t : Nat} {cs : Array Value} (h : VAt w g t cs) (i : Nat) : w.cell? ⟨g, i, none⟩ = cs[i]? := cell_of_row w g i cs t (0, 0) h
theorem VAt.free {w : World} {g t : Nat} {cs : Array Value} (h : VAt w g t cs) (i : Nat) : w.frozen? ⟨g, i, none⟩ = false := by
 unfold VAt at h
 simp [World.frozen?, h]
theorem VAt.lt {w : World} {g t : Nat} {cs : Array Value} (h : VAt w g t cs) : g < w.heap.size := by
 unfold VAt at h
 by_cases hb : g < w.heap.size
 ·exact hb
 ·rw [Array.getElem?_eq_none (by omega)] at h; cases h
theorem VAt.grown {w w' : World} {g t : Nat} {cs : Array Value} {row : Option Nat} (h : VAt w g t cs) (G : w.grownBy w' row) (hr : row ≠ some g) : VAt w' g t cs := by
 have := G.block g h.lt (Ne.symm hr)
 unfold VAt at *
 rw [this, h]
theorem VAt.kept {w w' : World} {g t : Nat} {cs : Array Value} (h : VAt w g t cs) (G : w.grownBy w' none) : VAt w' g t cs := h.grown G (by simp)
theorem VAt.set {w : World} {g t : Nat} {cs : Array Value} (h : VAt w g t cs) (i : Nat) (v : Value) : VAt (w.setCell ⟨g, i, none⟩ v) g t (cs.setIfInBounds i v) := by
 unfold VAt at *
 simp only [World.setCell, Array.getElem?_modify, h, if_true, Option.map_some]
 rfl
theorem VAt.alloc (w : World) (t : Nat) (cs : Array Value) : VAt (w.alloc (.cells cs t)) w.heap.size t cs := heap_alloc_new w _
theorem VAt.setRow {w : World} {g t : Nat} {cs : Array Value} (h : VAt w g t cs) (ds : Array Value) : VAt (w.setRow g ds) g t ds := by
 unfold VAt at *
 exact setRow_heap w g _ _ t _ h
theorem vheap_setRow_ne (w : World) (g k : Nat) (cs : Array Value) (h : k ≠ g) : (w.setRow g cs).heap[k]? = w.heap[k]? := by
 simp [World.setRow, Array.getElem?_modify, Ne.symm h]
theorem vgrown_setRow {w W : World} {row : Option Nat} (G : w.grownBy W row) (g : Nat) (cs : Array Value) (hg : row = some g ∨ w.heap.size ≤ g) : w.grownBy (W.setRow g cs) row := by
 refine ⟨G.os, G.tape, G.output, by rw [setRow_size]; exact G.size, fun i hi hr => ?_⟩
 have : i ≠ g := by
  rintro rfl
  rcases hg with hg | hg
  ·exact hr hg.symm
  ·omega
 rw [vheap_setRow_ne _ _ _ _ this]
 exact G.block i hi hr
theorem VAt.other {w : World} {g t k : Nat} {cs : Array Value} (h : VAt w g t cs) (ds : Array Value) (hk : g ≠ k) : VAt (w.setRow k ds) g t cs := by
 unfold VAt at *
 rw [vheap_setRow_ne _ _ _ _ hk]
 exact h
theorem VAt.setOther {w : World} {g t k i : Nat} {cs : Array Value} (h : VAt w g t cs) (u : Value) (hk : g ≠ k) : VAt (w.setCell ⟨k, i, none⟩ u) g t cs := by
 unfold VAt at *
 simp only [World.setCell, Array.getElem?_modify, if_neg (Ne.symm hk)]
 exact h
theorem ret_row {P : Program} {fn : Func} {p u : Tmp} {ty : TypeId} (h : fn.results = #[.cell p ty, .tmp u]) (tmps : Array Value) (w : World) (g : Nat) (cs : Array Value) (d : TypeDesc) (hp : tmps.getD p undef = .pointer (some ⟨g, 0, none⟩)) (A : VAt w g ty cs)
  (hu : P.underlying ty = some d) (hd : (match d with | .struct _ | .array _ _ => true | _ => false) = true) (hi : (P.info? ty).map (·.size) = some cs.size) : (results fn tmps).run P w = .ok (.tuple #[.agg cs, tmps.getD u undef]) w := by
 rw [results_cell_tmp h, hp]
 have := run_loadVar_row (P := P) w g ty ty cs (0, 0) _ A hu hd hi
 simp only [asAddr, Sem.run_pure, Result.andThen, this]
structure GB (w w' : World) (S : Nat → Prop) : Prop where
 os : w'.os = w.os
 tape : w'.tape = w.tape
 output : w'.output = w.output
 size : w.heap.size ≤ w'.heap.size
 block : ∀ i, i < w.heap.size → ¬ S i → w'.heap[i]? = w.heap[i]?
theorem GB.of {w w' : World} {row : Option Nat} {S : Nat → Prop} (h : w.grownBy w' row) (hs : ∀ x, row = some x → S x) : GB w w' S :=
 ⟨h.os, h.tape, h.output, h.size, fun i hi hn => h.block i hi (fun e => hn (hs i e.symm))⟩
theorem GB.non {w w' : World} {S : Nat → Prop} (h : w.grownBy w' none) : GB w w' S := GB.of h (fun x hx => by cases hx)
theorem GB.refl (w : World) (S : Nat → Prop) : GB w w S := ⟨rfl, rfl, rfl, Nat.le_refl _, fun _ _ _ => rfl⟩
theorem GB.trans {w w1 w2 : World} {S S' : Nat → Prop} (h : GB w w1 S) (k : GB w1 w2 S') (hs : ∀ x, x < w.heap.size → S' x → S x) : GB w w2 S :=
 ⟨k.os.trans h.os, k.tape.trans h.tape, k.output.trans h.output, Nat.le_trans h.size k.size, fun i hi hn => (k.block i (Nat.lt_of_lt_of_le hi h.size) (fun e => hn (hs i hi e))).trans (h.block i hi hn)⟩
theorem GB.mono {w w' : World} {S S' : Nat → Prop} (h : GB w w' S) (hs : ∀ x, S x → S' x) : GB w w' S' := ⟨h.os, h.tape, h.output, h.size, fun i hi hn => h.block i hi (fun e => hn (hs i e))⟩
theorem GB.grown {w w' : World} {S : Nat → Prop} (h : GB w w' S) (hs : ∀ x, x < w.heap.size → ¬ S x) : w.grownBy w' none := ⟨h.os, h.tape, h.output, h.size, fun i hi _ => h.block i hi (hs i hi)⟩
theorem GB.one {w w' : World} {S : Nat → Prop} {g : Nat} (h : GB w w' S) (hs : ∀ x, x < w.heap.size → S x → x = g) : w.grownBy w' (some g) := ⟨h.os, h.tape, h.output, h.size, fun i hi hn => h.block i hi (fun e => hn (congrArg some (hs i hi e)))⟩
theorem GB.vat {w w' : World} {S : Nat → Prop} {g t : Nat} {cs : Array Value} (h : GB w w' S) (A : VAt w g t cs) (hg : ¬ S g) : VAt w' g t cs := by
 have := h.block g A.lt hg
 unfold VAt at *
 rw [this, A]
theorem GB.owns {w w' : World} {S : Nat → Prop} {base e size n : Nat} {v : Value} {vs : List Value} (h : GB w w' S) (O : w.ownsRow base e size v n vs) (hv : ∀ x, v.ownBlock = some x → ¬ S x) : w'.ownsRow base e size v n vs := by
 refine ⟨O.1, ?_⟩
 rcases O.2 with h0 | ⟨g, cap, cur, hv', hb, hg, r⟩
 ·exact .inl h0
 ·right
  refine ⟨g, cap, cur, hv', hb, ?_, r⟩
  have hlt : g < w.heap.size := by
   by_cases hh : g < w.heap.size
   ·exact hh
   ·rw [Array.getElem?_eq_none (by omega)] at hg; cases hg
  rw [h.block g hlt (hv g (by rw [hv']; rfl)), hg]
theorem GB.cell {w w' : World} {S : Nat → Prop} {ad : Addr} {v : Value} (h : GB w w' S) (hc : w.cell? ad = some v) (ha : ¬ S ad.block) (hlt : ad.block < w.heap.size) : w'.cell? ad = some v := by
 have := h.block ad.block hlt ha
 unfold World.cell? at *
 rw [this]
 exact hc
theorem GB.cells {w w' : World} {S : Nat → Prop} {ao : Option Addr} {xs : List UInt8} (h : GB w w' S) (hc : Cells w ao xs) (ha : ∀ ad, ao = some ad → xs ≠ [] → ¬ S ad.block) : Cells w' ao xs := by
 have hu := hc.under
 refine hc.same fun b off i hb hi => ?_
 have hne : xs ≠ [] := by
  intro e
  rw [e] at hi
  simp at hi
 have h1 := ha _ hb hne
 have h2 := hu _ hb hne
 have := h.block b h2 h1
 unfold World.cell?
 simp only [this]

end Go.Proofs.YtghbbephhoniaaaGreatDoor
