/-
  A view in a block; the document's own Piece. What a call leaves that may write several blocks. Nodes of whatever numbers, in memory: twenty-four cells each; SameNodes, CopyNodes. The first bits of some bytes; the document's own Mask, same, Net, In. The document's own answers on codes: Jump, Operation, Load, ByX, Known, Class, Uses. The document's own numbers of the machine: Shift, Operate, size, read.
-/
import Derived.Test.YtblpmgkagbiogaaGreatLotP7
import Derived.Laws.Rows
import Derived.Laws.Tables
import Derived.Laws.ResultCell
import Derived.Deep.DeepCutAuto
import Derived.Test.YtblpmgkagbiogaaGreatLotP2
import Derived.Test.YtblpmgkagbiogaaGreatNMem
import Derived.BigQuiet
import Derived.Deep.RegionHeld
import Derived.Test.YtblpmgkagbiogaaGreatLotP5
namespace Go.Proofs.YtblpmgkagbiogaaGreat
open Go.RowKit
set_option maxRecDepth 100000

def vwA (v : Vw) : Array Value := #[.int .u32 (v.proto : Int), .bool v.multi, .bool v.beg, .bool v.fin, .int .u32 (v.seq : Int), .int .i64 (v.pos : Int), .int .i64 (v.net : Int), .int .i64 (v.next : Int), .int .i64 (v.load : Int)]
/-- Cells lie in a block of their own. -/
def VAt (w : World) (g t : Nat) (cs : Array Value) : Prop := w.heap[g]? = some (.cells cs t (0, 0))
theorem VAt.cell {w : World} {g t : Nat} {cs : Array Value} (h : VAt w g t cs) (i : Nat) : w.cell? ⟨g, i, none⟩ = cs[i]? := cell_of_row w g i cs t (0, 0) h
theorem VAt.free {w : World} {g t : Nat} {cs : Array Value} (h : VAt w g t cs) (i : Nat) : w.frozen? ⟨g, i, none⟩ = false := by
  unfold VAt at h
  simp [World.frozen?, h]
theorem VAt.lt {w : World} {g t : Nat} {cs : Array Value} (h : VAt w g t cs) : g < w.heap.size := by
  unfold VAt at h
  by_cases hb : g < w.heap.size
  · exact hb
  · rw [Array.getElem?_eq_none (by omega)] at h; cases h
theorem VAt.grown {w w' : World} {g t : Nat} {cs : Array Value} {row : Option Nat} (h : VAt w g t cs) (G : w.grownBy w' row) (hr : row ≠ some g) : VAt w' g t cs := by
  have := G.block g h.lt (Ne.symm hr)
  unfold VAt at *
  rw [this, h]
theorem VAt.kept {w w' : World} {g t : Nat} {cs : Array Value} (h : VAt w g t cs) (G : w.grownBy w' none) : VAt w' g t cs := h.grown G (by simp)
theorem VAt.set {w : World} {g t : Nat} {cs : Array Value} (h : VAt w g t cs) (i : Nat) (v : Value) : VAt (w.setCell ⟨g, i, none⟩ v) g t (cs.setIfInBounds i v) := by
  unfold VAt at *
  simp only [World.setCell, Array.getElem?_modify, h, if_true, Option.map_some]
  rfl
theorem VAt.alloc (w : World) (t : Nat) (cs : Array Value) : VAt (w.alloc (.cells cs t)) w.heap.size t cs := heap_alloc_new w _
theorem VAt.setRow {w : World} {g t : Nat} {cs : Array Value} (h : VAt w g t cs) (ds : Array Value) : VAt (w.setRow g ds) g t ds := by
  unfold VAt at *
  exact setRow_heap w g _ _ t _ h
theorem vheap_setRow_ne (w : World) (g k : Nat) (cs : Array Value) (h : k ≠ g) : (w.setRow g cs).heap[k]? = w.heap[k]? := by
  simp [World.setRow, Array.getElem?_modify, Ne.symm h]
theorem vgrown_setRow {w W : World} {row : Option Nat} (G : w.grownBy W row) (g : Nat) (cs : Array Value) (hg : row = some g ∨ w.heap.size ≤ g) : w.grownBy (W.setRow g cs) row := by
  refine ⟨G.os, G.tape, G.output, by rw [setRow_size]; exact G.size, fun i hi hr => ?_⟩
  have : i ≠ g := by
    rintro rfl
    rcases hg with hg | hg
    · exact hr hg.symm
    · omega
  rw [vheap_setRow_ne _ _ _ _ this]
  exact G.block i hi hr
theorem VAt.other {w : World} {g t k : Nat} {cs : Array Value} (h : VAt w g t cs) (ds : Array Value) (hk : g ≠ k) : VAt (w.setRow k ds) g t cs := by
  unfold VAt at *
  rw [vheap_setRow_ne _ _ _ _ hk]
  exact h
theorem VAt.setOther {w : World} {g t k i : Nat} {cs : Array Value} (h : VAt w g t cs) (u : Value) (hk : g ≠ k) : VAt (w.setCell ⟨k, i, none⟩ u) g t cs := by
  unfold VAt at *
  simp only [World.setCell, Array.getElem?_modify, if_neg (Ne.symm hk)]
  exact h
/-- A result row that lies in a block, and a second result. -/
theorem ret_row {P : Program} {fn : Func} {p u : Tmp} {ty : TypeId} (h : fn.results = #[.cell p ty, .tmp u]) (tmps : Array Value) (w : World) (g : Nat) (cs : Array Value) (d : TypeDesc) (hp : tmps.getD p undef = .pointer (some ⟨g, 0, none⟩)) (A : VAt w g ty cs)
    (hu : P.underlying ty = some d) (hd : (match d with | .struct _ | .array _ _ => true | _ => false) = true) (hi : (P.info? ty).map (·.size) = some cs.size) : (results fn tmps).run P w = .ok (.tuple #[.agg cs, tmps.getD u undef]) w := by
  rw [results_cell_tmp h, hp]
  have := run_loadVar_row (P := P) w g ty ty cs (0, 0) _ A hu hd hi
  simp only [asAddr, Sem.run_pure, Result.andThen, this]

theorem size81 : (Tryz.prog.info? 81).map (·.size) = some 9 := by kernel_rfl

theorem size23 : (Tryz.prog.info? 23).map (·.size) = some 3 := by kernel_rfl

theorem vwA_all (v : Vw) : (vwA v).all (·.oneCell') = true := by simp [vwA, Value.oneCell']

/-- A boxed link, and a view behind it. -/
theorem two_blocks (w : World) (l : Lk) (t s : Nat) (cs : Array Value) :
    VAt ((w.alloc (.cells (lkA l) t)).alloc (.cells cs s)) w.heap.size t (lkA l) ∧ VAt ((w.alloc (.cells (lkA l) t)).alloc (.cells cs s)) (w.heap.size + 1) s cs ∧ w.grownBy ((w.alloc (.cells (lkA l) t)).alloc (.cells cs s)) none := by
  have A0 := VAt.alloc w t (lkA l)
  have A1 := VAt.alloc (w.alloc (.cells (lkA l) t)) s cs
  have K1 := World.grownBy_alloc (w.alloc (.cells (lkA l) t)) (.cells cs s) none
  rw [show (w.alloc (.cells (lkA l) t)).heap.size = w.heap.size + 1 by simp] at A1
  exact ⟨A0.kept K1, A1, grown_trans (World.grownBy_alloc w _ none) K1⟩

theorem plain_err {l : Lk} {b : List UInt8} {e : Int} (h : plainV l b = .error e) : (e != 0) = true := by
  unfold plainV at h
  split at h
  · cases h
  · split at h
    · cases h
    · split at h <;> cases h <;> rfl
theorem proto_err {l : Lk} {b : List UInt8} {p : Nat} {e : Int} (h : protoV l b p = .error e) : (e != 0) = true := by
  unfold protoV at h
  split at h
  · cases h; rfl
  · split at h
    · split at h <;> cases h; rfl
    · split at h
      · cases h; rfl
      · split at h <;> cases h; rfl
theorem head_err {l : Lk} {b : List UInt8} {p : Nat} {e : Int} (h : headV l b p = .error e) : (e != 0) = true := by
  unfold headV at h
  split at h
  · cases h; rfl
  · split at h <;> cases h; rfl

end Go.Proofs.YtblpmgkagbiogaaGreat

namespace Go.Proofs.YtblpmgkagbiogaaGreat
open Go.RowKit
set_option maxRecDepth 100000

/-- Nothing is written but new memory, and the blocks of S. -/
structure GB (w w' : World) (S : Nat → Prop) : Prop where
  os : w'.os = w.os
  tape : w'.tape = w.tape
  output : w'.output = w.output
  size : w.heap.size ≤ w'.heap.size
  block : ∀ i, i < w.heap.size → ¬ S i → w'.heap[i]? = w.heap[i]?

theorem GB.of {w w' : World} {row : Option Nat} {S : Nat → Prop} (h : w.grownBy w' row) (hs : ∀ x, row = some x → S x) : GB w w' S :=
  ⟨h.os, h.tape, h.output, h.size, fun i hi hn => h.block i hi (fun e => hn (hs i e.symm))⟩
theorem GB.non {w w' : World} {S : Nat → Prop} (h : w.grownBy w' none) : GB w w' S := GB.of h (fun x hx => by cases hx)
theorem GB.refl (w : World) (S : Nat → Prop) : GB w w S := ⟨rfl, rfl, rfl, Nat.le_refl _, fun _ _ _ => rfl⟩
theorem GB.trans {w w1 w2 : World} {S S' : Nat → Prop} (h : GB w w1 S) (k : GB w1 w2 S') (hs : ∀ x, x < w.heap.size → S' x → S x) : GB w w2 S :=
  ⟨k.os.trans h.os, k.tape.trans h.tape, k.output.trans h.output, Nat.le_trans h.size k.size, fun i hi hn => (k.block i (Nat.lt_of_lt_of_le hi h.size) (fun e => hn (hs i hi e))).trans (h.block i hi hn)⟩
theorem GB.mono {w w' : World} {S S' : Nat → Prop} (h : GB w w' S) (hs : ∀ x, S x → S' x) : GB w w' S' := ⟨h.os, h.tape, h.output, h.size, fun i hi hn => h.block i hi (fun e => hn (hs i e))⟩
/-- Where S lies in new memory alone. -/
theorem GB.grown {w w' : World} {S : Nat → Prop} (h : GB w w' S) (hs : ∀ x, x < w.heap.size → ¬ S x) : w.grownBy w' none := ⟨h.os, h.tape, h.output, h.size, fun i hi _ => h.block i hi (hs i hi)⟩
theorem GB.one {w w' : World} {S : Nat → Prop} {g : Nat} (h : GB w w' S) (hs : ∀ x, x < w.heap.size → S x → x = g) : w.grownBy w' (some g) := ⟨h.os, h.tape, h.output, h.size, fun i hi hn => h.block i hi (fun e => hn (congrArg some (hs i hi e)))⟩

theorem GB.vat {w w' : World} {S : Nat → Prop} {g t : Nat} {cs : Array Value} (h : GB w w' S) (A : VAt w g t cs) (hg : ¬ S g) : VAt w' g t cs := by
  have := h.block g A.lt hg
  unfold VAt at *
  rw [this, A]
theorem GB.owns {w w' : World} {S : Nat → Prop} {base e size n : Nat} {v : Value} {vs : List Value} (h : GB w w' S) (O : w.ownsRow base e size v n vs) (hv : ∀ x, v.ownBlock = some x → ¬ S x) : w'.ownsRow base e size v n vs := by
  refine ⟨O.1, ?_⟩
  rcases O.2 with h0 | ⟨g, cap, cur, hv', hb, hg, r⟩
  · exact .inl h0
  · right
    refine ⟨g, cap, cur, hv', hb, ?_, r⟩
    have hlt : g < w.heap.size := by
      by_cases hh : g < w.heap.size
      · exact hh
      · rw [Array.getElem?_eq_none (by omega)] at hg; cases hg
    rw [h.block g hlt (hv g (by rw [hv']; rfl)), hg]
theorem GB.cell {w w' : World} {S : Nat → Prop} {ad : Addr} {v : Value} (h : GB w w' S) (hc : w.cell? ad = some v) (ha : ¬ S ad.block) (hlt : ad.block < w.heap.size) : w'.cell? ad = some v := by
  have := h.block ad.block hlt ha
  unfold World.cell? at *
  rw [this]
  exact hc
theorem GB.cells {w w' : World} {S : Nat → Prop} {ao : Option Addr} {xs : List UInt8} (h : GB w w' S) (hc : Cells w ao xs) (ha : ∀ ad, ao = some ad → xs ≠ [] → ¬ S ad.block) : Cells w' ao xs := by
  have hu := hc.under
  refine hc.same fun b off i hb hi => ?_
  have hne : xs ≠ [] := by
    intro e
    rw [e] at hi
    simp at hi
  have h1 := ha _ hb hne
  have h2 := hu _ hb hne
  have := h.block b h2 h1
  unfold World.cell?
  simp only [this]

end Go.Proofs.YtblpmgkagbiogaaGreat

namespace Go.Proofs.YtblpmgkagbiogaaGreat
open Go.RowKit
set_option maxRecDepth 100000

/-- A node of whatever numbers. -/
structure Ng where
  kind : Int
  op : Int
  n : Nat
  m : Nat
  size : Int
  of : Int
  side : Int
  addr : List UInt8
  bits : Int
def adg (x : Ng) (i : Nat) : Value := .int .u8 ((x.addr.getD i 0).toNat : Int)
def Ng.cells (x : Ng) : List Value := [.int .i64 x.kind, .int .i64 x.op, .int .u32 (x.n : Int), .int .u32 (x.m : Int), .int .i64 x.size, .int .i64 x.of, .int .i64 x.side,
  adg x 0, adg x 1, adg x 2, adg x 3, adg x 4, adg x 5, adg x 6, adg x 7, adg x 8, adg x 9, adg x 10, adg x 11, adg x 12, adg x 13, adg x 14, adg x 15, .int .i64 x.bits]
theorem Ng.cells_len (x : Ng) : x.cells.length = 24 := rfl

/-- The cells of a list of them. -/
def flatG (xs : List Ng) : List Value := xs.flatMap Ng.cells

theorem flatG_nil : flatG [] = [] := rfl
theorem flatG_cons (x : Ng) (xs : List Ng) : flatG (x :: xs) = x.cells ++ flatG xs := rfl
theorem flatG_append (xs ys : List Ng) : flatG (xs ++ ys) = flatG xs ++ flatG ys := by simp only [flatG, List.flatMap_append]
theorem flatG_one1 (x : Ng) : flatG [x] = x.cells := by rw [flatG_cons, flatG_nil, List.append_nil]

theorem flatG_len (xs : List Ng) : (flatG xs).length = xs.length * 24 := by
  induction xs with
  | nil => rfl
  | cons x xs ih => rw [flatG_cons, List.length_append, ih, List.length_cons, Ng.cells_len]; omega

theorem flatG_get (xs : List Ng) (i j : Nat) (hi : i < xs.length) (hj : j < 24) : (flatG xs)[i * 24 + j]? = (xs[i].cells)[j]? := by
  induction xs generalizing i with
  | nil => simp at hi
  | cons x xs ih =>
    rw [flatG_cons]
    have hl : x.cells.length = 24 := rfl
    cases i with
    | zero => rw [List.getElem?_append_left (by omega)]; simp
    | succ i =>
      rw [List.getElem?_append_right (by omega), hl, show (i + 1) * 24 + j - 24 = i * 24 + j by omega, ih i (by simpa using hi)]
      simp

theorem Ng.cells_one (x : Ng) : ∀ u ∈ x.cells, u.oneCell' = true := by
  intro u hu
  simp only [Ng.cells, adg, List.mem_cons, List.not_mem_nil, or_false] at hu
  rcases hu with rfl | rfl | rfl | rfl | rfl | rfl | rfl | rfl | rfl | rfl | rfl | rfl | rfl | rfl | rfl | rfl | rfl | rfl | rfl | rfl | rfl | rfl | rfl | rfl <;> rfl
theorem flatG_one (xs : List Ng) : ∀ u ∈ flatG xs, u.oneCell' = true := by
  intro u hu
  obtain ⟨x, _, hx⟩ := List.mem_flatMap.1 hu
  exact x.cells_one u hx

theorem CV.ngs {w : World} {ao : Option Addr} {xs : List Ng} (h : CV w ao (flatG xs)) {k : Nat} (hk : k < xs.length) :
    ∃ b off, ao = some ⟨b, off, none⟩ ∧ ∀ i (hi : i < xs.length), w.rangeAt b (off + i * 24) xs[i].cells := by
  have hl := flatG_len xs
  obtain ⟨b, off, hao, hc⟩ := h.addr (k := k * 24) (by omega)
  refine ⟨b, off, hao, fun i hi j v hv => ?_⟩
  have hj : j < 24 := (List.getElem?_eq_some_iff.1 hv).1
  rw [← flatG_get xs i j hi hj] at hv
  rw [Nat.add_assoc, hc (i * 24 + j) (by omega), ← hv, List.getElem?_eq_getElem (by omega)]

/-- An owned row of nodes. -/
abbrev NgOwns (w : World) (base : Nat) (v : Value) (xs : List Ng) : Prop := w.ownsRow base 37 24 v xs.length (flatG xs)
def adgs (x : Ng) : List UInt8 := [x.addr.getD 0 0, x.addr.getD 1 0, x.addr.getD 2 0, x.addr.getD 3 0, x.addr.getD 4 0, x.addr.getD 5 0, x.addr.getD 6 0, x.addr.getD 7 0, x.addr.getD 8 0, x.addr.getD 9 0, x.addr.getD 10 0, x.addr.getD 11 0, x.addr.getD 12 0, x.addr.getD 13 0, x.addr.getD 14 0, x.addr.getD 15 0]
theorem ng_fields : (Tryz.prog.fieldsOf 37).toList.map (fun f => (f.type, f.offset)) = [(3, 0), (3, 1), (24, 2), (24, 3), (3, 4), (3, 5), (3, 6), (25, 7), (3, 23)] := by kernel_rfl
theorem ng_eq (x : Ng) (w : World) : (Op.equalIn 10000 37 (.agg x.cells.toArray) (.agg x.cells.toArray)).run Tryz.prog w = .ok true w := by
  obtain ⟨i0, hi, -⟩ := info_parts info5
  rw [show (10000 : Nat) = 9999 + 1 from rfl, run_equalIn_struct w 9999 _ _ _ (by kernel_rfl) (by kernel_rfl)]
  refine eqFields_refl 9999 _ w _ (fun f hf => ?_)
  have hm : (f.type, f.offset) ∈ (Tryz.prog.fieldsOf 37).toList.map (fun f => (f.type, f.offset)) := List.mem_map_of_mem hf
  rw [ng_fields] at hm
  generalize f.type = ft at *
  generalize f.offset = fo at *
  simp only [List.mem_cons, Prod.mk.injEq, List.not_mem_nil, or_false] at hm
  rcases hm with ⟨rfl, rfl⟩ | ⟨rfl, rfl⟩ | ⟨rfl, rfl⟩ | ⟨rfl, rfl⟩ | ⟨rfl, rfl⟩ | ⟨rfl, rfl⟩ | ⟨rfl, rfl⟩ | ⟨rfl, rfl⟩ | ⟨rfl, rfl⟩
  · exact ⟨.int .i64 x.kind, by kernel_rfl, by rw [run_equalIn_int w 9998 _ _ .i64 _ _ Tryz.underlying3]; simp⟩
  · exact ⟨.int .i64 x.op, by kernel_rfl, by rw [run_equalIn_int w 9998 _ _ .i64 _ _ Tryz.underlying3]; simp⟩
  · exact ⟨.int .u32 (x.n : Int), by kernel_rfl, by rw [run_equalIn_int w 9998 _ _ .u32 _ _ Tryz.underlying24]; simp⟩
  · exact ⟨.int .u32 (x.m : Int), by kernel_rfl, by rw [run_equalIn_int w 9998 _ _ .u32 _ _ Tryz.underlying24]; simp⟩
  · exact ⟨.int .i64 x.size, by kernel_rfl, by rw [run_equalIn_int w 9998 _ _ .i64 _ _ Tryz.underlying3]; simp⟩
  · exact ⟨.int .i64 x.of, by kernel_rfl, by rw [run_equalIn_int w 9998 _ _ .i64 _ _ Tryz.underlying3]; simp⟩
  · exact ⟨.int .i64 x.side, by kernel_rfl, by rw [run_equalIn_int w 9998 _ _ .i64 _ _ Tryz.underlying3]; simp⟩
  · exact ⟨.agg ((adgs x).map bv).toArray, by kernel_rfl, eq_arr 9997 Tryz.underlying25 hi Tryz.underlying5 (by kernel_rfl) (by kernel_rfl) (adgs x) rfl w⟩
  · exact ⟨.int .i64 x.bits, by kernel_rfl, by rw [run_equalIn_int w 9998 _ _ .i64 _ _ Tryz.underlying3]; simp⟩

set_option maxHeartbeats 1000000 in
theorem gcopy_any (a : Option Addr) (ca : Nat) (xs : List Ng) (w : World) (ha : CV w a (flatG xs)) (hc0 : a = none → ca = 0) (hm : xs.length * 72 ≤ 140737488355328) :
    Calls Tryz.prog 21 #[.slice a xs.length ca] w fun e w' => ∃ v, e = .returned v ∧ NgOwns w' w.heap.size v xs ∧ w.grownBy w' none := by
  obtain ⟨i0, hi, hz0, hz1, hz2⟩ := info_parts info37
  have H : Hid (CV w a (flatG xs)) := ha
  clear ha
  go_enter Tryz.func21, Tryz.ntmps21
  go_wp2_with (at_builtin; refine wpList_append_cv rfl (.tmp 3) (.tmp 4) 40 rfl 37 i0 _ 24 72 Tryz.underlying40 hi hz0 hz1 hz2 rfl (by decide) w.heap.size _ 0 [] rfl ?q1 a xs.length ca (flatG xs) rfl (flatG_len xs) hc0 ?q2 (flatG_one xs) ?q3 ?q4 ?q5 ?q6)
  case q1 => exact World.ownsRow_made w #[] 0 (Nat.le_refl _) (Nat.zero_le _) rfl
  case q2 => exact H.out.keptNone (World.grownBy_alloc _ _ _)
  case q3 => unfold maxLen; omega
  case q4 => omega
  case q5 => simp
  case q6 =>
    intro v' w' h1 h2
    have G : w.grownBy w' none := grown_trans_new (World.grownBy_alloc w _ _) h2 (by intro x hx; simp [Value.ownBlock] at hx; omega)
    have O : NgOwns w' w.heap.size v' xs := by simpa using h1
    clear h2 h1
    go_wp2
    go_ret
    exact ⟨v', rfl, O, G⟩


/-- A node that was read is one of these. -/
def Nd.g (x : Nd) : Ng := ⟨x.kind, x.op, x.n, x.m, x.size, x.of, x.side, x.addr, x.bits⟩
theorem Nd.g_cells (x : Nd) : x.g.cells = x.cells := rfl
theorem flatG_g (xs : List Nd) : flatG (xs.map Nd.g) = flatN xs := by
  induction xs with
  | nil => rfl
  | cons x xs ih => rw [List.map_cons, flatG_cons, ih, flatN_cons, Nd.g_cells]

end Go.Proofs.YtblpmgkagbiogaaGreat

namespace Go.Proofs.YtblpmgkagbiogaaGreat
open Go.RowKit
set_option maxRecDepth 100000

/-- The first n bits of a byte. -/
def topB (n : Nat) (x : UInt8) : UInt8 := if n = 0 then 0 else if n < 8 then UInt8.ofNat (x.toNat / 2 ^ (8 - n) * 2 ^ (8 - n)) else x
def maskV : Nat → List UInt8 → List UInt8
  | _, [] => []
  | n, x :: r => topB n x :: maskV (n - 8) r

theorem mask_len (n : Nat) (xs : List UInt8) : (maskV n xs).length = xs.length := by
  induction xs generalizing n with
  | nil => rfl
  | cons x r ih => rw [maskV, List.length_cons, List.length_cons, ih]
theorem mask_get (n : Nat) (xs : List UInt8) (j : Nat) (h : j < xs.length) : (maskV n xs)[j]'(by rw [mask_len]; exact h) = topB (n - 8 * j) xs[j] := by
  induction xs generalizing n j with
  | nil => simp at h
  | cons x r ih =>
    cases j with
    | zero => rfl
    | succ j =>
      simp only [maskV, List.getElem_cons_succ]
      rw [ih (n - 8) j (by simpa using h)]
      congr 1
      omega

/-- Masked up to a place. -/
def mixV (n : Nat) (xs : List UInt8) (j : Nat) : List UInt8 := (maskV n xs).take j ++ xs.drop j
theorem mix_len (n : Nat) (xs : List UInt8) (j : Nat) (h : j ≤ xs.length) : (mixV n xs j).length = xs.length := by
  unfold mixV
  rw [List.length_append, List.length_take, List.length_drop, mask_len]
  omega
theorem mix_next (n : Nat) (xs : List UInt8) (j : Nat) (h : j < xs.length) : mixV n xs (j + 1) = (mixV n xs j).set j (topB (n - 8 * j) xs[j]) := by
  have hl : (List.take j (maskV n xs)).length = j := by rw [List.length_take, mask_len]; omega
  unfold mixV
  rw [List.set_append_right _ _ (by omega), hl, Nat.sub_self, List.drop_eq_getElem_cons h, List.set_cons_zero, List.take_succ_eq_append_getElem (by rw [mask_len]; exact h), mask_get n xs j h]
  simp
theorem mix_at (n : Nat) (xs : List UInt8) (j : Nat) (h : j < xs.length) : (mixV n xs j)[j]? = some xs[j] := by
  unfold mixV
  rw [List.getElem?_append_right (by rw [List.length_take, mask_len]; omega), List.length_take, mask_len, show j - min j xs.length = 0 by omega, List.getElem?_drop, Nat.add_zero, List.getElem?_eq_getElem h]

theorem set_same {α : Type} (l : List α) (j : Nat) (v : α) (h : l[j]? = some v) : l.set j v = l := by
  apply List.ext_getElem?
  intro i
  rw [List.getElem?_set]
  by_cases e : j = i
  · subst e
    rw [if_pos rfl, h]
    obtain ⟨hlt, -⟩ := List.getElem?_eq_some_iff.1 h
    simp [hlt]
  · rw [if_neg e]

theorem andNot_top : ∀ (x : Fin 256) (m : Fin 7), bits .andNot .u8 ((x.val : Nat) : Int) (((2 ^ (m.val + 1) - 1 : Nat)) : Int) = ((x.val / 2 ^ (m.val + 1) * 2 ^ (m.val + 1) : Nat) : Int) := by decide +kernel

/-- P6.3. -/
def netE (n : Nat) (bits : Int) : Int := if n ≠ 4 ∧ n ≠ 16 then 60 else if bits < 0 ∨ 8 * (n : Int) < bits then 61 else 0
def netV (xs : List UInt8) (bits : Int) : List UInt8 := if netE xs.length bits = 0 then maskV bits.toNat xs else []
/-- P6.4. -/
def inE (xs ys : List UInt8) (bits : Int) : Int := if ys.length ≠ xs.length then 60 else if netE xs.length bits = 0 then (if maskV bits.toNat ys = ys then 0 else 62) else netE xs.length bits
def inV (xs ys : List UInt8) (bits : Int) : Bool := decide (inE xs ys bits = 0) && decide (maskV bits.toNat xs = ys)

theorem netE_ok {n : Nat} {bits : Int} (h : netE n bits = 0) : (n = 4 ∨ n = 16) ∧ 0 ≤ bits ∧ bits ≤ 8 * (n : Int) := by
  unfold netE at h
  split at h
  · simp at h
  · split at h
    · simp at h
    · omega

end Go.Proofs.YtblpmgkagbiogaaGreat

namespace Go.Proofs.YtblpmgkagbiogaaGreat
open Go.RowKit
set_option maxRecDepth 100000

def jumpB (c : Int) : Bool := c == 21 || c == 29 || c == 37 || c == 45 || c == 53 || c == 61 || c == 69 || c == 77
def operB (c : Int) : Bool := c == 4 || c == 12 || c == 20 || c == 28 || c == 36 || c == 44 || c == 52 || c == 60 || c == 68 || c == 76 || c == 84 || c == 92 || c == 100 || c == 108 || c == 116 || c == 124 || c == 148 || c == 156 || c == 164 || c == 172
def loadB (c : Int) : Bool := c == 32 || c == 40 || c == 48 || c == 64 || c == 72 || c == 80 || c == 177
def plainB (c : Int) : Bool := (c == 0 || c == 32 || c == 40 || c == 48 || c == 64 || c == 72 || c == 80 || c == 96 || c == 128) || (c == 1 || c == 97 || c == 129 || c == 177 || c == 2 || c == 3 || c == 132 || c == 6 || c == 22 || c == 7 || c == 135 || c == 5)
def knownB (c : Int) : Bool := plainB c || (jumpB c || operB c)

/-- Its bit 8. -/
def bit8 (c : Int) : Bool := bits .and .u16 c 8 != 0
def byxB (c : Int) : Bool := (jumpB c || operB c) && bit8 c

/-- What Class says. -/
def classV (c : Int) : Int := if knownB c = true then c % 8 else -1

theorem and7 (c : Int) (h0 : 0 ≤ c) (h1 : c ≤ 65535) : bits .and .u16 c 7 = c % 8 := by
  obtain ⟨n, rfl⟩ := Int.eq_ofNat_of_zero_le h0
  have h := u16_and_nat n 7 (by omega) (by omega)
  rw [show n &&& 7 = n % 8 from Nat.and_two_pow_sub_one_eq_mod n 3] at h
  rw [show (7 : Int) = ((7 : Nat) : Int) by rfl, h]
  omega

/-- What Uses says, answer by answer. -/
def noKB (c : Int) : Bool := c == 128 || c == 129 || c == 132 || c == 22 || c == 7 || c == 135
def usesK (c : Int) : Bool := knownB c && (!byxB c && !noKB c)
def usesJ (c : Int) : Bool := knownB c && jumpB c
def usesF (c : Int) : Bool := knownB c && (loadB c || c == 60 || c == 156)

theorem cret_three {a b c x y z : Bool} (h1 : a = x) (h2 : b = y) (h3 : c = z) : Ending.returned (.tuple #[.bool a, .bool b, .bool c]) = .returned (.tuple #[.bool x, .bool y, .bool z]) := by rw [h1, h2, h3]

end Go.Proofs.YtblpmgkagbiogaaGreat

namespace Go.Proofs.YtblpmgkagbiogaaGreat
open Go.RowKit
set_option maxRecDepth 100000

/-- A number shifted. -/
def shiftV (a b : Nat) (left : Bool) : Nat := if 31 < b then 0 else if left = true then a * 2 ^ b % 4294967296 else a / 2 ^ b

theorem shiftV_le (a b : Nat) (left : Bool) (ha : a ≤ 4294967295) : shiftV a b left ≤ 4294967295 := by
  unfold shiftV
  split
  · omega
  · split
    · omega
    · exact Nat.le_trans (Nat.div_le_self _ _) ha

/-- Two numbers by an operation, its bit 8 struck: the number, the fault. -/
def operV (d : Int) (a b : Nat) : Nat × Int :=
  if d == 4 then ((a + b) % 4294967296, 0) else if d == 20 then ((a + 4294967296 - b) % 4294967296, 0) else if d == 36 then (a * b % 4294967296, 0)
  else if d == 68 then (a ||| b, 0) else if d == 84 then (a &&& b, 0) else if d == 164 then (a ^^^ b, 0) else if d == 100 then (shiftV a b true, 0) else if d == 116 then (shiftV a b false, 0)
  else if b == 0 then (0, 2) else if d == 52 then (a / b, 0) else (a % b, 0)

theorem ret_oper {x y : Int} {u v : Int} (h : x = y) (h' : u = v) : Ending.returned (.tuple #[.int .u32 x, .int .i64 u]) = .returned (.tuple #[.int .u32 y, .int .i64 v]) := by rw [h, h']

/-- How many bytes a load reads. -/
def sizeV (c : Int) : Nat := if (c == 32 || c == 64) = true then 4 else if (c == 40 || c == 72) = true then 2 else 1

/-- A load from a place on: the number, the fault. -/
def readAtV (xs : List UInt8) (p S : Nat) : Nat × Int := if okB xs.length p S = true then (numAt xs p S, 0) else (0, 1)

end Go.Proofs.YtblpmgkagbiogaaGreat
