import Derived.Test.YtklipelnjgpnjaaGreatDoorLotN1
import Derived.Handy
import Derived.Laws.Rows
import Derived.Laws.Tables
import Derived.Laws.ResultCell
import Derived.Deep.DeepCutAuto
import Derived.Test.YtklipelnjgpnjaaGreatDoorLotN2
import Derived.BigQuiet
import Derived.Deep.RegionHeld
set_option maxHeartbeats 64000000
set_option maxRecDepth 100000
namespace Go.Proofs.YtklipelnjgpnjaaGreatDoor
open Go.RowKit
structure Lk where
 acfc : Bool
 pfc : Bool
 mp : Int
structure Vw where
 proto : Nat
 multi : Bool
 beg : Bool
 fin : Bool
 seq : Nat
 pos : Nat
 net : Nat
 next : Nat
 load : Nat
def Vw.zero : Vw := ⟨0, false, false, false, 0, 0, 0, 0, 0⟩
def spV (l : Lk) : Nat := if l.mp = 2 then 16777216 else 4096
structure b0G (l : Lk) (b : List UInt8) (v : Vw) : Prop where
 len : b.length ≤ 65535
 pos1 : 1 ≤ v.pos
 pos2 : v.pos ≤ b.length
 load : v.load ≤ b.length
 far : v.load ≠ 0 → v.pos + 20 ≤ v.load
 pr : v.proto < 65536 ∧ v.proto % 2 = 1
 net : v.net = if (v.proto = 33 ∧ (v.multi = false ∨ v.beg = true)) then 4 else if (v.proto = 87 ∧ (v.multi = false ∨ v.beg = true)) then 6 else 0
 none : v.net = 0 → v.next = 0 ∧ v.load = 0
 next : v.next ≤ 255
 one : v.multi = false → v.beg = false ∧ v.fin = false ∧ v.seq = 0
 two : v.multi = true → l.mp ≠ 0 ∧ v.seq < spV l
 mp : 0 ≤ l.mp ∧ l.mp ≤ 2
def VAt (w : World) (g t : Nat) (cs : Array Value) : Prop := w.heap[g]? = some (.cells cs t (0, 0))
theorem VAt.cell {w : World} {g t : Nat} {cs : Array Value} (h : VAt w g t cs) (i : Nat) : w.cell? ⟨g, i, none⟩ = cs[i]? := cell_of_row w g i cs t (0, 0) h
theorem VAt.free {w : World} {g t : Nat} {cs : Array Value} (h : VAt w g t cs) (i : Nat) : w.frozen? ⟨g, i, none⟩ = false := by
 unfold VAt at h
 simp [World.frozen?, h]
theorem VAt.lt {w : World} {g t : Nat} {cs : Array Value} (h : VAt w g t cs) : g < w.heap.size := by
 unfold VAt at h
 by_cases hb : g < w.heap.size
 ·exact hb
 ·rw [Array.getElem?_eq_none (by omega)] at h; cases h
theorem VAt.grown {w w' : World} {g t : Nat} {cs : Array Value} {row : Option Nat} (h : VAt w g t cs) (G : w.grownBy w' row) (hr : row ≠ some g) : VAt w' g t cs := by
 have := G.block g h.lt (Ne.symm hr)
 unfold VAt at *
 rw [this, h]
theorem VAt.kept {w w' : World} {g t : Nat} {cs : Array Value} (h : VAt w g t cs) (G : w.grownBy w' none) : VAt w' g t cs := h.grown G (by simp)
theorem VAt.set {w : World} {g t : Nat} {cs : Array Value} (h : VAt w g t cs) (i : Nat) (v : Value) : VAt (w.setCell ⟨g, i, none⟩ v) g t (cs.setIfInBounds i v) := by
 unfold VAt at *
 simp only [World.setCell, Array.getElem?_modify, h, if_true, Option.map_some]
 rfl
theorem VAt.alloc (w : World) (t : Nat) (cs : Array Value) : VAt (w.alloc (.cells cs t)) w.heap.size t cs := heap_alloc_new w _
theorem VAt.setRow {w : World} {g t : Nat} {cs : Array Value} (h : VAt w g t cs) (ds : Array Value) : VAt (w.setRow g ds) g t ds := by
 unfold VAt at *
 exact setRow_heap w g _ _ t _ h
theorem a6L (w : World) (g k : Nat) (cs : Array Value) (h : k ≠ g) : (w.setRow g cs).heap[k]? = w.heap[k]? := by
 simp [World.setRow, Array.getElem?_modify, Ne.symm h]
theorem x5 {w W : World} {row : Option Nat} (G : w.grownBy W row) (g : Nat) (cs : Array Value) (hg : row = some g ∨ w.heap.size ≤ g) : w.grownBy (W.setRow g cs) row := by
 refine ⟨G.os, G.tape, G.output, by rw [setRow_size]; exact G.size, fun i hi hr => ?_⟩
 have : i ≠ g := by
  rintro rfl
  rcases hg with hg | hg
  ·exact hr hg.symm
  ·omega
 rw [a6L _ _ _ _ this]
 exact G.block i hi hr
theorem VAt.other {w : World} {g t k : Nat} {cs : Array Value} (h : VAt w g t cs) (ds : Array Value) (hk : g ≠ k) : VAt (w.setRow k ds) g t cs := by
 unfold VAt at *
 rw [a6L _ _ _ _ hk]
 exact h
theorem VAt.setOther {w : World} {g t k i : Nat} {cs : Array Value} (h : VAt w g t cs) (u : Value) (hk : g ≠ k) : VAt (w.setCell ⟨k, i, none⟩ u) g t cs := by
 unfold VAt at *
 simp only [World.setCell, Array.getElem?_modify, if_neg (Ne.symm hk)]
 exact h
theorem W8 {P : Program} {fn : Func} {p u : Tmp} {ty : TypeId} (h : fn.results = #[.cell p ty, .tmp u]) (tmps : Array Value) (w : World) (g : Nat) (cs : Array Value) (d : TypeDesc) (hp : tmps.getD p undef = .pointer (some ⟨g, 0, none⟩)) (A : VAt w g ty cs)
  (hu : P.underlying ty = some d) (hd : (match d with | .struct _ | .array _ _ => true | _ => false) = true) (hi : (P.info? ty).map (·.size) = some cs.size) : (results fn tmps).run P w = .ok (.tuple #[.agg cs, tmps.getD u undef]) w := by
 rw [results_cell_tmp h, hp]
 have := run_loadVar_row (P := P) w g ty ty cs (0, 0) _ A hu hd hi
 simp only [asAddr, Sem.run_pure, Result.andThen, this]
structure GB (w w' : World) (S : Nat → Prop) : Prop where
 os : w'.os = w.os
 tape : w'.tape = w.tape
 output : w'.output = w.output
 size : w.heap.size ≤ w'.heap.size
 block : ∀ i, i < w.heap.size → ¬ S i → w'.heap[i]? = w.heap[i]?
theorem GB.of {w w' : World} {row : Option Nat} {S : Nat → Prop} (h : w.grownBy w' row) (hs : ∀ x, row = some x → S x) : GB w w' S :=
 ⟨h.os, h.tape, h.output, h.size, fun i hi hn => h.block i hi (fun e => hn (hs i e.symm))⟩
theorem GB.non {w w' : World} {S : Nat → Prop} (h : w.grownBy w' none) : GB w w' S := GB.of h (fun x hx => by cases hx)
theorem GB.refl (w : World) (S : Nat → Prop) : GB w w S := ⟨rfl, rfl, rfl, Nat.le_refl _, fun _ _ _ => rfl⟩
theorem GB.trans {w w1 w2 : World} {S S' : Nat → Prop} (h : GB w w1 S) (k : GB w1 w2 S') (hs : ∀ x, x < w.heap.size → S' x → S x) : GB w w2 S :=
 ⟨k.os.trans h.os, k.tape.trans h.tape, k.output.trans h.output, Nat.le_trans h.size k.size, fun i hi hn => (k.block i (Nat.lt_of_lt_of_le hi h.size) (fun e => hn (hs i hi e))).trans (h.block i hi hn)⟩
theorem GB.mono {w w' : World} {S S' : Nat → Prop} (h : GB w w' S) (hs : ∀ x, S x → S' x) : GB w w' S' := ⟨h.os, h.tape, h.output, h.size, fun i hi hn => h.block i hi (fun e => hn (hs i e))⟩
theorem GB.grown {w w' : World} {S : Nat → Prop} (h : GB w w' S) (hs : ∀ x, x < w.heap.size → ¬ S x) : w.grownBy w' none := ⟨h.os, h.tape, h.output, h.size, fun i hi _ => h.block i hi (hs i hi)⟩
theorem GB.one {w w' : World} {S : Nat → Prop} {g : Nat} (h : GB w w' S) (hs : ∀ x, x < w.heap.size → S x → x = g) : w.grownBy w' (some g) := ⟨h.os, h.tape, h.output, h.size, fun i hi hn => h.block i hi (fun e => hn (congrArg some (hs i hi e)))⟩
theorem GB.vat {w w' : World} {S : Nat → Prop} {g t : Nat} {cs : Array Value} (h : GB w w' S) (A : VAt w g t cs) (hg : ¬ S g) : VAt w' g t cs := by
 have := h.block g A.lt hg
 unfold VAt at *
 rw [this, A]
theorem GB.owns {w w' : World} {S : Nat → Prop} {base e size n : Nat} {v : Value} {vs : List Value} (h : GB w w' S) (O : w.ownsRow base e size v n vs) (hv : ∀ x, v.ownBlock = some x → ¬ S x) : w'.ownsRow base e size v n vs := by
 refine ⟨O.1, ?_⟩
 rcases O.2 with h0 | ⟨g, cap, cur, hv', hb, hg, r⟩
 ·exact .inl h0
 ·right
  refine ⟨g, cap, cur, hv', hb, ?_, r⟩
  have hlt : g < w.heap.size := by
   by_cases hh : g < w.heap.size
   ·exact hh
   ·rw [Array.getElem?_eq_none (by omega)] at hg; cases hg
  rw [h.block g hlt (hv g (by rw [hv']; rfl)), hg]
theorem GB.cell {w w' : World} {S : Nat → Prop} {ad : Addr} {v : Value} (h : GB w w' S) (hc : w.cell? ad = some v) (ha : ¬ S ad.block) (hlt : ad.block < w.heap.size) : w'.cell? ad = some v := by
 have := h.block ad.block hlt ha
 unfold World.cell? at *
 rw [this]
 exact hc
theorem GB.cells {w w' : World} {S : Nat → Prop} {ao : Option Addr} {xs : List UInt8} (h : GB w w' S) (hc : Cells w ao xs) (ha : ∀ ad, ao = some ad → xs ≠ [] → ¬ S ad.block) : Cells w' ao xs := by
 have hu := hc.under
 refine hc.same fun b off i hb hi => ?_
 have hne : xs ≠ [] := by
  intro e
  rw [e] at hi
  simp at hi
 have h1 := ha _ hb hne
 have h2 := hu _ hb hne
 have := h.block b h2 h1
 unfold World.cell?
 simp only [this]
structure Ng where
 kind : Int
 op : Int
 n : Nat
 m : Nat
 size : Int
 of : Int
 side : Int
 addr : List UInt8
 bits : Int
def adg (x : Ng) (i : Nat) : Value := .int .u8 ((x.addr.getD i 0).toNat : Int)
def Ng.cells (x : Ng) : List Value := [.int .i64 x.kind, .int .i64 x.op, .int .u32 (x.n : Int), .int .u32 (x.m : Int), .int .i64 x.size, .int .i64 x.of, .int .i64 x.side,
 adg x 0, adg x 1, adg x 2, adg x 3, adg x 4, adg x 5, adg x 6, adg x 7, adg x 8, adg x 9, adg x 10, adg x 11, adg x 12, adg x 13, adg x 14, adg x 15, .int .i64 x.bits]
theorem Ng.cells_len (x : Ng) : x.cells.length = 24 := rfl
def p9 (xs : List Ng) : List Value := xs.flatMap Ng.cells
theorem a5E (x : Ng) (xs : List Ng) : p9 (x :: xs) = x.cells ++ p9 xs := rfl
theorem a5F (xs : List Ng) : (p9 xs).length = xs.length * 24 := by
 induction xs with
 | nil => rfl
 | cons x xs ih => rw [a5E, List.length_append, ih, List.length_cons, Ng.cells_len]; omega
theorem a88 (xs : List Ng) (i j : Nat) (hi : i < xs.length) (hj : j < 24) : (p9 xs)[i * 24 + j]? = (xs[i].cells)[j]? := by
 induction xs generalizing i with
 | nil => simp at hi
 | cons x xs ih =>
  rw [a5E]
  have hl : x.cells.length = 24 := rfl
  cases i with
  | zero => rw [List.getElem?_append_left (by omega)]; simp
  | succ i =>
   rw [List.getElem?_append_right (by omega), hl, show (i + 1) * 24 + j - 24 = i * 24 + j by omega, ih i (by simpa using hi)]
   simp
theorem Ng.cells_one (x : Ng) : ∀ u ∈ x.cells, u.oneCell' = true := by
 intro u hu
 simp only [Ng.cells, adg, List.mem_cons, List.not_mem_nil, or_false] at hu
 rcases hu with rfl | rfl | rfl | rfl | rfl | rfl | rfl | rfl | rfl | rfl | rfl | rfl | rfl | rfl | rfl | rfl | rfl | rfl | rfl | rfl | rfl | rfl | rfl | rfl <;> rfl
theorem ar2 (xs : List Ng) : ∀ u ∈ p9 xs, u.oneCell' = true := by
 intro u hu
 obtain ⟨x, _, hx⟩ := List.mem_flatMap.1 hu
 exact x.cells_one u hx
theorem CV.ngs {w : World} {ao : Option Addr} {xs : List Ng} (h : CV w ao (p9 xs)) {k : Nat} (hk : k < xs.length) :
  ∃ b off, ao = some ⟨b, off, none⟩ ∧ ∀ i (hi : i < xs.length), w.rangeAt b (off + i * 24) xs[i].cells := by
 have hl := a5F xs
 obtain ⟨b, off, hao, hc⟩ := h.addr (k := k * 24) (by omega)
 refine ⟨b, off, hao, fun i hi j v hv => ?_⟩
 have hj : j < 24 := (List.getElem?_eq_some_iff.1 hv).1
 rw [← a88 xs i j hi hj] at hv
 rw [Nat.add_assoc, hc (i * 24 + j) (by omega), ← hv, List.getElem?_eq_getElem (by omega)]
abbrev a5c (w : World) (base : Nat) (v : Value) (xs : List Ng) : Prop := w.ownsRow base 43 24 v xs.length (p9 xs)
def k8 (x : Ng) : List UInt8 := [x.addr.getD 0 0, x.addr.getD 1 0, x.addr.getD 2 0, x.addr.getD 3 0, x.addr.getD 4 0, x.addr.getD 5 0, x.addr.getD 6 0, x.addr.getD 7 0, x.addr.getD 8 0, x.addr.getD 9 0, x.addr.getD 10 0, x.addr.getD 11 0, x.addr.getD 12 0, x.addr.getD 13 0, x.addr.getD 14 0, x.addr.getD 15 0]
theorem as4 (a : Option Addr) (ca : Nat) (xs : List Ng) (w : World) (ha : CV w a (p9 xs)) (hc0 : a = none → ca = 0) (hm : xs.length * 72 ≤ 140737488355328) :
  Calls Tryz.prog 15 #[.slice a xs.length ca] w fun e w' => ∃ v, e = .returned v ∧ a5c w' w.heap.size v xs ∧ w.grownBy w' none := by
 obtain ⟨i0, hi, hz0, hz1, hz2⟩ := info_parts a8z
 have H : Hid (CV w a (p9 xs)) := ha
 clear ha
 go_enter Tryz.func15, Tryz.ntmps15
 go_wp2_with (at_builtin; refine a0R rfl (.tmp 3) (.tmp 4) 22 rfl 43 i0 _ 24 72 Tryz.underlying22 hi hz0 hz1 hz2 rfl (by decide) w.heap.size _ 0 [] rfl ?q1 a xs.length ca (p9 xs) rfl (a5F xs) hc0 ?q2 (ar2 xs) ?q3 ?q4 ?q5 ?q6)
 case q1 => exact World.ownsRow_made w #[] 0 (Nat.le_refl _) (Nat.zero_le _) rfl
 case q2 => exact H.out.keptNone (World.grownBy_alloc _ _ _)
 case q3 => unfold maxLen; omega
 case q4 => omega
 case q5 => simp
 case q6 =>
  intro v' w' h1 h2
  have G : w.grownBy w' none := V0 (World.grownBy_alloc w _ _) h2 (by intro x hx; simp [Value.ownBlock] at hx; omega)
  have O : a5c w' w.heap.size v' xs := by simpa using h1
  clear h2 h1
  go_wp2
  go_ret
  exact ⟨v', rfl, O, G⟩
def Nd.g (x : Nd) : Ng := ⟨x.kind, x.op, x.n, x.m, x.size, x.of, x.side, x.addr, x.bits⟩
theorem Nd.g_cells (x : Nd) : x.g.cells = x.cells := rfl
theorem ar1 (xs : List Nd) : p9 (xs.map Nd.g) = a0r xs := by
 induction xs with
 | nil => rfl
 | cons x xs ih => rw [List.map_cons, a5E, ih, a89, Nd.g_cells]
def a0E (n : Nat) (x : UInt8) : UInt8 := if n = 0 then 0 else if n < 8 then UInt8.ofNat (x.toNat / 2 ^ (8 - n) * 2 ^ (8 - n)) else x
def W5 : Nat → List UInt8 → List UInt8
 | _, [] => []
 | n, x :: r => a0E n x :: W5 (n - 8) r
theorem a1J (n : Nat) (xs : List UInt8) : (W5 n xs).length = xs.length := by
 induction xs generalizing n with
 | nil => rfl
 | cons x r ih => rw [W5, List.length_cons, List.length_cons, ih]
theorem aB5 (n : Nat) (xs : List UInt8) (j : Nat) (h : j < xs.length) : (W5 n xs)[j]'(by rw [a1J]; exact h) = a0E (n - 8 * j) xs[j] := by
 induction xs generalizing n j with
 | nil => simp at h
 | cons x r ih =>
  cases j with
  | zero => rfl
  | succ j =>
   simp only [W5, List.getElem_cons_succ]
   rw [ih (n - 8) j (by simpa using h)]
   congr 1
   omega
def a0Z (n : Nat) (bits : Int) : Int := if n ≠ 4 ∧ n ≠ 16 then 60 else if bits < 0 ∨ 8 * (n : Int) < bits then 61 else 0
def a1w (xs : List UInt8) (bits : Int) : List UInt8 := if a0Z xs.length bits = 0 then W5 bits.toNat xs else []

end Go.Proofs.YtklipelnjgpnjaaGreatDoor
