import Derived.Test.YtklipelnjgpnjaaGreatDoorProg
import Derived.WalkKit
import Derived.WalkSpells
import Derived.WalkLawsBesides
import Derived.Deep.QuietTactic
import Derived.BigQuiet
import Derived.Laws.AppendOwnNone
import Derived.Deep.RegionLaw
import Derived.Laws.IdiomStrings
import Derived.Handy
namespace Go.Proofs.YtklipelnjgpnjaaGreatDoor
open Go.RowKit
set_option maxRecDepth 100000
def bv (c : UInt8) : Value := .int .u8 (c.toNat : Int)
def Cells (w : World) (ao : Option Addr) (xs : List UInt8) : Prop :=
 (ao = none → xs = []) ∧ ∀ ad, ao = some ad → ∀ i (h : i < xs.length), w.cell? (ad.add i) = some (bv xs[i])
theorem Cells.addr {w : World} {ao : Option Addr} {xs : List UInt8} (h : Cells w ao xs) {k : Nat} (hk : k < xs.length) :
  ∃ b off, ao = some ⟨b, off, none⟩ ∧ ∀ i (hi : i < xs.length), w.cell? ⟨b, off + i, none⟩ = some (.int .u8 (xs[i].toNat : Int)) := by
 cases ao with
 | none => have := h.1 rfl; subst this; simp at hk
 | some ad =>
  obtain ⟨b, off, spot⟩ := ad
  have h0 := h.2 _ rfl 0 (by omega)
  have hspot : spot = none := by simpa [Addr.add] using World.cell?_spot h0
  subst hspot
  refine ⟨b, off, rfl, fun i hi => ?_⟩
  have := h.2 _ rfl i hi
  rw [Addr.add_lit] at this
  exact this
theorem Cells.same {w w' : World} {ao : Option Addr} {xs : List UInt8} (h : Cells w ao xs) (hs : ∀ b off i, ao = some ⟨b, off, none⟩ → i < xs.length → w'.cell? ⟨b, off + i, none⟩ = w.cell? ⟨b, off + i, none⟩) : Cells w' ao xs := by
 refine ⟨h.1, fun ad had i hi => ?_⟩
 obtain ⟨b, off, hao, hc⟩ := h.addr hi
 rw [hao] at had
 obtain rfl := Option.some.inj had
 rw [Addr.add_lit, hs b off i hao hi]
 exact hc i hi
def a3p (ao : Option Addr) (xs : List UInt8) (B : Nat) : Prop := ∀ ad, ao = some ad → xs ≠ [] → ad.block < B
theorem Cells.under {w : World} {ao : Option Addr} {xs : List UInt8} (h : Cells w ao xs) : a3p ao xs w.heap.size := by
 intro ad had hne
 have hl : 0 < xs.length := List.length_pos_iff.2 hne
 have := World.block_lt_of_cell? w _ (h.2 ad had 0 hl)
 simpa [Addr.add] using this
theorem Cells.kept {w w' : World} {row : Option Nat} {ao : Option Addr} {xs : List UInt8} (h : Cells w ao xs) (hg : w.grownBy w' row) (hne : ∀ ad, ao = some ad → xs ≠ [] → some ad.block ≠ row) : Cells w' ao xs := by
 refine h.same fun b off i hao hi => World.cell?_of_block (hg.block b ?_ ?_)
 ·have := h.under _ hao (by intro e; subst e; simp at hi)
  exact this
 ·exact hne _ hao (by intro e; subst e; simp at hi)
theorem Cells.keptNone {w w' : World} {ao : Option Addr} {xs : List UInt8} (h : Cells w ao xs) (hg : w.grownBy w' none) : Cells w' ao xs := h.kept hg (fun _ _ _ => by simp)
theorem Cells.below {w w' : World} {B : Nat} {ao : Option Addr} {xs : List UInt8} (h : Cells w ao xs) (hu : a3p ao xs B) (hb : Below B w w') : Cells w' ao xs := by
 refine h.same fun b off i hao hi => hb.cell (p := ⟨b, off + i, none⟩) ?_
 show b < B
 exact hu ⟨b, off, none⟩ hao (by intro e; subst e; simp at hi)
theorem a3p.mono {ao : Option Addr} {xs : List UInt8} {B C : Nat} (h : a3p ao xs B) (hB : B ≤ C) : a3p ao xs C := fun ad had hne => Nat.lt_of_lt_of_le (h ad had hne) hB
theorem f9 (w : World) (n : Nat) (row : Option Nat) : w.grownBy (w.drewN n) row := ⟨rfl, rfl, rfl, Nat.le_refl _, fun _ _ _ => rfl⟩
theorem d3 {a b c : World} {row : Option Nat} (h : a.grownBy b row) (k : b.grownBy c row) : a.grownBy c row :=
 ⟨k.os.trans h.os, k.tape.trans h.tape, k.output.trans h.output, Nat.le_trans h.size k.size, fun i hi hne => (k.block i (Nat.lt_of_lt_of_le hi h.size) hne).trans (h.block i hi hne)⟩
theorem V0 {a b c : World} {row : Option Nat} {g : Option Nat} (h : a.grownBy b row) (k : b.grownBy c g) (hg : ∀ x, g = some x → a.heap.size ≤ x) : a.grownBy c row :=
 ⟨k.os.trans h.os, k.tape.trans h.tape, k.output.trans h.output, Nat.le_trans h.size k.size, fun i hi hne => (k.block i (Nat.lt_of_lt_of_le hi h.size) (fun e => by have := hg i e.symm; omega)).trans (h.block i hi hne)⟩
abbrev m9 (w : World) (base : Nat) (v : Value) (xs : List UInt8) : Prop := w.ownsRow base 5 1 v xs.length (xs.map bv)
theorem a0p (xs : List UInt8) : ∀ u ∈ xs.map bv, u.oneCell' = true := by
 intro u hu
 obtain ⟨x, _, rfl⟩ := List.mem_map.1 hu
 rfl
theorem m9.shape {w : World} {base : Nat} {v : Value} {xs : List UInt8} (h : m9 w base v xs) :
  ∃ ao cap, v = .slice ao xs.length cap ∧ Cells w ao xs ∧ xs.length ≤ cap ∧ cap ≤ maxLen ∧ (∀ ad, ao = some ad → base ≤ ad.block ∧ ad.block < w.heap.size) ∧ v.ownBlock = ao.map (·.block) := by
 have hl := h.lt
 rcases h.2 with ⟨rfl, hn⟩ | ⟨g, cap, cur, rfl, hb, hg, hc, hm, hs, ht⟩
 ·refine ⟨none, 0, by rw [hn], ⟨fun _ => List.eq_nil_of_length_eq_zero hn, fun ad had => (by cases had)⟩, by omega, Nat.zero_le _, fun ad had => (by cases had), rfl⟩
 ·refine ⟨some ⟨g, 0, none⟩, cap, rfl, ⟨fun h => (by cases h), fun ad had i hi => ?_⟩, hc, hm, fun ad had => ?_, rfl⟩
  ·obtain rfl := Option.some.inj had
   exact h.cells (g := g) rfl i _ (by simp [hi])
  ·obtain rfl := Option.some.inj had
   exact hl g rfl
theorem am3 (w : World) (xs : List UInt8) : Cells (w.alloc (.cells (xs.map bv).toArray 5)) (some ⟨w.heap.size, 0, none⟩) xs := by
 refine ⟨fun h => (by cases h), fun ad had i hi => ?_⟩
 obtain rfl := Option.some.inj had
 have hh : (w.alloc (.cells (xs.map bv).toArray 5)).heap[w.heap.size]? = some (.cells (xs.map bv).toArray 5 (0, 0)) := heap_alloc_new w _
 rw [Addr.add_lit, Nat.zero_add, cell_of_row _ w.heap.size i _ _ _ hh]
 simp [hi]
theorem b0w {P : Program} {w : World} {ops : Array Oper} {rest : List Oper} {o : Oper} {a : Act} {Q : Exit → Act → World → Prop} (hgd : o.guard = none) (s x : Operand) (t : TypeId)
  (ho : o.op = .call { callee := .builtin .append, args := #[s, x], argTypes := #[t, t] })
  (i : TypeInfo) (ht : P.underlying t = some (.slice 5)) (hi : P.info? 5 = some i) (hz : i.zero = some (.int .u8 0)) (hsize : i.size = 1) (hby : i.bytes = 1)
  (base : Nat) (v : Value) (xs : List UInt8) (hs : a.eval s = v) (hown : m9 w base v xs)
  (ao : Option Addr) (c : Nat) (ys : List UInt8) (hx : a.eval x = .slice ao ys.length c) (hc0 : ao = none → c = 0) (hys : Cells w ao ys)
  (hbytes : xs.length + ys.length ≤ 140737488355328) (hbase : base ≤ w.heap.size)
  (h : ∀ v' w', m9 w' base v' (xs ++ ys) → w.grownBy w' v.ownBlock → wpList P ops Q rest (a.put o.dst v') w') : wpList P ops Q (o :: rest) a w := by
 cases ao with
 | none =>
  have e := hys.1 rfl
  subst e
  have e := hc0 rfl
  subst e
  refine wpList_append_own_none hgd s x t ho base 5 i 1 ht hi v xs.length (xs.map bv) hs hown (by simpa using hx) (h v w (by simpa using hown) (World.grownBy.refl _ _))
 | some ad =>
  refine wpList_append_own w hgd s x t ho base 5 i (.int .u8 0) 1 1 ht hi hz hsize hby rfl (by decide) v xs.length (xs.map bv) hs hown ad ys.length c (ys.map bv) hx (by simp) ?_ (a0p ys) (by unfold maxLen; omega) (by omega) hbase ?_
  ·intro j u hj
   obtain ⟨hlt, e⟩ := List.getElem?_eq_some_iff.1 hj
   simp only [List.length_map] at hlt
   rw [hys.2 ad rfl j hlt, ← e]
   simp
  ·intro v' w' h1 h2 _
   refine h v' w' ?_ h2
   unfold m9
   rw [List.length_append, List.map_append]
   exact h1
theorem a1f : (Tryz.prog.info? 5).map (fun i => (i.zero, i.size, i.bytes)) = some (some (.int .u8 0), 1, 1) := by kernel_rfl
def Blk (w : World) (g cap : Nat) : Prop := ∃ cur : Array Value, w.heap[g]? = some (.cells cur 5 (0, 0)) ∧ cur.size = cap
theorem Blk.cell {w : World} {g cap : Nat} (h : Blk w g cap) {i : Nat} (hi : i < cap) : ∃ u, w.cell? ⟨g, i, none⟩ = some u := by
 obtain ⟨cur, hh, hs⟩ := h
 refine ⟨cur[i], ?_⟩
 rw [cell_of_row w g i cur _ _ hh]
 simp
theorem Blk.free {w : World} {g cap : Nat} (h : Blk w g cap) (i : Nat) : w.frozen? ⟨g, i, none⟩ = false := by
 obtain ⟨cur, hh, hs⟩ := h
 simp [World.frozen?, hh]
theorem Blk.lt {w : World} {g cap : Nat} (h : Blk w g cap) : g < w.heap.size := by
 obtain ⟨cur, hh, hs⟩ := h
 exact (Array.getElem?_eq_some_iff.1 hh).1
theorem Blk.setCell {w : World} {g cap : Nat} (h : Blk w g cap) (a : Addr) (u : Value) : Blk (w.setCell a u) g cap := by
 obtain ⟨cur, hh, hs⟩ := h
 by_cases e : g = a.block
 ·subst e
  by_cases hsp : a.spot.isSome = true
  ·refine ⟨cur, ?_, hs⟩
   simp only [World.setCell, Array.getElem?_modify, hh]
   simp [hsp]
  ·refine ⟨cur.setIfInBounds a.off u, ?_, by simpa using hs⟩
   simp only [World.setCell, Array.getElem?_modify, hh]
   simp [hsp]
 ·exact ⟨cur, by rw [Below.heap_setCell _ _ _ _ e]; exact hh, hs⟩
theorem Blk.kept {w w' : World} {g cap : Nat} {row : Option Nat} (h : Blk w g cap) (hg : w.grownBy w' row) (hne : some g ≠ row) : Blk w' g cap := by
 have hl := h.lt
 obtain ⟨cur, hh, hs⟩ := h
 exact ⟨cur, by rw [hg.block g hl hne]; exact hh, hs⟩
theorem Blk.ofRow {w : World} {base g n cap : Nat} {xs : List Value} (h : w.ownsRow base 5 1 (.slice (some ⟨g, 0, none⟩) n cap) n xs) : Blk w g cap ∧ n ≤ cap ∧ cap ≤ maxLen := by
 rcases h.2 with ⟨h, _⟩ | ⟨g', cap', cur, hv, hb, hg, hc, hm, hs, ht⟩
 ·cases h
 ·simp only [Value.slice.injEq, Option.some.injEq, Addr.mk.injEq] at hv
  obtain ⟨⟨rfl, _⟩, _, rfl⟩ := hv
  exact ⟨⟨cur, hg, by simpa using hs⟩, hc, hm⟩
theorem a4g (w : World) (p : Addr) (u : Value) : w.grownBy (w.setCell p u) (some p.block) :=
 ⟨rfl, rfl, rfl, by simp, fun i _ hne => Below.heap_setCell _ _ _ _ (fun e => hne (by rw [e]))⟩
theorem N8 {a w : World} {row : Option Nat} (h : a.grownBy w row) (p : Addr) (u : Value) (hp : row = some p.block ∨ a.heap.size ≤ p.block) : a.grownBy (w.setCell p u) row := by
 rcases hp with e | e
 ·subst e
  exact d3 h (a4g w p u)
 ·exact V0 h (a4g w p u) (by intro x hx; obtain rfl := Option.some.inj hx; exact e)
theorem Blk.row {w : World} {g cap : Nat} (h : Blk w g cap) (n : Nat) (hn : n ≤ cap) (hm : cap ≤ maxLen) : ∃ xs : List Value, w.ownsRow 0 5 1 (.slice (some ⟨g, 0, none⟩) n cap) n xs := by
 obtain ⟨cur, hh, hs⟩ := h
 exact ⟨cur.toList.take (n * 1), by simp; omega, .inr ⟨g, cap, cur, rfl, Nat.zero_le _, hh, hn, hm, by simpa using hs, rfl⟩⟩
def okB (n : Nat) (p s : Int) : Bool := decide ((s = 1 ∨ s = 2 ∨ s = 4) ∧ 0 ≤ p ∧ p ≤ (n : Int) - s)
theorem W7 {a b : Bool} (h : a = b) : Ending.returned (.bool a) = .returned (.bool b) := by rw [h]
theorem L5 {k : IntKind} {a b : Int} (h : a = b) : Ending.returned (.int k a) = .returned (.int k b) := by rw [h]
theorem aG7 {n : Nat} {p s : Int} {c : Prop} [Decidable c] (h : c ↔ ((s = 1 ∨ s = 2 ∨ s = 4) ∧ 0 ≤ p ∧ p ≤ (n : Int) - s)) : decide c = okB n p s := decide_eq_decide.2 h
theorem a9b {n : Nat} {p s : Int} (h : ¬ ((s = 1 ∨ s = 2 ∨ s = 4) ∧ 0 ≤ p ∧ p ≤ (n : Int) - s)) : false = okB n p s := (decide_eq_false h).symm
theorem aG8 {n : Nat} {p s : Int} (h : okB n p s = true) : (s = 1 ∨ s = 2 ∨ s = 4) ∧ 0 ≤ p ∧ p ≤ (n : Int) - s := of_decide_eq_true h
def a0w (xs : List UInt8) (p : Nat) : Nat → Nat
 | 0 => 0
 | k + 1 => a0w xs p k * 256 + (xs.getD (p + k) 0).toNat
theorem aF7 (xs : List UInt8) (p k : Nat) : a0w xs p k < 256 ^ k := by
 induction k with
 | zero => simp [a0w]
 | succ k ih =>
  have := (xs.getD (p + k) 0).toNat_lt
  simp only [a0w, Nat.pow_succ]
  omega
theorem aF8 (xs : List UInt8) (p k : Nat) (hk : k ≤ 3) : a0w xs p k < 16777216 := by
 have h := aF7 xs p k
 have h2 : 256 ^ k ≤ 256 ^ 3 := Nat.pow_le_pow_right (by decide) hk
 omega
theorem aH6 (v c : Nat) (hv : v < 16777216) (hc : c < 256) : bits .or .u32 ((v : Int) * 256 % 4294967296) ((c : Int) % 4294967296) = ((v * 256 + c : Nat) : Int) := by
 rw [show ((v : Int) * 256 % 4294967296) = ((v * 256 : Nat) : Int) by omega, show ((c : Int) % 4294967296) = (c : Int) by omega, u32_or_nat _ _ (by omega) (by omega), nat_join 8 _ _ (by omega) (by omega)]
theorem aF9 (xs : List UInt8) (p k : Nat) (hk : k ≤ 3) (hp : p + k < xs.length) :
  Value.int IntKind.u32 (bits BinOp.or IntKind.u32 ((a0w xs p k : Int) * 256 % 4294967296) ((xs[p + k].toNat : Int) % 4294967296)) = Value.int IntKind.u32 (a0w xs p (k + 1)) := by
 rw [aH6 _ _ (aF8 xs p k hk) xs[p + k].toNat_lt]
 simp [a0w, hp]
def a1H (xs : List UInt8) (p s : Int) : Int := if okB xs.length p s = true then (a0w xs p.toNat s.toNat : Int) else 0
def CV (w : World) (ao : Option Addr) (vs : List Value) : Prop :=
 (ao = none → vs = []) ∧ ∀ ad, ao = some ad → ∀ i (h : i < vs.length), w.cell? (ad.add i) = some vs[i]
theorem CV.addr {w : World} {ao : Option Addr} {vs : List Value} (h : CV w ao vs) {k : Nat} (hk : k < vs.length) :
  ∃ b off, ao = some ⟨b, off, none⟩ ∧ ∀ i (hi : i < vs.length), w.cell? ⟨b, off + i, none⟩ = some vs[i] := by
 cases ao with
 | none => have := h.1 rfl; subst this; simp at hk
 | some ad =>
  obtain ⟨b, off, spot⟩ := ad
  have h0 := h.2 _ rfl 0 (by omega)
  have hspot : spot = none := by simpa [Addr.add] using World.cell?_spot h0
  subst hspot
  refine ⟨b, off, rfl, fun i hi => ?_⟩
  have := h.2 _ rfl i hi
  rw [Addr.add_lit] at this
  exact this
theorem CV.under {w : World} {ao : Option Addr} {vs : List Value} (h : CV w ao vs) {ad : Addr} (had : ao = some ad) (hne : vs ≠ []) : ad.block < w.heap.size := by
 have hl : 0 < vs.length := List.length_pos_iff.2 hne
 have := World.block_lt_of_cell? w _ (h.2 ad had 0 hl)
 simpa [Addr.add] using this
theorem CV.same {w w' : World} {ao : Option Addr} {vs : List Value} (h : CV w ao vs) (hs : ∀ ad, ao = some ad → vs ≠ [] → ad.block < w.heap.size → w'.heap[ad.block]? = w.heap[ad.block]?) : CV w' ao vs := by
 refine ⟨h.1, fun ad had i hi => ?_⟩
 have hne : vs ≠ [] := by intro e; subst e; simp at hi
 rw [World.cell?_of_block (w := w) (w' := w') (a := ad.add i) ?_]
 ·exact h.2 ad had i hi
 ·have e : (ad.add i).block = ad.block := by unfold Addr.add; split <;> rfl
  rw [e]
  exact hs ad had hne (h.under had hne)
theorem CV.kept {w w' : World} {row : Option Nat} {ao : Option Addr} {vs : List Value} (h : CV w ao vs) (hg : w.grownBy w' row) (hne : ∀ ad, ao = some ad → vs ≠ [] → some ad.block ≠ row) : CV w' ao vs :=
 h.same fun ad had hv hl => hg.block ad.block hl (hne ad had hv)
theorem CV.keptNone {w w' : World} {ao : Option Addr} {vs : List Value} (h : CV w ao vs) (hg : w.grownBy w' none) : CV w' ao vs := h.kept hg (fun _ _ _ => by simp)
theorem CV.below {w w' : World} {ao : Option Addr} {vs : List Value} (h : CV w ao vs) (hb : Below w.heap.size w w') : CV w' ao vs :=
 h.same fun ad _ _ hl => hb.block ad.block hl
theorem Cells.cv {w : World} {ao : Option Addr} {xs : List UInt8} (h : Cells w ao xs) : CV w ao (xs.map bv) := by
 refine ⟨fun e => by rw [h.1 e]; rfl, fun ad had i hi => ?_⟩
 simp only [List.length_map] at hi
 rw [h.2 ad had i hi]
 simp
theorem CV.cells {w : World} {ao : Option Addr} {xs : List UInt8} (h : CV w ao (xs.map bv)) : Cells w ao xs := by
 refine ⟨fun e => by simpa using h.1 e, fun ad had i hi => ?_⟩
 rw [h.2 ad had i (by simpa using hi)]
 simp
theorem CV.ofRow {w : World} {base e n : Nat} {v : Value} {vs : List Value} (h : w.ownsRow base e 1 v n vs) :
  ∃ ao cap, v = .slice ao n cap ∧ CV w ao vs ∧ n ≤ cap ∧ cap ≤ maxLen ∧ (ao = none → cap = 0) ∧ (∀ ad, ao = some ad → base ≤ ad.block ∧ ad.block < w.heap.size) ∧ v.ownBlock = ao.map (·.block) := by
 have hl := h.lt
 have h0 := h.1
 rcases h.2 with ⟨rfl, hn⟩ | ⟨g, cap, cur, rfl, hb, hg, hc, hm, hs, ht⟩
 ·subst hn
  refine ⟨none, 0, rfl, ⟨fun _ => List.eq_nil_of_length_eq_zero (by simpa using h0), fun ad had => (by cases had)⟩, by omega, Nat.zero_le _, fun _ => rfl, fun ad had => (by cases had), rfl⟩
 ·refine ⟨some ⟨g, 0, none⟩, cap, rfl, ⟨fun h => (by cases h), fun ad had i hi => ?_⟩, hc, hm, fun h => (by cases h), fun ad had => ?_, rfl⟩
  ·obtain rfl := Option.some.inj had
   exact h.cells (g := g) rfl i _ (by simp [hi])
  ·obtain rfl := Option.some.inj had
   exact hl g rfl
theorem o4 (w : World) (e : TypeId) (vs : List Value) : CV (w.alloc (.cells vs.toArray e)) (some ⟨w.heap.size, 0, none⟩) vs := by
 refine ⟨fun h => (by cases h), fun ad had i hi => ?_⟩
 obtain rfl := Option.some.inj had
 have hh : (w.alloc (.cells vs.toArray e)).heap[w.heap.size]? = some (.cells vs.toArray e (0, 0)) := heap_alloc_new w _
 rw [Addr.add_lit, Nat.zero_add, cell_of_row _ w.heap.size i _ _ _ hh]
 simp [hi]
def a6y (v k : Nat) : Nat := v / 256 ^ k
def a1R (xs : List UInt8) (p S : Nat) (v : Nat) : Nat → List UInt8
 | 0 => xs
 | k + 1 => (a1R xs p S v k).set (p + S - 1 - k) (UInt8.ofNat (a6y v k))
theorem a9z (xs : List UInt8) (p S v k : Nat) : (a1R xs p S v k).length = xs.length := by
 induction k with
 | zero => rfl
 | succ k ih => simp [a1R, ih]
theorem aI0 {w : World} {base g cap : Nat} {xs : List UInt8} (h : w.ownsRow base 5 1 (.slice (some ⟨g, 0, none⟩) xs.length cap) xs.length (xs.map bv)) (i : Nat) (c : Nat) :
  (w.setCell ⟨g, i, none⟩ (.int .u8 ((c : Int) % 256))).ownsRow base 5 1 (.slice (some ⟨g, 0, none⟩) xs.length cap) xs.length ((xs.set i (UInt8.ofNat c)).map bv) := by
 have := (h.stored i (.int .u8 ((c : Int) % 256))).1
 rw [List.map_set]
 have e : bv (UInt8.ofNat c) = .int .u8 ((c : Int) % 256) := by simp [bv]
 rw [e]
 exact this
def a22 (w : World) (g cap : Nat) (xs : List UInt8) (p S v k : Nat) (wr : World) : Prop :=
 wr.ownsRow w.heap.size 5 1 (.slice (some ⟨g, 0, none⟩) xs.length cap) xs.length ((a1R xs p S v k).map bv) ∧ w.grownBy wr none
theorem a22.store {w wr : World} {g cap : Nat} {xs : List UInt8} {p S v k : Nat} (h : a22 w g cap xs p S v k wr) : a22 w g cap xs p S v (k + 1) (wr.setCell ⟨g, p + S - 1 - k, none⟩ (.int .u8 (((a6y v k : Nat) : Int) % 256))) := by
 obtain ⟨ho, hg⟩ := h
 refine ⟨?_, N8 hg _ _ (.inr (ho.lt g rfl).1)⟩
 have hl := a9z xs p S v k
 have h' : wr.ownsRow w.heap.size 5 1 (.slice (some ⟨g, 0, none⟩) (a1R xs p S v k).length cap) (a1R xs p S v k).length ((a1R xs p S v k).map bv) := by rw [hl]; exact ho
 have := aI0 h' (p + S - 1 - k) (a6y v k)
 rw [hl] at this
 exact this
theorem a22.cell {w wr : World} {g cap : Nat} {xs : List UInt8} {p S v k : Nat} (h : a22 w g cap xs p S v k wr) {i : Nat} (hi : i < xs.length) : ∃ u, wr.cell? ⟨g, i, none⟩ = some u := by
 have := h.1.cellAt i (by omega)
 have hl := a9z xs p S v k
 refine ⟨bv ((a1R xs p S v k)[i]'(by omega)), ?_⟩
 rw [this]
 simp [hl, hi]
theorem a22.free {w wr : World} {g cap : Nat} {xs : List UInt8} {p S v k : Nat} (h : a22 w g cap xs p S v k wr) (i : Nat) : wr.frozen? ⟨g, i, none⟩ = false := h.1.frozenAt i
theorem a9h {w : World} {base base' e size n : Nat} {v : Value} {vs : List Value} (h : w.ownsRow base e size v n vs) (hb : base' ≤ base) : w.ownsRow base' e size v n vs := by
 refine ⟨h.1, ?_⟩
 rcases h.2 with h | ⟨g, cap, cur, hv, hg, r⟩
 ·exact .inl h
 ·exact .inr ⟨g, cap, cur, hv, Nat.le_trans hb hg, r⟩
def ae6 (w w' : World) (e : Ending) (xs : List UInt8) (ok : Bool) : Prop := ∃ v, e = .returned (.tuple #[v, .bool ok]) ∧ m9 w' w.heap.size v xs ∧ w.grownBy w' none
theorem m9.rd {w : World} {base : Nat} {v : Value} {xs : List UInt8} (h : m9 w base v xs) :
  ∃ ao cap, v = .slice ao xs.length cap ∧ Cells w ao xs ∧ (ao = none → cap = 0) ∧ (∀ ad, ao = some ad → base ≤ ad.block ∧ ad.block < w.heap.size) ∧ v.ownBlock = ao.map (·.block) := by
 obtain ⟨ao, cap, hv, hc, _, _, h0, hb, ho⟩ := CV.ofRow h
 exact ⟨ao, cap, hv, hc.cells, h0, hb, ho⟩
theorem x9 {w w' : World} {base e size n : Nat} {v : Value} {vs : List Value} (h : w.ownsRow base e size v n vs) (hg : w.grownBy w' none) : w'.ownsRow base e size v n vs := h.kept hg (by cases hv : v.ownBlock <;> simp)
def dg (n : Nat) : UInt8 := UInt8.ofNat (48 + n)
theorem ao5 {n : Nat} (h : n < 10) : (dg n).toNat = 48 + n := by simp [dg]; omega
def a07 : Nat → Nat → List UInt8
 | 0, _ => []
 | f + 1, n => if n < 10 then [dg n] else a07 f (n / 10) ++ [dg (n % 10)]
def dec (n : Nat) : List UInt8 := a07 20 n
def a1e (n : Nat) : List UInt8 := if n = 0 then [] else dec n
theorem an8 (f n : Nat) (h : n < 10 ^ f) (hf : 0 < f) : a07 (f + 1) n = a07 f n := by
 induction f generalizing n with
 | zero => omega
 | succ f ih =>
  by_cases h10 : n < 10
  ·simp [a07, h10]
  ·have hf0 : 0 < f := by
    rcases Nat.eq_zero_or_pos f with rfl | h0
    ·simp at h; omega
    ·exact h0
   rw [a07, if_neg h10, ih (n / 10) (by rw [Nat.pow_succ] at h; omega) hf0, a07, if_neg h10]
theorem an7 (f n : Nat) : (a07 f n).length ≤ f := by
 induction f generalizing n with
 | zero => simp [a07]
 | succ f ih =>
  rw [a07]
  split
  ·simp
  ·have := ih (n / 10); simp; omega
theorem S7 (n : Nat) : (dec n).length ≤ 20 := an7 20 n
theorem a5u (n : Nat) (h : n < 10 ^ 20) : dec n = a1e (n / 10) ++ [dg (n % 10)] := by
 by_cases h10 : n < 10
 ·rw [show n / 10 = 0 by omega, show n % 10 = n by omega]
  simp [a1e, dec, a07, h10]
 ·have h0 : n / 10 ≠ 0 := by omega
  rw [a1e, if_neg h0]
  show a07 (19 + 1) n = a07 20 (n / 10) ++ _
  rw [a07, if_neg h10, an8 19 (n / 10) (by omega) (by omega)]
theorem ao0 (n : Nat) (h0 : 0 < n) (h : n < 10 ^ 20) : a1e n = a1e (n / 10) ++ [dg (n % 10)] := by
 rw [← a5u n h, a1e, if_neg (by omega)]
abbrev str (xs : List UInt8) : Value := .string ⟨xs.toArray⟩
theorem cat (xs ys : List UInt8) : ((⟨xs.toArray⟩ : ByteArray) ++ (⟨ys.toArray⟩ : ByteArray)) = ⟨(xs ++ ys).toArray⟩ := by
 apply ByteArray.ext
 simp
theorem a6J (xs ys : List UInt8) : Value.string ((⟨xs.toArray⟩ : ByteArray) ++ (⟨ys.toArray⟩ : ByteArray)) = str (xs ++ ys) := by rw [cat]
def H9 (c : UInt8) : Bool := decide (48 ≤ c.toNat) && decide (c.toNat ≤ 57)
theorem ao4 {n : Nat} (h : n < 10) : H9 (dg n) = true := by
 have := ao5 h
 simp [H9, this]; omega
def L0 (most : Nat) : Nat → List UInt8 → Option Nat
 | v, [] => some v
 | v, c :: r => if H9 c = true then (if most < 10 * v + (c.toNat - 48) then none else L0 most (10 * v + (c.toNat - 48)) r) else none
def B5 (most : Nat) (s : List UInt8) : Option Nat := if s = [] ∨ (1 < s.length ∧ s.head? = some 48) then none else L0 most 0 s
theorem a7P (n : Nat) (h0 : 0 < n) : dec n = a1e n := by rw [a1e, if_neg (by omega)]
theorem ao1 : dec 0 = [48] := by decide
theorem a7N (n : Nat) (h20 : n < 10 ^ 20) : dec n ≠ [] := by rw [a5u n h20]; simp
theorem a5s (n : Nat) (h20 : n < 10 ^ 20) : ∀ c ∈ dec n, H9 c = true := by
 have key : ∀ n, n < 10 ^ 20 → ∀ c ∈ a1e n, H9 c = true := by
  intro n
  induction n using Nat.strongRecOn with
  | _ n ih =>
   intro h c hc
   by_cases h0 : n = 0
   ·subst h0; simp [a1e] at hc
   ·rw [ao0 n (by omega) h] at hc
    rcases List.mem_append.1 hc with hc | hc
    ·exact ih (n / 10) (by omega) (by omega) c hc
    ·simp only [List.mem_singleton] at hc
     subst hc
     exact ao4 (by omega)
 by_cases h0 : n = 0
 ·subst h0; rw [ao1]; decide
 ·rw [a7P n (by omega)]; exact key n h20
structure In where
 code : UInt16
 jt : UInt8
 jf : UInt8
 k : UInt32
def In.cells (x : In) : List Value := [.int .u16 (x.code.toNat : Int), .int .u8 (x.jt.toNat : Int), .int .u8 (x.jf.toNat : Int), .int .u32 (x.k.toNat : Int)]
def flat (xs : List In) : List Value := xs.flatMap In.cells
theorem S5 {w : World} {base e size n : Nat} {v : Value} {vs : List Value} (h : w.ownsRow base e size v n vs) :
  ∃ ao cap, v = .slice ao n cap ∧ CV w ao vs ∧ n ≤ cap ∧ cap ≤ maxLen ∧ (ao = none → cap = 0) ∧ (∀ ad, ao = some ad → base ≤ ad.block ∧ ad.block < w.heap.size) ∧ v.ownBlock = ao.map (·.block) := by
 have hl := h.lt
 have h0 := h.1
 rcases h.2 with ⟨rfl, hn⟩ | ⟨g, cap, cur, rfl, hb, hg, hc, hm, hs, ht⟩
 ·subst hn
  refine ⟨none, 0, rfl, ⟨fun _ => List.eq_nil_of_length_eq_zero (by simpa using h0), fun ad had => (by cases had)⟩, by omega, Nat.zero_le _, fun _ => rfl, fun ad had => (by cases had), rfl⟩
 ·refine ⟨some ⟨g, 0, none⟩, cap, rfl, ⟨fun h => (by cases h), fun ad had i hi => ?_⟩, hc, hm, fun h => (by cases h), fun ad had => ?_, rfl⟩
  ·obtain rfl := Option.some.inj had
   exact h.cells (g := g) rfl i _ (by simp [hi])
  ·obtain rfl := Option.some.inj had
   exact hl g rfl
theorem a9g {w : World} {base e size n : Nat} {v : Value} {vs : List Value} (h : w.ownsRow base e size v n vs) (hn : 0 < n) :
  ∃ g cap, v = .slice (some ⟨g, 0, none⟩) n cap ∧ n ≤ cap ∧ cap ≤ maxLen ∧ base ≤ g ∧ g < w.heap.size := by
 have hl := h.lt
 rcases h.2 with ⟨rfl, hn⟩ | ⟨g, cap, cur, rfl, hb, hg, hc, hm, hs, ht⟩
 ·omega
 ·exact ⟨g, cap, rfl, hc, hm, (hl g rfl).1, (hl g rfl).2⟩
theorem a0R {P : Program} {w : World} {ops : Array Oper} {rest : List Oper} {o : Oper} {a : Act} {Q : Exit → Act → World → Prop} (hgd : o.guard = none) (s x : Operand) (t : TypeId)
  (ho : o.op = .call { callee := .builtin .append, args := #[s, x], argTypes := #[t, t] })
  (e : TypeId) (i : TypeInfo) (z : Value) (size bytes : Nat) (ht : P.underlying t = some (.slice e)) (hi : P.info? e = some i) (hz : i.zero = some z) (hsize : i.size = size) (hby : i.bytes = bytes) (hzs : z.cells.size = size) (hsz : 0 < size)
  (base : Nat) (v : Value) (n : Nat) (vs : List Value) (hs : a.eval s = v) (hown : w.ownsRow base e size v n vs)
  (ao : Option Addr) (m c : Nat) (us : List Value) (hx : a.eval x = .slice ao m c) (hl : us.length = m * size) (hc0 : ao = none → c = 0) (hus : CV w ao us) (h1 : ∀ u ∈ us, u.oneCell' = true)
  (h63 : n + m ≤ maxLen) (hbytes : (n + m) * bytes ≤ 140737488355328) (hbase : base ≤ w.heap.size)
  (h : ∀ v' w', w'.ownsRow base e size v' (n + m) (vs ++ us) → w.grownBy w' v.ownBlock → wpList P ops Q rest (a.put o.dst v') w') : wpList P ops Q (o :: rest) a w := by
 cases ao with
 | none =>
  have e0 := hus.1 rfl
  subst e0
  have e1 := hc0 rfl
  subst e1
  have e2 : m = 0 := by
   rcases Nat.mul_eq_zero.1 hl.symm with h | h
   ·exact h
   ·omega
  subst e2
  refine wpList_append_own_none hgd s x t ho base e i size ht hi v n vs hs hown hx (h v w (by simpa using hown) (World.grownBy.refl _ _))
 | some ad =>
  refine wpList_append_own w hgd s x t ho base e i z size bytes ht hi hz hsize hby hzs hsz v n vs hs hown ad m c us hx hl ?_ h1 h63 hbytes hbase fun v' w' h1 h2 _ => h v' w' h1 h2
  intro j u hj
  obtain ⟨hlt, e⟩ := List.getElem?_eq_some_iff.1 hj
  rw [hus.2 ad rfl j hlt, e]
def J9 (w : World) (e : TypeId) (g n : Nat) : Prop := ∃ cur : Array Value, w.heap[g]? = some (.cells cur e (0, 0)) ∧ cur.size = n
theorem J9.cell {w : World} {e : TypeId} {g n : Nat} (h : J9 w e g n) {i : Nat} (hi : i < n) : ∃ u, w.cell? ⟨g, i, none⟩ = some u := by
 obtain ⟨cur, hh, hs⟩ := h
 refine ⟨cur[i], ?_⟩
 rw [cell_of_row w g i cur _ _ hh]
 simp
theorem J9.free {w : World} {e : TypeId} {g n : Nat} (h : J9 w e g n) (i : Nat) : w.frozen? ⟨g, i, none⟩ = false := by
 obtain ⟨cur, hh, hs⟩ := h
 simp [World.frozen?, hh]
theorem J9.lt {w : World} {e : TypeId} {g n : Nat} (h : J9 w e g n) : g < w.heap.size := by
 obtain ⟨cur, hh, hs⟩ := h
 exact (Array.getElem?_eq_some_iff.1 hh).1
theorem J9.setCell {w : World} {e : TypeId} {g n : Nat} (h : J9 w e g n) (a : Addr) (u : Value) : J9 (w.setCell a u) e g n := by
 obtain ⟨cur, hh, hs⟩ := h
 by_cases e : g = a.block
 ·subst e
  by_cases hsp : a.spot.isSome = true
  ·refine ⟨cur, ?_, hs⟩
   simp only [World.setCell, Array.getElem?_modify, hh]
   simp [hsp]
  ·refine ⟨cur.setIfInBounds a.off u, ?_, by simpa using hs⟩
   simp only [World.setCell, Array.getElem?_modify, hh]
   simp [hsp]
 ·exact ⟨cur, by rw [Below.heap_setCell _ _ _ _ e]; exact hh, hs⟩
theorem J9.kept {w w' : World} {e : TypeId} {g n : Nat} {row : Option Nat} (h : J9 w e g n) (hg : w.grownBy w' row) (hne : some g ≠ row) : J9 w' e g n := by
 have hl := h.lt
 obtain ⟨cur, hh, hs⟩ := h
 exact ⟨cur, by rw [hg.block g hl hne]; exact hh, hs⟩
theorem J9.ofRow {w : World} {base e size g n cap : Nat} {xs : List Value} (h : w.ownsRow base e size (.slice (some ⟨g, 0, none⟩) n cap) n xs) : J9 w e g (cap * size) ∧ n ≤ cap ∧ cap ≤ maxLen := by
 rcases h.2 with ⟨h, _⟩ | ⟨g', cap', cur, hv, hb, hg, hc, hm, hs, ht⟩
 ·cases h
 ·simp only [Value.slice.injEq, Option.some.injEq, Addr.mk.injEq] at hv
  obtain ⟨⟨rfl, _⟩, _, rfl⟩ := hv
  exact ⟨⟨cur, hg, hs⟩, hc, hm⟩
theorem J9.row {w : World} {e size g cap : Nat} (h : J9 w e g (cap * size)) (n : Nat) (hn : n ≤ cap) (hm : cap ≤ maxLen) : ∃ xs : List Value, w.ownsRow 0 e size (.slice (some ⟨g, 0, none⟩) n cap) n xs := by
 obtain ⟨cur, hh, hs⟩ := h
 have hle : n * size ≤ cap * size := Nat.mul_le_mul_right _ hn
 exact ⟨cur.toList.take (n * size), by rw [List.length_take, Array.length_toList, hs]; omega, .inr ⟨g, cap, cur, rfl, Nat.zero_le _, hh, hn, hm, hs, rfl⟩⟩
def sl (s : ByteArray) : List UInt8 := s.data.toList
theorem m8 (s : ByteArray) : (sl s).length = s.size := by simp [sl]
theorem a1U (xs : List UInt8) : sl ⟨xs.toArray⟩ = xs := rfl
theorem a0D (s : ByteArray) : Value.string s = str (sl s) := by simp [sl, str]
theorem a0c (s : ByteArray) (k : Nat) (hk : k < s.size) : (sl s).drop k = s[k] :: (sl s).drop (k + 1) := by
 rw [List.drop_eq_getElem_cons (by rw [m8]; exact hk)]
 rfl
theorem a1l (s : ByteArray) (i k : Nat) : sl (s.extract i k) = ((sl s).drop i).take (k - i) := by
 simp [sl, ByteArray.data_extract, Array.toList_extract, List.extract]
theorem a6g {most : Nat} : ∀ (v : Nat) (d : List UInt8) (n : Nat), v ≤ most → L0 most v d = some n → n ≤ most
 | v, [], n, hv, h => by simp [L0] at h; omega
 | v, c :: d, n, hv, h => by
  rw [L0] at h
  split at h
  ·split at h
   ·cases h
   ·exact a6g _ d n (by omega) h
  ·cases h
theorem aG4 {most n : Nat} {d : List UInt8} (h : B5 most d = some n) : n ≤ most := by
 unfold B5 at h
 split at h
 ·cases h
 ·exact a6g 0 d n (Nat.zero_le _) h
def D9 (n : Nat) : UInt8 := if n < 10 then UInt8.ofNat (48 + n) else UInt8.ofNat (87 + n)
theorem a9J {P : Program} {w : World} {base : Nat} {v : Value} {ys : List UInt8} (h : m9 w base v ys) (src dst : TypeId) (hs : P.underlying src = some (.slice 5)) (he : P.underlying 5 = some (.int .u8)) (hd : P.underlying dst = some .string) :
  (convert src dst v).run P w = .ok (.string ⟨ys.toArray⟩) w := by
 obtain ⟨ao, cap, rfl, hc, _⟩ := h.shape
 cases ao with
 | none =>
  have e := hc.1 rfl
  subst e
  show (convert src dst (.slice none 0 cap)).run P w = _
  rw [run_convert_bytes_string w src dst 5 none 0 cap hs he hd]
  simp [Conv.bytesToString]
  rfl
 | some ad => exact run_convert_bytes_back w src dst 5 ad cap ys hs he hd (fun j hj => hc.2 ad rfl j hj)

end Go.Proofs.YtklipelnjgpnjaaGreatDoor
