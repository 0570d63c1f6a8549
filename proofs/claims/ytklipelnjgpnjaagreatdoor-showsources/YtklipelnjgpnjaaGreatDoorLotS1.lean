import Derived.Test.YtklipelnjgpnjaaGreatDoorProg
import Derived.WalkKit
import Derived.WalkSpells
import Derived.WalkLawsBesides
import Derived.Deep.QuietTactic
import Derived.BigQuiet
import Derived.Laws.AppendOwnNone
import Derived.Deep.RegionLaw
import Derived.Laws.IdiomStrings
import Derived.Handy
set_option maxHeartbeats 64000000
set_option maxRecDepth 100000
namespace Go.Proofs.YtklipelnjgpnjaaGreatDoor
open Go.RowKit
def bv (c : UInt8) : Value := .int .u8 (c.toNat : Int)
def Cells (w : World) (ao : Option Addr) (xs : List UInt8) : Prop :=
 (ao = none → xs = []) ∧ ∀ ad, ao = some ad → ∀ i (h : i < xs.length), w.cell? (ad.add i) = some (bv xs[i])
theorem Cells.addr {w : World} {ao : Option Addr} {xs : List UInt8} (h : Cells w ao xs) {k : Nat} (hk : k < xs.length) :
  ∃ b off, ao = some ⟨b, off, none⟩ ∧ ∀ i (hi : i < xs.length), w.cell? ⟨b, off + i, none⟩ = some (.int .u8 (xs[i].toNat : Int)) := by
 cases ao with
 | none => have := h.1 rfl; subst this; simp at hk
 | some ad =>
  obtain ⟨b, off, spot⟩ := ad
  have h0 := h.2 _ rfl 0 (by omega)
  have hspot : spot = none := by simpa [Addr.add] using World.cell?_spot h0
  subst hspot
  refine ⟨b, off, rfl, fun i hi => ?_⟩
  have := h.2 _ rfl i hi
  rw [Addr.add_lit] at this
  exact this
theorem Cells.same {w w' : World} {ao : Option Addr} {xs : List UInt8} (h : Cells w ao xs) (hs : ∀ b off i, ao = some ⟨b, off, none⟩ → i < xs.length → w'.cell? ⟨b, off + i, none⟩ = w.cell? ⟨b, off + i, none⟩) : Cells w' ao xs := by
 refine ⟨h.1, fun ad had i hi => ?_⟩
 obtain ⟨b, off, hao, hc⟩ := h.addr hi
 rw [hao] at had
 obtain rfl := Option.some.inj had
 rw [Addr.add_lit, hs b off i hao hi]
 exact hc i hi
def a3H (ao : Option Addr) (xs : List UInt8) (B : Nat) : Prop := ∀ ad, ao = some ad → xs ≠ [] → ad.block < B
theorem Cells.under {w : World} {ao : Option Addr} {xs : List UInt8} (h : Cells w ao xs) : a3H ao xs w.heap.size := by
 intro ad had hne
 have hl : 0 < xs.length := List.length_pos_iff.2 hne
 have := World.block_lt_of_cell? w _ (h.2 ad had 0 hl)
 simpa [Addr.add] using this
theorem Cells.kept {w w' : World} {row : Option Nat} {ao : Option Addr} {xs : List UInt8} (h : Cells w ao xs) (hg : w.grownBy w' row) (hne : ∀ ad, ao = some ad → xs ≠ [] → some ad.block ≠ row) : Cells w' ao xs := by
 refine h.same fun b off i hao hi => World.cell?_of_block (hg.block b ?_ ?_)
 ·have := h.under _ hao (by intro e; subst e; simp at hi)
  exact this
 ·exact hne _ hao (by intro e; subst e; simp at hi)
theorem Cells.keptNone {w w' : World} {ao : Option Addr} {xs : List UInt8} (h : Cells w ao xs) (hg : w.grownBy w' none) : Cells w' ao xs := h.kept hg (fun _ _ _ => by simp)
theorem Cells.below {w w' : World} {B : Nat} {ao : Option Addr} {xs : List UInt8} (h : Cells w ao xs) (hu : a3H ao xs B) (hb : Below B w w') : Cells w' ao xs := by
 refine h.same fun b off i hao hi => hb.cell (p := ⟨b, off + i, none⟩) ?_
 show b < B
 exact hu ⟨b, off, none⟩ hao (by intro e; subst e; simp at hi)
theorem a3H.mono {ao : Option Addr} {xs : List UInt8} {B C : Nat} (h : a3H ao xs B) (hB : B ≤ C) : a3H ao xs C := fun ad had hne => Nat.lt_of_lt_of_le (h ad had hne) hB
theorem f4 (w : World) (n : Nat) (row : Option Nat) : w.grownBy (w.drewN n) row := ⟨rfl, rfl, rfl, Nat.le_refl _, fun _ _ _ => rfl⟩
theorem d3 {a b c : World} {row : Option Nat} (h : a.grownBy b row) (k : b.grownBy c row) : a.grownBy c row :=
 ⟨k.os.trans h.os, k.tape.trans h.tape, k.output.trans h.output, Nat.le_trans h.size k.size, fun i hi hne => (k.block i (Nat.lt_of_lt_of_le hi h.size) hne).trans (h.block i hi hne)⟩
theorem a00 {a b c : World} {row : Option Nat} {g : Option Nat} (h : a.grownBy b row) (k : b.grownBy c g) (hg : ∀ x, g = some x → a.heap.size ≤ x) : a.grownBy c row :=
 ⟨k.os.trans h.os, k.tape.trans h.tape, k.output.trans h.output, Nat.le_trans h.size k.size, fun i hi hne => (k.block i (Nat.lt_of_lt_of_le hi h.size) (fun e => by have := hg i e.symm; omega)).trans (h.block i hi hne)⟩
abbrev o9 (w : World) (base : Nat) (v : Value) (xs : List UInt8) : Prop := w.ownsRow base 5 1 v xs.length (xs.map bv)
theorem a0H (xs : List UInt8) : ∀ u ∈ xs.map bv, u.oneCell' = true := by
 intro u hu
 obtain ⟨x, _, rfl⟩ := List.mem_map.1 hu
 rfl
theorem o9.shape {w : World} {base : Nat} {v : Value} {xs : List UInt8} (h : o9 w base v xs) :
  ∃ ao cap, v = .slice ao xs.length cap ∧ Cells w ao xs ∧ xs.length ≤ cap ∧ cap ≤ maxLen ∧ (∀ ad, ao = some ad → base ≤ ad.block ∧ ad.block < w.heap.size) ∧ v.ownBlock = ao.map (·.block) := by
 have hl := h.lt
 rcases h.2 with ⟨rfl, hn⟩ | ⟨g, cap, cur, rfl, hb, hg, hc, hm, hs, ht⟩
 ·refine ⟨none, 0, by rw [hn], ⟨fun _ => List.eq_nil_of_length_eq_zero hn, fun ad had => (by cases had)⟩, by omega, Nat.zero_le _, fun ad had => (by cases had), rfl⟩
 ·refine ⟨some ⟨g, 0, none⟩, cap, rfl, ⟨fun h => (by cases h), fun ad had i hi => ?_⟩, hc, hm, fun ad had => ?_, rfl⟩
  ·obtain rfl := Option.some.inj had
   exact h.cells (g := g) rfl i _ (by simp [hi])
  ·obtain rfl := Option.some.inj had
   exact hl g rfl
theorem an8 (w : World) (xs : List UInt8) : Cells (w.alloc (.cells (xs.map bv).toArray 5)) (some ⟨w.heap.size, 0, none⟩) xs := by
 refine ⟨fun h => (by cases h), fun ad had i hi => ?_⟩
 obtain rfl := Option.some.inj had
 have hh : (w.alloc (.cells (xs.map bv).toArray 5)).heap[w.heap.size]? = some (.cells (xs.map bv).toArray 5 (0, 0)) := heap_alloc_new w _
 rw [Addr.add_lit, Nat.zero_add, cell_of_row _ w.heap.size i _ _ _ hh]
 simp [hi]
theorem b1c {P : Program} {w : World} {ops : Array Oper} {rest : List Oper} {o : Oper} {a : Act} {Q : Exit → Act → World → Prop} (hgd : o.guard = none) (s x : Operand) (t : TypeId)
  (ho : o.op = .call { callee := .builtin .append, args := #[s, x], argTypes := #[t, t] })
  (i : TypeInfo) (ht : P.underlying t = some (.slice 5)) (hi : P.info? 5 = some i) (hz : i.zero = some (.int .u8 0)) (hsize : i.size = 1) (hby : i.bytes = 1)
  (base : Nat) (v : Value) (xs : List UInt8) (hs : a.eval s = v) (hown : o9 w base v xs)
  (ao : Option Addr) (c : Nat) (ys : List UInt8) (hx : a.eval x = .slice ao ys.length c) (hc0 : ao = none → c = 0) (hys : Cells w ao ys)
  (hbytes : xs.length + ys.length ≤ 140737488355328) (hbase : base ≤ w.heap.size)
  (h : ∀ v' w', o9 w' base v' (xs ++ ys) → w.grownBy w' v.ownBlock → wpList P ops Q rest (a.put o.dst v') w') : wpList P ops Q (o :: rest) a w := by
 cases ao with
 | none =>
  have e := hys.1 rfl
  subst e
  have e := hc0 rfl
  subst e
  refine wpList_append_own_none hgd s x t ho base 5 i 1 ht hi v xs.length (xs.map bv) hs hown (by simpa using hx) (h v w (by simpa using hown) (World.grownBy.refl _ _))
 | some ad =>
  refine wpList_append_own w hgd s x t ho base 5 i (.int .u8 0) 1 1 ht hi hz hsize hby rfl (by decide) v xs.length (xs.map bv) hs hown ad ys.length c (ys.map bv) hx (by simp) ?_ (a0H ys) (by unfold maxLen; omega) (by omega) hbase ?_
  ·intro j u hj
   obtain ⟨hlt, e⟩ := List.getElem?_eq_some_iff.1 hj
   simp only [List.length_map] at hlt
   rw [hys.2 ad rfl j hlt, ← e]
   simp
  ·intro v' w' h1 h2 _
   refine h v' w' ?_ h2
   unfold o9
   rw [List.length_append, List.map_append]
   exact h1
theorem a1i : (Tryz.prog.info? 5).map (fun i => (i.zero, i.size, i.bytes)) = some (some (.int .u8 0), 1, 1) := by kernel_rfl
def Blk (w : World) (g cap : Nat) : Prop := ∃ cur : Array Value, w.heap[g]? = some (.cells cur 5 (0, 0)) ∧ cur.size = cap
theorem Blk.cell {w : World} {g cap : Nat} (h : Blk w g cap) {i : Nat} (hi : i < cap) : ∃ u, w.cell? ⟨g, i, none⟩ = some u := by
 obtain ⟨cur, hh, hs⟩ := h
 refine ⟨cur[i], ?_⟩
 rw [cell_of_row w g i cur _ _ hh]
 simp
theorem Blk.free {w : World} {g cap : Nat} (h : Blk w g cap) (i : Nat) : w.frozen? ⟨g, i, none⟩ = false := by
 obtain ⟨cur, hh, hs⟩ := h
 simp [World.frozen?, hh]
theorem Blk.lt {w : World} {g cap : Nat} (h : Blk w g cap) : g < w.heap.size := by
 obtain ⟨cur, hh, hs⟩ := h
 exact (Array.getElem?_eq_some_iff.1 hh).1
theorem Blk.setCell {w : World} {g cap : Nat} (h : Blk w g cap) (a : Addr) (u : Value) : Blk (w.setCell a u) g cap := by
 obtain ⟨cur, hh, hs⟩ := h
 by_cases e : g = a.block
 ·subst e
  by_cases hsp : a.spot.isSome = true
  ·refine ⟨cur, ?_, hs⟩
   simp only [World.setCell, Array.getElem?_modify, hh]
   simp [hsp]
  ·refine ⟨cur.setIfInBounds a.off u, ?_, by simpa using hs⟩
   simp only [World.setCell, Array.getElem?_modify, hh]
   simp [hsp]
 ·exact ⟨cur, by rw [Below.heap_setCell _ _ _ _ e]; exact hh, hs⟩
theorem Blk.kept {w w' : World} {g cap : Nat} {row : Option Nat} (h : Blk w g cap) (hg : w.grownBy w' row) (hne : some g ≠ row) : Blk w' g cap := by
 have hl := h.lt
 obtain ⟨cur, hh, hs⟩ := h
 exact ⟨cur, by rw [hg.block g hl hne]; exact hh, hs⟩
theorem Blk.ofRow {w : World} {base g n cap : Nat} {xs : List Value} (h : w.ownsRow base 5 1 (.slice (some ⟨g, 0, none⟩) n cap) n xs) : Blk w g cap ∧ n ≤ cap ∧ cap ≤ maxLen := by
 rcases h.2 with ⟨h, _⟩ | ⟨g', cap', cur, hv, hb, hg, hc, hm, hs, ht⟩
 ·cases h
 ·simp only [Value.slice.injEq, Option.some.injEq, Addr.mk.injEq] at hv
  obtain ⟨⟨rfl, _⟩, _, rfl⟩ := hv
  exact ⟨⟨cur, hg, by simpa using hs⟩, hc, hm⟩
theorem a4H (w : World) (p : Addr) (u : Value) : w.grownBy (w.setCell p u) (some p.block) :=
 ⟨rfl, rfl, rfl, by simp, fun i _ hne => Below.heap_setCell _ _ _ _ (fun e => hne (by rw [e]))⟩
theorem T3 {a w : World} {row : Option Nat} (h : a.grownBy w row) (p : Addr) (u : Value) (hp : row = some p.block ∨ a.heap.size ≤ p.block) : a.grownBy (w.setCell p u) row := by
 rcases hp with e | e
 ·subst e
  exact d3 h (a4H w p u)
 ·exact a00 h (a4H w p u) (by intro x hx; obtain rfl := Option.some.inj hx; exact e)
theorem Blk.row {w : World} {g cap : Nat} (h : Blk w g cap) (n : Nat) (hn : n ≤ cap) (hm : cap ≤ maxLen) : ∃ xs : List Value, w.ownsRow 0 5 1 (.slice (some ⟨g, 0, none⟩) n cap) n xs := by
 obtain ⟨cur, hh, hs⟩ := h
 exact ⟨cur.toList.take (n * 1), by simp; omega, .inr ⟨g, cap, cur, rfl, Nat.zero_le _, hh, hn, hm, by simpa using hs, rfl⟩⟩
def okB (n : Nat) (p s : Int) : Bool := decide ((s = 1 ∨ s = 2 ∨ s = 4) ∧ 0 ≤ p ∧ p ≤ (n : Int) - s)
theorem a0a {a b : Bool} (h : a = b) : Ending.returned (.bool a) = .returned (.bool b) := by rw [h]
theorem O6 {k : IntKind} {a b : Int} (h : a = b) : Ending.returned (.int k a) = .returned (.int k b) := by rw [h]
theorem aJ4 {n : Nat} {p s : Int} {c : Prop} [Decidable c] (h : c ↔ ((s = 1 ∨ s = 2 ∨ s = 4) ∧ 0 ≤ p ∧ p ≤ (n : Int) - s)) : decide c = okB n p s := decide_eq_decide.2 h
theorem a9B {n : Nat} {p s : Int} (h : ¬ ((s = 1 ∨ s = 2 ∨ s = 4) ∧ 0 ≤ p ∧ p ≤ (n : Int) - s)) : false = okB n p s := (decide_eq_false h).symm
theorem aJ5 {n : Nat} {p s : Int} (h : okB n p s = true) : (s = 1 ∨ s = 2 ∨ s = 4) ∧ 0 ≤ p ∧ p ≤ (n : Int) - s := of_decide_eq_true h
def a0P (xs : List UInt8) (p : Nat) : Nat → Nat
 | 0 => 0
 | k + 1 => a0P xs p k * 256 + (xs.getD (p + k) 0).toNat
theorem aI2 (xs : List UInt8) (p k : Nat) : a0P xs p k < 256 ^ k := by
 induction k with
 | zero => simp [a0P]
 | succ k ih =>
  have := (xs.getD (p + k) 0).toNat_lt
  simp only [a0P, Nat.pow_succ]
  omega
theorem aI3 (xs : List UInt8) (p k : Nat) (hk : k ≤ 3) : a0P xs p k < 16777216 := by
 have h := aI2 xs p k
 have h2 : 256 ^ k ≤ 256 ^ 3 := Nat.pow_le_pow_right (by decide) hk
 omega
theorem aK2 (v c : Nat) (hv : v < 16777216) (hc : c < 256) : bits .or .u32 ((v : Int) * 256 % 4294967296) ((c : Int) % 4294967296) = ((v * 256 + c : Nat) : Int) := by
 rw [show ((v : Int) * 256 % 4294967296) = ((v * 256 : Nat) : Int) by omega, show ((c : Int) % 4294967296) = (c : Int) by omega, u32_or_nat _ _ (by omega) (by omega), nat_join 8 _ _ (by omega) (by omega)]
theorem aI4 (xs : List UInt8) (p k : Nat) (hk : k ≤ 3) (hp : p + k < xs.length) :
  Value.int IntKind.u32 (bits BinOp.or IntKind.u32 ((a0P xs p k : Int) * 256 % 4294967296) ((xs[p + k].toNat : Int) % 4294967296)) = Value.int IntKind.u32 (a0P xs p (k + 1)) := by
 rw [aK2 _ _ (aI3 xs p k hk) xs[p + k].toNat_lt]
 simp [a0P, hp]
def a22 (xs : List UInt8) (p s : Int) : Int := if okB xs.length p s = true then (a0P xs p.toNat s.toNat : Int) else 0
def CV (w : World) (ao : Option Addr) (vs : List Value) : Prop :=
 (ao = none → vs = []) ∧ ∀ ad, ao = some ad → ∀ i (h : i < vs.length), w.cell? (ad.add i) = some vs[i]
theorem CV.addr {w : World} {ao : Option Addr} {vs : List Value} (h : CV w ao vs) {k : Nat} (hk : k < vs.length) :
  ∃ b off, ao = some ⟨b, off, none⟩ ∧ ∀ i (hi : i < vs.length), w.cell? ⟨b, off + i, none⟩ = some vs[i] := by
 cases ao with
 | none => have := h.1 rfl; subst this; simp at hk
 | some ad =>
  obtain ⟨b, off, spot⟩ := ad
  have h0 := h.2 _ rfl 0 (by omega)
  have hspot : spot = none := by simpa [Addr.add] using World.cell?_spot h0
  subst hspot
  refine ⟨b, off, rfl, fun i hi => ?_⟩
  have := h.2 _ rfl i hi
  rw [Addr.add_lit] at this
  exact this
theorem CV.under {w : World} {ao : Option Addr} {vs : List Value} (h : CV w ao vs) {ad : Addr} (had : ao = some ad) (hne : vs ≠ []) : ad.block < w.heap.size := by
 have hl : 0 < vs.length := List.length_pos_iff.2 hne
 have := World.block_lt_of_cell? w _ (h.2 ad had 0 hl)
 simpa [Addr.add] using this
theorem CV.same {w w' : World} {ao : Option Addr} {vs : List Value} (h : CV w ao vs) (hs : ∀ ad, ao = some ad → vs ≠ [] → ad.block < w.heap.size → w'.heap[ad.block]? = w.heap[ad.block]?) : CV w' ao vs := by
 refine ⟨h.1, fun ad had i hi => ?_⟩
 have hne : vs ≠ [] := by intro e; subst e; simp at hi
 rw [World.cell?_of_block (w := w) (w' := w') (a := ad.add i) ?_]
 ·exact h.2 ad had i hi
 ·have e : (ad.add i).block = ad.block := by unfold Addr.add; split <;> rfl
  rw [e]
  exact hs ad had hne (h.under had hne)
theorem CV.kept {w w' : World} {row : Option Nat} {ao : Option Addr} {vs : List Value} (h : CV w ao vs) (hg : w.grownBy w' row) (hne : ∀ ad, ao = some ad → vs ≠ [] → some ad.block ≠ row) : CV w' ao vs :=
 h.same fun ad had hv hl => hg.block ad.block hl (hne ad had hv)
theorem CV.keptNone {w w' : World} {ao : Option Addr} {vs : List Value} (h : CV w ao vs) (hg : w.grownBy w' none) : CV w' ao vs := h.kept hg (fun _ _ _ => by simp)
theorem CV.below {w w' : World} {ao : Option Addr} {vs : List Value} (h : CV w ao vs) (hb : Below w.heap.size w w') : CV w' ao vs :=
 h.same fun ad _ _ hl => hb.block ad.block hl
theorem Cells.cv {w : World} {ao : Option Addr} {xs : List UInt8} (h : Cells w ao xs) : CV w ao (xs.map bv) := by
 refine ⟨fun e => by rw [h.1 e]; rfl, fun ad had i hi => ?_⟩
 simp only [List.length_map] at hi
 rw [h.2 ad had i hi]
 simp
theorem CV.cells {w : World} {ao : Option Addr} {xs : List UInt8} (h : CV w ao (xs.map bv)) : Cells w ao xs := by
 refine ⟨fun e => by simpa using h.1 e, fun ad had i hi => ?_⟩
 rw [h.2 ad had i (by simpa using hi)]
 simp
theorem CV.ofRow {w : World} {base e n : Nat} {v : Value} {vs : List Value} (h : w.ownsRow base e 1 v n vs) :
  ∃ ao cap, v = .slice ao n cap ∧ CV w ao vs ∧ n ≤ cap ∧ cap ≤ maxLen ∧ (ao = none → cap = 0) ∧ (∀ ad, ao = some ad → base ≤ ad.block ∧ ad.block < w.heap.size) ∧ v.ownBlock = ao.map (·.block) := by
 have hl := h.lt
 have h0 := h.1
 rcases h.2 with ⟨rfl, hn⟩ | ⟨g, cap, cur, rfl, hb, hg, hc, hm, hs, ht⟩
 ·subst hn
  refine ⟨none, 0, rfl, ⟨fun _ => List.eq_nil_of_length_eq_zero (by simpa using h0), fun ad had => (by cases had)⟩, by omega, Nat.zero_le _, fun _ => rfl, fun ad had => (by cases had), rfl⟩
 ·refine ⟨some ⟨g, 0, none⟩, cap, rfl, ⟨fun h => (by cases h), fun ad had i hi => ?_⟩, hc, hm, fun h => (by cases h), fun ad had => ?_, rfl⟩
  ·obtain rfl := Option.some.inj had
   exact h.cells (g := g) rfl i _ (by simp [hi])
  ·obtain rfl := Option.some.inj had
   exact hl g rfl
theorem q8 (w : World) (e : TypeId) (vs : List Value) : CV (w.alloc (.cells vs.toArray e)) (some ⟨w.heap.size, 0, none⟩) vs := by
 refine ⟨fun h => (by cases h), fun ad had i hi => ?_⟩
 obtain rfl := Option.some.inj had
 have hh : (w.alloc (.cells vs.toArray e)).heap[w.heap.size]? = some (.cells vs.toArray e (0, 0)) := heap_alloc_new w _
 rw [Addr.add_lit, Nat.zero_add, cell_of_row _ w.heap.size i _ _ _ hh]
 simp [hi]
def a6Z (v k : Nat) : Nat := v / 256 ^ k
def a2b (xs : List UInt8) (p S : Nat) (v : Nat) : Nat → List UInt8
 | 0 => xs
 | k + 1 => (a2b xs p S v k).set (p + S - 1 - k) (UInt8.ofNat (a6Z v k))
theorem a9U (xs : List UInt8) (p S v k : Nat) : (a2b xs p S v k).length = xs.length := by
 induction k with
 | zero => rfl
 | succ k ih => simp [a2b, ih]
theorem aK5 {w : World} {base g cap : Nat} {xs : List UInt8} (h : w.ownsRow base 5 1 (.slice (some ⟨g, 0, none⟩) xs.length cap) xs.length (xs.map bv)) (i : Nat) (c : Nat) :
  (w.setCell ⟨g, i, none⟩ (.int .u8 ((c : Int) % 256))).ownsRow base 5 1 (.slice (some ⟨g, 0, none⟩) xs.length cap) xs.length ((xs.set i (UInt8.ofNat c)).map bv) := by
 have := (h.stored i (.int .u8 ((c : Int) % 256))).1
 rw [List.map_set]
 have e : bv (UInt8.ofNat c) = .int .u8 ((c : Int) % 256) := by simp [bv]
 rw [e]
 exact this
def a2n (w : World) (g cap : Nat) (xs : List UInt8) (p S v k : Nat) (wr : World) : Prop :=
 wr.ownsRow w.heap.size 5 1 (.slice (some ⟨g, 0, none⟩) xs.length cap) xs.length ((a2b xs p S v k).map bv) ∧ w.grownBy wr none
theorem a2n.store {w wr : World} {g cap : Nat} {xs : List UInt8} {p S v k : Nat} (h : a2n w g cap xs p S v k wr) : a2n w g cap xs p S v (k + 1) (wr.setCell ⟨g, p + S - 1 - k, none⟩ (.int .u8 (((a6Z v k : Nat) : Int) % 256))) := by
 obtain ⟨ho, hg⟩ := h
 refine ⟨?_, T3 hg _ _ (.inr (ho.lt g rfl).1)⟩
 have hl := a9U xs p S v k
 have h' : wr.ownsRow w.heap.size 5 1 (.slice (some ⟨g, 0, none⟩) (a2b xs p S v k).length cap) (a2b xs p S v k).length ((a2b xs p S v k).map bv) := by rw [hl]; exact ho
 have := aK5 h' (p + S - 1 - k) (a6Z v k)
 rw [hl] at this
 exact this
theorem a2n.cell {w wr : World} {g cap : Nat} {xs : List UInt8} {p S v k : Nat} (h : a2n w g cap xs p S v k wr) {i : Nat} (hi : i < xs.length) : ∃ u, wr.cell? ⟨g, i, none⟩ = some u := by
 have := h.1.cellAt i (by omega)
 have hl := a9U xs p S v k
 refine ⟨bv ((a2b xs p S v k)[i]'(by omega)), ?_⟩
 rw [this]
 simp [hl, hi]
theorem a2n.free {w wr : World} {g cap : Nat} {xs : List UInt8} {p S v k : Nat} (h : a2n w g cap xs p S v k wr) (i : Nat) : wr.frozen? ⟨g, i, none⟩ = false := h.1.frozenAt i
theorem a9F {w : World} {base base' e size n : Nat} {v : Value} {vs : List Value} (h : w.ownsRow base e size v n vs) (hb : base' ≤ base) : w.ownsRow base' e size v n vs := by
 refine ⟨h.1, ?_⟩
 rcases h.2 with h | ⟨g, cap, cur, hv, hg, r⟩
 ·exact .inl h
 ·exact .inr ⟨g, cap, cur, hv, Nat.le_trans hb hg, r⟩
def ag7 (w w' : World) (e : Ending) (xs : List UInt8) (ok : Bool) : Prop := ∃ v, e = .returned (.tuple #[v, .bool ok]) ∧ o9 w' w.heap.size v xs ∧ w.grownBy w' none
theorem o9.rd {w : World} {base : Nat} {v : Value} {xs : List UInt8} (h : o9 w base v xs) :
  ∃ ao cap, v = .slice ao xs.length cap ∧ Cells w ao xs ∧ (ao = none → cap = 0) ∧ (∀ ad, ao = some ad → base ≤ ad.block ∧ ad.block < w.heap.size) ∧ v.ownBlock = ao.map (·.block) := by
 obtain ⟨ao, cap, hv, hc, _, _, h0, hb, ho⟩ := CV.ofRow h
 exact ⟨ao, cap, hv, hc.cells, h0, hb, ho⟩
theorem D8 {w w' : World} {base e size n : Nat} {v : Value} {vs : List Value} (h : w.ownsRow base e size v n vs) (hg : w.grownBy w' none) : w'.ownsRow base e size v n vs := h.kept hg (by cases hv : v.ownBlock <;> simp)
def dg (n : Nat) : UInt8 := UInt8.ofNat (48 + n)
theorem a64 {n : Nat} (h : n < 10) : (dg n).toNat = 48 + n := by simp [dg]; omega
def a0q : Nat → Nat → List UInt8
 | 0, _ => []
 | f + 1, n => if n < 10 then [dg n] else a0q f (n / 10) ++ [dg (n % 10)]
def dec (n : Nat) : List UInt8 := a0q 20 n
def a0J (n : Nat) : List UInt8 := if n = 0 then [] else dec n
theorem ap4 (f n : Nat) (h : n < 10 ^ f) (hf : 0 < f) : a0q (f + 1) n = a0q f n := by
 induction f generalizing n with
 | zero => omega
 | succ f ih =>
  by_cases h10 : n < 10
  ·simp [a0q, h10]
  ·have hf0 : 0 < f := by
    rcases Nat.eq_zero_or_pos f with rfl | h0
    ·simp at h; omega
    ·exact h0
   rw [a0q, if_neg h10, ih (n / 10) (by rw [Nat.pow_succ] at h; omega) hf0, a0q, if_neg h10]
theorem ap3 (f n : Nat) : (a0q f n).length ≤ f := by
 induction f generalizing n with
 | zero => simp [a0q]
 | succ f ih =>
  rw [a0q]
  split
  ·simp
  ·have := ih (n / 10); simp; omega
theorem U3 (n : Nat) : (dec n).length ≤ 20 := ap3 20 n
theorem a62 (n : Nat) (h : n < 10 ^ 20) : dec n = a0J (n / 10) ++ [dg (n % 10)] := by
 by_cases h10 : n < 10
 ·rw [show n / 10 = 0 by omega, show n % 10 = n by omega]
  simp [a0J, dec, a0q, h10]
 ·have h0 : n / 10 ≠ 0 := by omega
  rw [a0J, if_neg h0]
  show a0q (19 + 1) n = a0q 20 (n / 10) ++ _
  rw [a0q, if_neg h10, ap4 19 (n / 10) (by omega) (by omega)]
theorem a5Y (n : Nat) (h0 : 0 < n) (h : n < 10 ^ 20) : a0J n = a0J (n / 10) ++ [dg (n % 10)] := by
 rw [← a62 n h, a0J, if_neg (by omega)]
abbrev str (xs : List UInt8) : Value := .string ⟨xs.toArray⟩
theorem cat (xs ys : List UInt8) : ((⟨xs.toArray⟩ : ByteArray) ++ (⟨ys.toArray⟩ : ByteArray)) = ⟨(xs ++ ys).toArray⟩ := by
 apply ByteArray.ext
 simp
theorem a7e (xs ys : List UInt8) : Value.string ((⟨xs.toArray⟩ : ByteArray) ++ (⟨ys.toArray⟩ : ByteArray)) = str (xs ++ ys) := by rw [cat]
def D3 (c : UInt8) : Bool := decide (48 ≤ c.toNat) && decide (c.toNat ≤ 57)
theorem a63 {n : Nat} (h : n < 10) : D3 (dg n) = true := by
 have := a64 h
 simp [D3, this]; omega
def J3 (most : Nat) : Nat → List UInt8 → Option Nat
 | v, [] => some v
 | v, c :: r => if D3 c = true then (if most < 10 * v + (c.toNat - 48) then none else J3 most (10 * v + (c.toNat - 48)) r) else none
def A9 (most : Nat) (s : List UInt8) : Option Nat := if s = [] ∨ (1 < s.length ∧ s.head? = some 48) then none else J3 most 0 s
theorem aI6 (most v : Nat) (a : List UInt8) (c : UInt8) : J3 most v (a ++ [c]) = (J3 most v a).bind fun u => J3 most u [c] := by
 induction a generalizing v with
 | nil => rfl
 | cons x a ih =>
  simp only [List.cons_append, J3]
  split
  ·split
   ·rfl
   ·exact ih _
  ·rfl
theorem aI5 (most n : Nat) (hn : n ≤ most) (h20 : n < 10 ^ 20) : J3 most 0 (a0J n) = some n := by
 induction n using Nat.strongRecOn with
 | _ n ih =>
  by_cases h0 : n = 0
  ·subst h0; rfl
  ·rw [a5Y n (by omega) h20, aI6, ih (n / 10) (by omega) (by omega) (by omega)]
   have h10 : n % 10 < 10 := by omega
   have e := a64 h10
   have hv : 10 * (n / 10) + ((dg (n % 10)).toNat - 48) = n := by omega
   simp only [Option.bind_some, J3, a63 h10, hv]
   simp [show ¬ most < n by omega]
theorem ap6 (n : Nat) (h0 : 0 < n) (h20 : n < 10 ^ 20) : ∃ c r, a0J n = c :: r ∧ c ≠ 48 ∧ D3 c = true := by
 induction n using Nat.strongRecOn with
 | _ n ih =>
  rw [a5Y n h0 h20]
  by_cases h : n / 10 = 0
  ·have h10 : n % 10 < 10 := by omega
   have e := a64 h10
   refine ⟨dg (n % 10), [], by simp [a0J, h], ?_, a63 h10⟩
   intro hc
   have := congrArg UInt8.toNat hc
   simp at this
   omega
  ·obtain ⟨c, r, hr, hc⟩ := ih (n / 10) (by omega) (by omega) (by omega)
   exact ⟨c, r ++ [dg (n % 10)], by rw [hr]; rfl, hc⟩
theorem a61 (n : Nat) (h0 : 0 < n) : dec n = a0J n := by rw [a0J, if_neg (by omega)]
theorem a8i : dec 0 = [48] := by decide
theorem a5Z (n : Nat) (h20 : n < 10 ^ 20) : dec n ≠ [] := by rw [a62 n h20]; simp
theorem a3O (n : Nat) (h20 : n < 10 ^ 20) : ∀ c ∈ dec n, D3 c = true := by
 have key : ∀ n, n < 10 ^ 20 → ∀ c ∈ a0J n, D3 c = true := by
  intro n
  induction n using Nat.strongRecOn with
  | _ n ih =>
   intro h c hc
   by_cases h0 : n = 0
   ·subst h0; simp [a0J] at hc
   ·rw [a5Y n (by omega) h] at hc
    rcases List.mem_append.1 hc with hc | hc
    ·exact ih (n / 10) (by omega) (by omega) c hc
    ·simp only [List.mem_singleton] at hc
     subst hc
     exact a63 (by omega)
 by_cases h0 : n = 0
 ·subst h0; rw [a8i]; decide
 ·rw [a61 n (by omega)]; exact key n h20
theorem a9A (most n : Nat) (hn : n ≤ most) (h20 : n < 10 ^ 20) : A9 most (dec n) = some n := by
 by_cases h0 : n = 0
 ·subst h0; rw [a8i]; simp [A9, J3, D3]
 ·have hd := a61 n (by omega)
  obtain ⟨c, r, hr, hc, -⟩ := ap6 n (by omega) h20
  rw [hd, A9, if_neg, aI5 most n hn h20]
  rw [hr]
  simp [hc]
def I0 (n : Nat) : UInt8 := if n < 10 then UInt8.ofNat (48 + n) else UInt8.ofNat (87 + n)
theorem aa7 {P : Program} {w : World} {base : Nat} {v : Value} {ys : List UInt8} (h : o9 w base v ys) (src dst : TypeId) (hs : P.underlying src = some (.slice 5)) (he : P.underlying 5 = some (.int .u8)) (hd : P.underlying dst = some .string) :
  (convert src dst v).run P w = .ok (.string ⟨ys.toArray⟩) w := by
 obtain ⟨ao, cap, rfl, hc, _⟩ := h.shape
 cases ao with
 | none =>
  have e := hc.1 rfl
  subst e
  show (convert src dst (.slice none 0 cap)).run P w = _
  rw [run_convert_bytes_string w src dst 5 none 0 cap hs he hd]
  simp [Conv.bytesToString]
  rfl
 | some ad => exact run_convert_bytes_back w src dst 5 ad cap ys hs he hd (fun j hj => hc.2 ad rfl j hj)
def J1 (c : Nat) : Bool := decide ((48 ≤ c ∧ c ≤ 57) ∨ (97 ≤ c ∧ c ≤ 102))
def y9 (c : Nat) : Nat := if 48 ≤ c ∧ c ≤ 57 then c - 48 else if 97 ≤ c ∧ c ≤ 102 then c - 87 else 0
theorem a65 (c : Nat) : y9 c < 16 := by unfold y9; split <;> (try split) <;> omega
theorem a8k {c : Nat} (h : 48 ≤ c ∧ c ≤ 57) : J1 c = true ∧ y9 c = c - 48 := ⟨decide_eq_true (.inl h), by simp [y9, h]⟩
theorem a8l {c : Nat} (h : 97 ≤ c ∧ c ≤ 102) : J1 c = true ∧ y9 c = c - 87 := ⟨decide_eq_true (.inr h), by unfold y9; rw [if_neg (by omega), if_pos h]⟩
theorem a8m {c : Nat} (h1 : ¬ (48 ≤ c ∧ c ≤ 57)) (h2 : ¬ (97 ≤ c ∧ c ≤ 102)) : J1 c = false ∧ y9 c = 0 := ⟨decide_eq_false (by omega), by unfold y9; rw [if_neg h1, if_neg h2]⟩
theorem a9W {a b : Int} {x y : Bool} (h : a = b) (h' : x = y) : Ending.returned (.tuple #[.int .u8 a, .bool x]) = .returned (.tuple #[.int .u8 b, .bool y]) := by rw [h, h']
theorem a8n (c : Nat) (w : World) (hc : c < 256) :
  Calls Tryz.prog 252 #[.int .u8 c] w fun e w' => e = .returned (.tuple #[.int .u8 (y9 c), .bool (J1 c)]) ∧ w = w' := by
 by_cases h1 : 48 ≤ c ∧ c ≤ 57
 ·obtain ⟨e1, e2⟩ := a8k h1
  rw [e1, e2]
  clear e1 e2
  obtain ⟨h1a, h1b⟩ := h1
  go_enter Tryz.func252, Tryz.ntmps252
  go_wp2
  go_ret2
  exact ⟨a9W (by omega) rfl, rfl⟩
 ·by_cases h2 : 97 ≤ c ∧ c ≤ 102
  ·obtain ⟨e1, e2⟩ := a8l h2
   rw [e1, e2]
   clear e1 e2
   obtain ⟨h2a, h2b⟩ := h2
   have h57 : 57 < c := by omega
   clear h1
   go_enter Tryz.func252, Tryz.ntmps252
   go_wp2
   go_ret2
   exact ⟨a9W (by omega) rfl, rfl⟩
  ·obtain ⟨e1, e2⟩ := a8m h1 h2
   rw [e1, e2]
   clear e1 e2
   go_enter Tryz.func252, Tryz.ntmps252
   go_wp2
   all_goals
    first
     | (exfalso; omega)
     | (go_ret2; exact ⟨rfl, rfl⟩)
def gd (s : ByteArray) (i : Nat) : Nat := (s.data.toList.getD i 0).toNat
theorem a8F (s : ByteArray) (i : Nat) (h : i < s.size) : s[i].toNat = gd s i := by
 have h' : i < s.data.toList.length := by simpa using h
 unfold gd
 rw [List.getD_eq_getElem?_getD, List.getElem?_eq_getElem h']
 rfl
theorem a8H (s : ByteArray) (i : Nat) : gd s i < 256 := UInt8.toNat_lt _
def a15 (s : ByteArray) : Nat → Bool
 | 0 => true
 | k + 1 => a15 s k && (J1 (gd s (2 * k)) && J1 (gd s (2 * k + 1)))
def a0I (s : ByteArray) : Nat → List UInt8
 | 0 => []
 | k + 1 => a0I s k ++ [UInt8.ofNat (16 * y9 (gd s (2 * k)) + y9 (gd s (2 * k + 1)))]
theorem ap5 (s : ByteArray) (k : Nat) : (a0I s k).length = k := by
 induction k with
 | zero => rfl
 | succ k ih => simp [a0I, ih]
theorem aJ6 (s : ByteArray) (k n : Nat) (hk : k < n) (h : (J1 (gd s (2 * k)) && J1 (gd s (2 * k + 1))) = false) : a15 s n = false := by
 induction n with
 | zero => omega
 | succ n ih =>
  by_cases e : k = n
  ·subst e
   simp only [a15, h, Bool.and_false]
  ·simp only [a15, ih (by omega), Bool.false_and]
def a0y (s : ByteArray) : Bool := decide (s.size % 2 = 0) && a15 s (s.size / 2)
def unV (s : ByteArray) : List UInt8 := if a0y s = true then a0I s (s.size / 2) else []
theorem b0s {s : ByteArray} (h : s.size % 2 ≠ 0) : a0y s = false ∧ unV s = [] := by
 have e : a0y s = false := by simp [a0y, h]
 exact ⟨e, by simp [unV, e]⟩
theorem ae9 {s : ByteArray} {k : Nat} (hk : 2 * k < s.size) (he : s.size % 2 = 0) (h : (J1 (gd s (2 * k)) && J1 (gd s (2 * k + 1))) = false) : a0y s = false ∧ unV s = [] := by
 have e : a0y s = false := by simp only [a0y, aJ6 s k (s.size / 2) (by omega) h, Bool.and_false]
 exact ⟨e, by simp [unV, e]⟩
theorem b0r {s : ByteArray} {k : Nat} (hk : 2 * k = s.size) (h : a15 s k = true) : a0y s = true ∧ unV s = a0I s k := by
 have e2 : s.size / 2 = k := by omega
 have e : a0y s = true := by simp only [a0y, e2, h, Bool.and_true, decide_eq_true_eq]; omega
 exact ⟨e, by simp [unV, e, e2]⟩
theorem an5 (a b : Nat) (ha : a < 16) (hb : b < 16) : bits .or .u8 ((a : Int) * 16) (b : Int) = ((16 * a + b : Nat) : Int) := by
 rw [show ((a : Int) * 16) = ((a * 16 : Nat) : Int) by omega, u8_or_nat _ _ (by omega) (by omega), nat_join 4 _ _ (by omega) (by omega)]
 omega
theorem b0t (s : ByteArray) (w : World) (hs : s.size ≤ 9223372036854775807) (hm : s.size ≤ 281474976710656) :
  Calls Tryz.prog 247 #[.string s] w fun e w' => ag7 w w' e (unV s) (a0y s) := by
 obtain ⟨i0, hi, hz0, hz1, hz2⟩ := info_parts a1i
 by_cases hev : s.size % 2 = 0
 case neg =>
  obtain ⟨e1, e2⟩ := b0s hev
  rw [e1, e2]
  clear e1 e2
  have h1 : (((s.size : Int) % 2) != 0) = true := by rw [bne_iff_ne]; omega
  go_enter Tryz.func247, Tryz.ntmps247
  go_wp2
  go_ret2
  exact ⟨_, rfl, World.ownsRow_nil _ _ _ _, World.grownBy.refl _ _⟩
 case pos =>
  have h1 : (((s.size : Int) % 2) != 0) = false := by simp; omega
  have HE : Hid (s.size % 2 = 0) := hev
  clear hev
  go_enter Tryz.func247, Tryz.ntmps247
  go_wp2_with (at_make; refine wpList_make_own _ rfl (.const (.int .i64 0)) (.tmp 16) 115 rfl w.heap.size 5 i0 (.int .u8 0) 1 Tryz.underlying115 hi hz0 hz1 .i64 .i64 _ (s.size / 2) rfl rfl ?r1 ?r2 ?r3 ?r4 ?r5)
  case r1 => omega
  case r2 => rw [hz2]; omega
  case r3 => unfold maxLen; omega
  case r4 => exact Nat.le_refl _
  case r5 =>
   intro w1 k1 k2
   have O1 : o9 w1 w.heap.size (.slice (some ⟨w.heap.size, 0, none⟩) 0 (s.size / 2)) (a0I s 0) := k1
   clear k1
   go_wp2
   go_loopw [4, 5] (fun v i wr => ∃ m k : Nat, m = 2 * k ∧ m ≤ s.size ∧ i = .int .i64 m ∧ a15 s k = true ∧ o9 wr w.heap.size v (a0I s k) ∧ w.grownBy wr none) (fun _ i _ => s.size - (intOf i).toNat)
   case atStart => exact ⟨0, 0, rfl, Nat.zero_le _, rfl, rfl, O1, k2⟩
   case round =>
    clear O1 k2
    obtain ⟨m, k, hmk, hk, rfl, hok, O, G⟩ := hrel
    have HM : Hid (m = 2 * k) := hmk
    have HO : Hid (a15 s k = true) := hok
    have hk1 : k < 281474976710656 := by omega
    by_cases hlt : m < s.size
    ·have hlt1 : m + 1 < s.size := by have := HE.out; omega
     clear hmk hok
     go_wp2_with fail
     rw [a8F s m hlt]
     refine (a8n (gd s m) _ (a8H s m)).mono ?_
     rintro e w2 ⟨rfl, rfl⟩
     go_wp2_with fail
     rw [a8F s (m + 1) hlt1]
     refine (a8n (gd s (m + 1)) _ (a8H s (m + 1))).mono ?_
     rintro e w2 ⟨rfl, rfl⟩
     have hv1 := a65 (gd s m)
     have hv2 := a65 (gd s (m + 1))
     have HJ : Hid (bits .or .u8 ((y9 (gd s m) : Int) * 16) (y9 (gd s (m + 1)) : Int) = ((16 * y9 (gd s m) + y9 (gd s (m + 1)) : Nat) : Int)) := an5 _ _ hv1 hv2
     cases hd1 : J1 (gd s m) with
     | false =>
      obtain ⟨e1, e2⟩ := ae9 (k := k) (by have := HM.out; omega) HE.out (by rw [← HM.out, hd1, Bool.false_and])
      go_wp2
      go_ret2
      rw [e1, e2]
      exact ⟨_, rfl, World.ownsRow_nil _ _ _ _, G⟩
     | true =>
      cases hd2 : J1 (gd s (m + 1)) with
      | false =>
       obtain ⟨e1, e2⟩ := ae9 (k := k) (by have := HM.out; omega) HE.out (by rw [← HM.out, hd2, Bool.and_false])
       go_wp2
       go_ret2
       rw [e1, e2]
       exact ⟨_, rfl, World.ownsRow_nil _ _ _ _, G⟩
      | true =>
       have HD : Hid (a0I s (k + 1) = a0I s k ++ [UInt8.ofNat (16 * y9 (gd s m) + y9 (gd s (m + 1)))]) := by
        have e := HM.out
        show a0I s (k + 1) = _
        rw [e]
        rfl
       have HO' : Hid (a15 s (k + 1) = true) := by
        show a15 s (k + 1) = true
        have e := HM.out
        subst e
        simp only [a15, HO.out, hd1, hd2, Bool.and_self]
       have hj : bits .or .u8 ((y9 (gd s m) : Int) * 16) (y9 (gd s (m + 1)) : Int) = ((UInt8.ofNat (16 * y9 (gd s m) + y9 (gd s (m + 1)))).toNat : Int) := by
        rw [HJ.out]
        simp
        omega
       have hl := ap5 s k
       generalize UInt8.ofNat (16 * y9 (gd s m) + y9 (gd s (m + 1))) = t at *
       clear HJ hd1 hd2
       generalize y9 (gd s m) = a1 at *
       generalize y9 (gd s (m + 1)) = a2 at *
       have HL : Hid ((a0I s k).length = k) := hl
       clear hl
       go_wp2_with (at_builtin; refine b1c rfl (.tmp 45) (.tmp 50) 115 rfl i0 Tryz.underlying115 hi hz0 hz1 hz2 w.heap.size u4 (a0I s k) rfl ?q1 (some ⟨wr.heap.size, 0, none⟩) 1 [t] rfl (by simp) ?q2 ?q3 ?q4 ?q5)
       case q1 => exact O.alloc _
       case q2 => exact an8 wr [t]
       case q3 =>
        have e := HM.out
        rw [HL.out]
        simp
        omega
       case q4 => have := G.size; simp; omega
       case q5 =>
        intro v' w' k1 k2
        have G' : w.grownBy w' none := a00 G (d3 (World.grownBy_alloc wr _ _) k2) (fun x hx => (O.lt x hx).1)
        rw [← HD.out] at k1
        clear k2 G O hj
        go_wp2
        go_roundw
        case rel => exact ⟨m + 2, k + 1, by have := HM.out; omega, by omega, by go_num, HO'.out, k1, G'⟩
        case measure => simp [intOf]; omega
    ·obtain ⟨e1, e2⟩ := b0r (s := s) (k := k) (by omega) hok
     clear hmk hok
     go_wp2
     go_ret2
     rw [e1, e2]
     exact ⟨_, rfl, O, G⟩

end Go.Proofs.YtklipelnjgpnjaaGreatDoor
