import Derived.Test.YtlfmddjppejmaaaGreatDoorProg
import Derived.WalkKit
import Derived.WalkSpells
import Derived.WalkLawsBesides
import Derived.Deep.QuietTactic
import Derived.BigQuiet
import Derived.Laws.AppendOwnNone
import Derived.Deep.RegionLaw
import Derived.Laws.IdiomStrings
import Derived.Handy
namespace Go.Proofs.YtlfmddjppejmaaaGreatDoor
open Go.RowKit
set_option maxRecDepth 100000
def bv (c : UInt8) : Value := .int .u8 (c.toNat : Int)
def z8 (w : World) (ao : Option Addr) (xs : List UInt8) : Prop :=
 (ao = none → xs = []) ∧ ∀ ad, ao = some ad → ∀ i (h : i < xs.length), w.cell? (ad.add i) = some (bv xs[i])
theorem z8.addr {w : World} {ao : Option Addr} {xs : List UInt8} (h : z8 w ao xs) {k : Nat} (hk : k < xs.length) :
  ∃ b off, ao = some ⟨b, off, none⟩ ∧ ∀ i (hi : i < xs.length), w.cell? ⟨b, off + i, none⟩ = some (.int .u8 (xs[i].toNat : Int)) := by
 cases ao with
 | none => have := h.1 rfl; subst this; simp at hk
 | some ad =>
  obtain ⟨b, off, spot⟩ := ad
  have h0 := h.2 _ rfl 0 (by omega)
  have hspot : spot = none := by simpa [Addr.add] using World.cell?_spot h0
  subst hspot
  refine ⟨b, off, rfl, fun i hi => ?_⟩
  have := h.2 _ rfl i hi
  rw [Addr.add_lit] at this
  exact this
theorem z8.same {w w' : World} {ao : Option Addr} {xs : List UInt8} (h : z8 w ao xs) (hs : ∀ b off i, ao = some ⟨b, off, none⟩ → i < xs.length → w'.cell? ⟨b, off + i, none⟩ = w.cell? ⟨b, off + i, none⟩) : z8 w' ao xs := by
 refine ⟨h.1, fun ad had i hi => ?_⟩
 obtain ⟨b, off, hao, hc⟩ := h.addr hi
 rw [hao] at had
 obtain rfl := Option.some.inj had
 rw [Addr.add_lit, hs b off i hao hi]
 exact hc i hi
def a18 (ao : Option Addr) (xs : List UInt8) (B : Nat) : Prop := ∀ ad, ao = some ad → xs ≠ [] → ad.block < B
theorem z8.under {w : World} {ao : Option Addr} {xs : List UInt8} (h : z8 w ao xs) : a18 ao xs w.heap.size := by
 intro ad had hne
 have hl : 0 < xs.length := List.length_pos_iff.2 hne
 have := World.block_lt_of_cell? w _ (h.2 ad had 0 hl)
 simpa [Addr.add] using this
theorem z8.kept {w w' : World} {row : Option Nat} {ao : Option Addr} {xs : List UInt8} (h : z8 w ao xs) (hg : w.grownBy w' row) (hne : ∀ ad, ao = some ad → xs ≠ [] → some ad.block ≠ row) : z8 w' ao xs := by
 refine h.same fun b off i hao hi => World.cell?_of_block (hg.block b ?_ ?_)
 ·have := h.under _ hao (by intro e; subst e; simp at hi)
  exact this
 ·exact hne _ hao (by intro e; subst e; simp at hi)
theorem z8.keptNone {w w' : World} {ao : Option Addr} {xs : List UInt8} (h : z8 w ao xs) (hg : w.grownBy w' none) : z8 w' ao xs := h.kept hg (fun _ _ _ => by simp)
theorem z8.below {w w' : World} {B : Nat} {ao : Option Addr} {xs : List UInt8} (h : z8 w ao xs) (hu : a18 ao xs B) (hb : Below B w w') : z8 w' ao xs := by
 refine h.same fun b off i hao hi => hb.cell (p := ⟨b, off + i, none⟩) ?_
 show b < B
 exact hu ⟨b, off, none⟩ hao (by intro e; subst e; simp at hi)
theorem a18.mono {ao : Option Addr} {xs : List UInt8} {B C : Nat} (h : a18 ao xs B) (hB : B ≤ C) : a18 ao xs C := fun ad had hne => Nat.lt_of_lt_of_le (h ad had hne) hB
theorem f8 (w : World) (n : Nat) (row : Option Nat) : w.grownBy (w.drewN n) row := ⟨rfl, rfl, rfl, Nat.le_refl _, fun _ _ _ => rfl⟩
theorem d5 {a b c : World} {row : Option Nat} (h : a.grownBy b row) (k : b.grownBy c row) : a.grownBy c row :=
 ⟨k.os.trans h.os, k.tape.trans h.tape, k.output.trans h.output, Nat.le_trans h.size k.size, fun i hi hne => (k.block i (Nat.lt_of_lt_of_le hi h.size) hne).trans (h.block i hi hne)⟩
theorem z6 {a b c : World} {row : Option Nat} {g : Option Nat} (h : a.grownBy b row) (k : b.grownBy c g) (hg : ∀ x, g = some x → a.heap.size ≤ x) : a.grownBy c row :=
 ⟨k.os.trans h.os, k.tape.trans h.tape, k.output.trans h.output, Nat.le_trans h.size k.size, fun i hi hne => (k.block i (Nat.lt_of_lt_of_le hi h.size) (fun e => by have := hg i e.symm; omega)).trans (h.block i hi hne)⟩
theorem a2t {a b : World} {row : Option Nat} (h : a.grownBy b none) : a.grownBy b row := ⟨h.os, h.tape, h.output, h.size, fun i hi _ => h.block i hi (by simp)⟩
abbrev L8 (w : World) (base : Nat) (v : Value) (xs : List UInt8) : Prop := w.ownsRow base 5 1 v xs.length (xs.map bv)
theorem Y6 (xs : List UInt8) : ∀ u ∈ xs.map bv, u.oneCell' = true := by
 intro u hu
 obtain ⟨x, _, rfl⟩ := List.mem_map.1 hu
 rfl
theorem a6B (w : World) (xs : List UInt8) : z8 (w.alloc (.cells (xs.map bv).toArray 5)) (some ⟨w.heap.size, 0, none⟩) xs := by
 refine ⟨fun h => (by cases h), fun ad had i hi => ?_⟩
 obtain rfl := Option.some.inj had
 have hh : (w.alloc (.cells (xs.map bv).toArray 5)).heap[w.heap.size]? = some (.cells (xs.map bv).toArray 5 (0, 0)) := heap_alloc_new w _
 rw [Addr.add_lit, Nat.zero_add, cell_of_row _ w.heap.size i _ _ _ hh]
 simp [hi]
theorem ai4 {P : Program} {w : World} {ops : Array Oper} {rest : List Oper} {o : Oper} {a : Act} {Q : Exit → Act → World → Prop} (hgd : o.guard = none) (s x : Operand) (t : TypeId)
  (ho : o.op = .call { callee := .builtin .append, args := #[s, x], argTypes := #[t, t] })
  (i : TypeInfo) (ht : P.underlying t = some (.slice 5)) (hi : P.info? 5 = some i) (hz : i.zero = some (.int .u8 0)) (hsize : i.size = 1) (hby : i.bytes = 1)
  (base : Nat) (v : Value) (xs : List UInt8) (hs : a.eval s = v) (hown : L8 w base v xs)
  (ao : Option Addr) (c : Nat) (ys : List UInt8) (hx : a.eval x = .slice ao ys.length c) (hc0 : ao = none → c = 0) (hys : z8 w ao ys)
  (hbytes : xs.length + ys.length ≤ 140737488355328) (hbase : base ≤ w.heap.size)
  (h : ∀ v' w', L8 w' base v' (xs ++ ys) → w.grownBy w' v.ownBlock → wpList P ops Q rest (a.put o.dst v') w') : wpList P ops Q (o :: rest) a w := by
 cases ao with
 | none =>
  have e := hys.1 rfl
  subst e
  have e := hc0 rfl
  subst e
  refine wpList_append_own_none hgd s x t ho base 5 i 1 ht hi v xs.length (xs.map bv) hs hown (by simpa using hx) (h v w (by simpa using hown) (World.grownBy.refl _ _))
 | some ad =>
  refine wpList_append_own w hgd s x t ho base 5 i (.int .u8 0) 1 1 ht hi hz hsize hby rfl (by decide) v xs.length (xs.map bv) hs hown ad ys.length c (ys.map bv) hx (by simp) ?_ (Y6 ys) (by unfold maxLen; omega) (by omega) hbase ?_
  ·intro j u hj
   obtain ⟨hlt, e⟩ := List.getElem?_eq_some_iff.1 hj
   simp only [List.length_map] at hlt
   rw [hys.2 ad rfl j hlt, ← e]
   simp
  ·intro v' w' h1 h2 _
   refine h v' w' ?_ h2
   unfold L8
   rw [List.length_append, List.map_append]
   exact h1
theorem a2w : (Tryz.prog.info? 5).map (fun i => (i.zero, i.size, i.bytes)) = some (some (.int .u8 0), 1, 1) := by kernel_rfl
def Blk (w : World) (g cap : Nat) : Prop := ∃ cur : Array Value, w.heap[g]? = some (.cells cur 5 (0, 0)) ∧ cur.size = cap
theorem Blk.cell {w : World} {g cap : Nat} (h : Blk w g cap) {i : Nat} (hi : i < cap) : ∃ u, w.cell? ⟨g, i, none⟩ = some u := by
 obtain ⟨cur, hh, hs⟩ := h
 refine ⟨cur[i], ?_⟩
 rw [cell_of_row w g i cur _ _ hh]
 simp
theorem Blk.free {w : World} {g cap : Nat} (h : Blk w g cap) (i : Nat) : w.frozen? ⟨g, i, none⟩ = false := by
 obtain ⟨cur, hh, hs⟩ := h
 simp [World.frozen?, hh]
theorem Blk.lt {w : World} {g cap : Nat} (h : Blk w g cap) : g < w.heap.size := by
 obtain ⟨cur, hh, hs⟩ := h
 exact (Array.getElem?_eq_some_iff.1 hh).1
theorem Blk.setCell {w : World} {g cap : Nat} (h : Blk w g cap) (a : Addr) (u : Value) : Blk (w.setCell a u) g cap := by
 obtain ⟨cur, hh, hs⟩ := h
 by_cases e : g = a.block
 ·subst e
  by_cases hsp : a.spot.isSome = true
  ·refine ⟨cur, ?_, hs⟩
   simp only [World.setCell, Array.getElem?_modify, hh]
   simp [hsp]
  ·refine ⟨cur.setIfInBounds a.off u, ?_, by simpa using hs⟩
   simp only [World.setCell, Array.getElem?_modify, hh]
   simp [hsp]
 ·exact ⟨cur, by rw [Below.heap_setCell _ _ _ _ e]; exact hh, hs⟩
theorem Blk.kept {w w' : World} {g cap : Nat} {row : Option Nat} (h : Blk w g cap) (hg : w.grownBy w' row) (hne : some g ≠ row) : Blk w' g cap := by
 have hl := h.lt
 obtain ⟨cur, hh, hs⟩ := h
 exact ⟨cur, by rw [hg.block g hl hne]; exact hh, hs⟩
theorem Blk.ofRow {w : World} {base g n cap : Nat} {xs : List Value} (h : w.ownsRow base 5 1 (.slice (some ⟨g, 0, none⟩) n cap) n xs) : Blk w g cap ∧ n ≤ cap ∧ cap ≤ maxLen := by
 rcases h.2 with ⟨h, _⟩ | ⟨g', cap', cur, hv, hb, hg, hc, hm, hs, ht⟩
 ·cases h
 ·simp only [Value.slice.injEq, Option.some.injEq, Addr.mk.injEq] at hv
  obtain ⟨⟨rfl, _⟩, _, rfl⟩ := hv
  exact ⟨⟨cur, hg, by simpa using hs⟩, hc, hm⟩
theorem a1I (w : World) (p : Addr) (u : Value) : w.grownBy (w.setCell p u) (some p.block) :=
 ⟨rfl, rfl, rfl, by simp, fun i _ hne => Below.heap_setCell _ _ _ _ (fun e => hne (by rw [e]))⟩
theorem L5 {a w : World} {row : Option Nat} (h : a.grownBy w row) (p : Addr) (u : Value) (hp : row = some p.block ∨ a.heap.size ≤ p.block) : a.grownBy (w.setCell p u) row := by
 rcases hp with e | e
 ·subst e
  exact d5 h (a1I w p u)
 ·exact z6 h (a1I w p u) (by intro x hx; obtain rfl := Option.some.inj hx; exact e)
theorem Blk.row {w : World} {g cap : Nat} (h : Blk w g cap) (n : Nat) (hn : n ≤ cap) (hm : cap ≤ maxLen) : ∃ xs : List Value, w.ownsRow 0 5 1 (.slice (some ⟨g, 0, none⟩) n cap) n xs := by
 obtain ⟨cur, hh, hs⟩ := h
 exact ⟨cur.toList.take (n * 1), by simp; omega, .inr ⟨g, cap, cur, rfl, Nat.zero_le _, hh, hn, hm, by simpa using hs, rfl⟩⟩
def okB (n : Nat) (p s : Int) : Bool := decide ((s = 1 ∨ s = 2 ∨ s = 4) ∧ 0 ≤ p ∧ p ≤ (n : Int) - s)
theorem a2Z {a b : Bool} (h : a = b) : Ending.returned (.bool a) = .returned (.bool b) := by rw [h]
theorem a31 {k : IntKind} {a b : Int} (h : a = b) : Ending.returned (.int k a) = .returned (.int k b) := by rw [h]
theorem a8j {n : Nat} {p s : Int} {c : Prop} [Decidable c] (h : c ↔ ((s = 1 ∨ s = 2 ∨ s = 4) ∧ 0 ≤ p ∧ p ≤ (n : Int) - s)) : decide c = okB n p s := decide_eq_decide.2 h
theorem a4N {n : Nat} {p s : Int} (h : ¬ ((s = 1 ∨ s = 2 ∨ s = 4) ∧ 0 ≤ p ∧ p ≤ (n : Int) - s)) : false = okB n p s := (decide_eq_false h).symm
theorem a8k {n : Nat} {p s : Int} (h : okB n p s = true) : (s = 1 ∨ s = 2 ∨ s = 4) ∧ 0 ≤ p ∧ p ≤ (n : Int) - s := of_decide_eq_true h
def X7 (xs : List UInt8) (p : Nat) : Nat → Nat
 | 0 => 0
 | k + 1 => X7 xs p k * 256 + (xs.getD (p + k) 0).toNat
theorem a8c (xs : List UInt8) (p k : Nat) : X7 xs p k < 256 ^ k := by
 induction k with
 | zero => simp [X7]
 | succ k ih =>
  have := (xs.getD (p + k) 0).toNat_lt
  simp only [X7, Nat.pow_succ]
  omega
theorem a8d (xs : List UInt8) (p k : Nat) (hk : k ≤ 3) : X7 xs p k < 16777216 := by
 have h := a8c xs p k
 have h2 : 256 ^ k ≤ 256 ^ 3 := Nat.pow_le_pow_right (by decide) hk
 omega
theorem a8m (v c : Nat) (hv : v < 16777216) (hc : c < 256) : bits .or .u32 ((v : Int) * 256 % 4294967296) ((c : Int) % 4294967296) = ((v * 256 + c : Nat) : Int) := by
 rw [show ((v : Int) * 256 % 4294967296) = ((v * 256 : Nat) : Int) by omega, show ((c : Int) % 4294967296) = (c : Int) by omega, u32_or_nat _ _ (by omega) (by omega), nat_join 8 _ _ (by omega) (by omega)]
theorem a8e (xs : List UInt8) (p k : Nat) (hk : k ≤ 3) (hp : p + k < xs.length) :
  Value.int IntKind.u32 (bits BinOp.or IntKind.u32 ((X7 xs p k : Int) * 256 % 4294967296) ((xs[p + k].toNat : Int) % 4294967296)) = Value.int IntKind.u32 (X7 xs p (k + 1)) := by
 rw [a8m _ _ (a8d xs p k hk) xs[p + k].toNat_lt]
 simp [X7, hp]
def a0A (xs : List UInt8) (p s : Int) : Int := if okB xs.length p s = true then (X7 xs p.toNat s.toNat : Int) else 0
def CV (w : World) (ao : Option Addr) (vs : List Value) : Prop :=
 (ao = none → vs = []) ∧ ∀ ad, ao = some ad → ∀ i (h : i < vs.length), w.cell? (ad.add i) = some vs[i]
theorem CV.addr {w : World} {ao : Option Addr} {vs : List Value} (h : CV w ao vs) {k : Nat} (hk : k < vs.length) :
  ∃ b off, ao = some ⟨b, off, none⟩ ∧ ∀ i (hi : i < vs.length), w.cell? ⟨b, off + i, none⟩ = some vs[i] := by
 cases ao with
 | none => have := h.1 rfl; subst this; simp at hk
 | some ad =>
  obtain ⟨b, off, spot⟩ := ad
  have h0 := h.2 _ rfl 0 (by omega)
  have hspot : spot = none := by simpa [Addr.add] using World.cell?_spot h0
  subst hspot
  refine ⟨b, off, rfl, fun i hi => ?_⟩
  have := h.2 _ rfl i hi
  rw [Addr.add_lit] at this
  exact this
theorem CV.under {w : World} {ao : Option Addr} {vs : List Value} (h : CV w ao vs) {ad : Addr} (had : ao = some ad) (hne : vs ≠ []) : ad.block < w.heap.size := by
 have hl : 0 < vs.length := List.length_pos_iff.2 hne
 have := World.block_lt_of_cell? w _ (h.2 ad had 0 hl)
 simpa [Addr.add] using this
theorem CV.same {w w' : World} {ao : Option Addr} {vs : List Value} (h : CV w ao vs) (hs : ∀ ad, ao = some ad → vs ≠ [] → ad.block < w.heap.size → w'.heap[ad.block]? = w.heap[ad.block]?) : CV w' ao vs := by
 refine ⟨h.1, fun ad had i hi => ?_⟩
 have hne : vs ≠ [] := by intro e; subst e; simp at hi
 rw [World.cell?_of_block (w := w) (w' := w') (a := ad.add i) ?_]
 ·exact h.2 ad had i hi
 ·have e : (ad.add i).block = ad.block := by unfold Addr.add; split <;> rfl
  rw [e]
  exact hs ad had hne (h.under had hne)
theorem CV.kept {w w' : World} {row : Option Nat} {ao : Option Addr} {vs : List Value} (h : CV w ao vs) (hg : w.grownBy w' row) (hne : ∀ ad, ao = some ad → vs ≠ [] → some ad.block ≠ row) : CV w' ao vs :=
 h.same fun ad had hv hl => hg.block ad.block hl (hne ad had hv)
theorem CV.keptNone {w w' : World} {ao : Option Addr} {vs : List Value} (h : CV w ao vs) (hg : w.grownBy w' none) : CV w' ao vs := h.kept hg (fun _ _ _ => by simp)
theorem CV.below {w w' : World} {ao : Option Addr} {vs : List Value} (h : CV w ao vs) (hb : Below w.heap.size w w') : CV w' ao vs :=
 h.same fun ad _ _ hl => hb.block ad.block hl
theorem z8.cv {w : World} {ao : Option Addr} {xs : List UInt8} (h : z8 w ao xs) : CV w ao (xs.map bv) := by
 refine ⟨fun e => by rw [h.1 e]; rfl, fun ad had i hi => ?_⟩
 simp only [List.length_map] at hi
 rw [h.2 ad had i hi]
 simp
theorem CV.cells {w : World} {ao : Option Addr} {xs : List UInt8} (h : CV w ao (xs.map bv)) : z8 w ao xs := by
 refine ⟨fun e => by simpa using h.1 e, fun ad had i hi => ?_⟩
 rw [h.2 ad had i (by simpa using hi)]
 simp
theorem CV.ofRow {w : World} {base e n : Nat} {v : Value} {vs : List Value} (h : w.ownsRow base e 1 v n vs) :
  ∃ ao cap, v = .slice ao n cap ∧ CV w ao vs ∧ n ≤ cap ∧ cap ≤ maxLen ∧ (ao = none → cap = 0) ∧ (∀ ad, ao = some ad → base ≤ ad.block ∧ ad.block < w.heap.size) ∧ v.ownBlock = ao.map (·.block) := by
 have hl := h.lt
 have h0 := h.1
 rcases h.2 with ⟨rfl, hn⟩ | ⟨g, cap, cur, rfl, hb, hg, hc, hm, hs, ht⟩
 ·subst hn
  refine ⟨none, 0, rfl, ⟨fun _ => List.eq_nil_of_length_eq_zero (by simpa using h0), fun ad had => (by cases had)⟩, by omega, Nat.zero_le _, fun _ => rfl, fun ad had => (by cases had), rfl⟩
 ·refine ⟨some ⟨g, 0, none⟩, cap, rfl, ⟨fun h => (by cases h), fun ad had i hi => ?_⟩, hc, hm, fun h => (by cases h), fun ad had => ?_, rfl⟩
  ·obtain rfl := Option.some.inj had
   exact h.cells (g := g) rfl i _ (by simp [hi])
  ·obtain rfl := Option.some.inj had
   exact hl g rfl
theorem m8 (w : World) (e : TypeId) (vs : List Value) : CV (w.alloc (.cells vs.toArray e)) (some ⟨w.heap.size, 0, none⟩) vs := by
 refine ⟨fun h => (by cases h), fun ad had i hi => ?_⟩
 obtain rfl := Option.some.inj had
 have hh : (w.alloc (.cells vs.toArray e)).heap[w.heap.size]? = some (.cells vs.toArray e (0, 0)) := heap_alloc_new w _
 rw [Addr.add_lit, Nat.zero_add, cell_of_row _ w.heap.size i _ _ _ hh]
 simp [hi]
def a35 (v k : Nat) : Nat := v / 256 ^ k
def a0a (xs : List UInt8) (p S : Nat) (v : Nat) : Nat → List UInt8
 | 0 => xs
 | k + 1 => (a0a xs p S v k).set (p + S - 1 - k) (UInt8.ofNat (a35 v k))
theorem a4Z (xs : List UInt8) (p S v k : Nat) : (a0a xs p S v k).length = xs.length := by
 induction k with
 | zero => rfl
 | succ k ih => simp [a0a, ih]
theorem a8o {w : World} {base g cap : Nat} {xs : List UInt8} (h : w.ownsRow base 5 1 (.slice (some ⟨g, 0, none⟩) xs.length cap) xs.length (xs.map bv)) (i : Nat) (c : Nat) :
  (w.setCell ⟨g, i, none⟩ (.int .u8 ((c : Int) % 256))).ownsRow base 5 1 (.slice (some ⟨g, 0, none⟩) xs.length cap) xs.length ((xs.set i (UInt8.ofNat c)).map bv) := by
 have := (h.stored i (.int .u8 ((c : Int) % 256))).1
 rw [List.map_set]
 have e : bv (UInt8.ofNat c) = .int .u8 ((c : Int) % 256) := by simp [bv]
 rw [e]
 exact this
def a0d (w : World) (g cap : Nat) (xs : List UInt8) (p S v k : Nat) (wr : World) : Prop :=
 wr.ownsRow w.heap.size 5 1 (.slice (some ⟨g, 0, none⟩) xs.length cap) xs.length ((a0a xs p S v k).map bv) ∧ w.grownBy wr none
theorem a0d.store {w wr : World} {g cap : Nat} {xs : List UInt8} {p S v k : Nat} (h : a0d w g cap xs p S v k wr) : a0d w g cap xs p S v (k + 1) (wr.setCell ⟨g, p + S - 1 - k, none⟩ (.int .u8 (((a35 v k : Nat) : Int) % 256))) := by
 obtain ⟨ho, hg⟩ := h
 refine ⟨?_, L5 hg _ _ (.inr (ho.lt g rfl).1)⟩
 have hl := a4Z xs p S v k
 have h' : wr.ownsRow w.heap.size 5 1 (.slice (some ⟨g, 0, none⟩) (a0a xs p S v k).length cap) (a0a xs p S v k).length ((a0a xs p S v k).map bv) := by rw [hl]; exact ho
 have := a8o h' (p + S - 1 - k) (a35 v k)
 rw [hl] at this
 exact this
theorem a0d.cell {w wr : World} {g cap : Nat} {xs : List UInt8} {p S v k : Nat} (h : a0d w g cap xs p S v k wr) {i : Nat} (hi : i < xs.length) : ∃ u, wr.cell? ⟨g, i, none⟩ = some u := by
 have := h.1.cellAt i (by omega)
 have hl := a4Z xs p S v k
 refine ⟨bv ((a0a xs p S v k)[i]'(by omega)), ?_⟩
 rw [this]
 simp [hl, hi]
theorem a0d.free {w wr : World} {g cap : Nat} {xs : List UInt8} {p S v k : Nat} (h : a0d w g cap xs p S v k wr) (i : Nat) : wr.frozen? ⟨g, i, none⟩ = false := h.1.frozenAt i
theorem a2O {w : World} {base base' e size n : Nat} {v : Value} {vs : List Value} (h : w.ownsRow base e size v n vs) (hb : base' ≤ base) : w.ownsRow base' e size v n vs := by
 refine ⟨h.1, ?_⟩
 rcases h.2 with h | ⟨g, cap, cur, hv, hg, r⟩
 ·exact .inl h
 ·exact .inr ⟨g, cap, cur, hv, Nat.le_trans hb hg, r⟩
def a5I (w w' : World) (e : Ending) (xs : List UInt8) (ok : Bool) : Prop := ∃ v, e = .returned (.tuple #[v, .bool ok]) ∧ L8 w' w.heap.size v xs ∧ w.grownBy w' none
theorem z8.keptUp {w w' : World} {row : Option Nat} {ao : Option Addr} {xs : List UInt8} (h : z8 w ao xs) (B : Nat) (hu : ∀ ad, ao = some ad → ad.block < B) (hg : w.grownBy w' row) (hr : ∀ k, row = some k → B ≤ k) : z8 w' ao xs :=
 h.kept hg fun ad had _ e => by have := hu ad had; have := hr ad.block e.symm; omega
theorem z8.keptDown {w w' : World} {row : Option Nat} {ao : Option Addr} {xs : List UInt8} (h : z8 w ao xs) (B : Nat) (hu : ∀ ad, ao = some ad → B ≤ ad.block) (hg : w.grownBy w' row) (hr : ∀ k, row = some k → k < B) : z8 w' ao xs :=
 h.kept hg fun ad had _ e => by have := hu ad had; have := hr ad.block e.symm; omega
theorem L8.rd {w : World} {base : Nat} {v : Value} {xs : List UInt8} (h : L8 w base v xs) :
  ∃ ao cap, v = .slice ao xs.length cap ∧ z8 w ao xs ∧ (ao = none → cap = 0) ∧ (∀ ad, ao = some ad → base ≤ ad.block ∧ ad.block < w.heap.size) ∧ v.ownBlock = ao.map (·.block) := by
 obtain ⟨ao, cap, hv, hc, _, _, h0, hb, ho⟩ := CV.ofRow h
 exact ⟨ao, cap, hv, hc.cells, h0, hb, ho⟩
theorem y8 {w w' : World} {base e size n : Nat} {v : Value} {vs : List Value} (h : w.ownsRow base e size v n vs) (hg : w.grownBy w' none) : w'.ownsRow base e size v n vs := h.kept hg (by cases hv : v.ownBlock <;> simp)
theorem CV.keptUp {w w' : World} {row : Option Nat} {ao : Option Addr} {vs : List Value} (h : CV w ao vs) (B : Nat) (hu : ∀ ad, ao = some ad → ad.block < B) (hg : w.grownBy w' row) (hr : ∀ k, row = some k → B ≤ k) : CV w' ao vs :=
 h.kept hg fun ad had _ e => by have := hu ad had; have := hr ad.block e.symm; omega
theorem CV.keptDown {w w' : World} {row : Option Nat} {ao : Option Addr} {vs : List Value} (h : CV w ao vs) (B : Nat) (hu : ∀ ad, ao = some ad → B ≤ ad.block) (hg : w.grownBy w' row) (hr : ∀ k, row = some k → k < B) : CV w' ao vs :=
 h.kept hg fun ad had _ e => by have := hu ad had; have := hr ad.block e.symm; omega
abbrev str (xs : List UInt8) : Value := .string ⟨xs.toArray⟩
def s8 (c : UInt8) : Bool := decide (48 ≤ c.toNat) && decide (c.toNat ≤ 57)
def u6 (most : Nat) : Nat → List UInt8 → Option Nat
 | v, [] => some v
 | v, c :: r => if s8 c = true then (if most < 10 * v + (c.toNat - 48) then none else u6 most (10 * v + (c.toNat - 48)) r) else none
def k9 (most : Nat) (s : List UInt8) : Option Nat := if s = [] ∨ (1 < s.length ∧ s.head? = some 48) then none else u6 most 0 s

end Go.Proofs.YtlfmddjppejmaaaGreatDoor
