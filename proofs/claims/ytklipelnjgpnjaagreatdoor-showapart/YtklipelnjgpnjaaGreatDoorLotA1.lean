import Derived.Test.YtklipelnjgpnjaaGreatDoorProg
import Derived.WalkKit
import Derived.WalkSpells
import Derived.WalkLawsBesides
import Derived.Deep.QuietTactic
import Derived.BigQuiet
import Derived.Laws.AppendOwnNone
import Derived.Deep.RegionLaw
import Derived.Laws.IdiomStrings
import Derived.Handy
namespace Go.Proofs.YtklipelnjgpnjaaGreatDoor
open Go.RowKit
set_option maxRecDepth 100000
def bv (c : UInt8) : Value := .int .u8 (c.toNat : Int)
def Cells (w : World) (ao : Option Addr) (xs : List UInt8) : Prop :=
 (ao = none → xs = []) ∧ ∀ ad, ao = some ad → ∀ i (h : i < xs.length), w.cell? (ad.add i) = some (bv xs[i])
theorem Cells.addr {w : World} {ao : Option Addr} {xs : List UInt8} (h : Cells w ao xs) {k : Nat} (hk : k < xs.length) :
  ∃ b off, ao = some ⟨b, off, none⟩ ∧ ∀ i (hi : i < xs.length), w.cell? ⟨b, off + i, none⟩ = some (.int .u8 (xs[i].toNat : Int)) := by
 cases ao with
 | none => have := h.1 rfl; subst this; simp at hk
 | some ad =>
  obtain ⟨b, off, spot⟩ := ad
  have h0 := h.2 _ rfl 0 (by omega)
  have hspot : spot = none := by simpa [Addr.add] using World.cell?_spot h0
  subst hspot
  refine ⟨b, off, rfl, fun i hi => ?_⟩
  have := h.2 _ rfl i hi
  rw [Addr.add_lit] at this
  exact this
theorem Cells.same {w w' : World} {ao : Option Addr} {xs : List UInt8} (h : Cells w ao xs) (hs : ∀ b off i, ao = some ⟨b, off, none⟩ → i < xs.length → w'.cell? ⟨b, off + i, none⟩ = w.cell? ⟨b, off + i, none⟩) : Cells w' ao xs := by
 refine ⟨h.1, fun ad had i hi => ?_⟩
 obtain ⟨b, off, hao, hc⟩ := h.addr hi
 rw [hao] at had
 obtain rfl := Option.some.inj had
 rw [Addr.add_lit, hs b off i hao hi]
 exact hc i hi
def Under (ao : Option Addr) (xs : List UInt8) (B : Nat) : Prop := ∀ ad, ao = some ad → xs ≠ [] → ad.block < B
theorem Cells.under {w : World} {ao : Option Addr} {xs : List UInt8} (h : Cells w ao xs) : Under ao xs w.heap.size := by
 intro ad had hne
 have hl : 0 < xs.length := List.length_pos_iff.2 hne
 have := World.block_lt_of_cell? w _ (h.2 ad had 0 hl)
 simpa [Addr.add] using this
theorem Cells.kept {w w' : World} {row : Option Nat} {ao : Option Addr} {xs : List UInt8} (h : Cells w ao xs) (hg : w.grownBy w' row) (hne : ∀ ad, ao = some ad → xs ≠ [] → some ad.block ≠ row) : Cells w' ao xs := by
 refine h.same fun b off i hao hi => World.cell?_of_block (hg.block b ?_ ?_)
 ·have := h.under _ hao (by intro e; subst e; simp at hi)
  exact this
 ·exact hne _ hao (by intro e; subst e; simp at hi)
theorem Cells.keptNone {w w' : World} {ao : Option Addr} {xs : List UInt8} (h : Cells w ao xs) (hg : w.grownBy w' none) : Cells w' ao xs := h.kept hg (fun _ _ _ => by simp)
theorem Cells.below {w w' : World} {B : Nat} {ao : Option Addr} {xs : List UInt8} (h : Cells w ao xs) (hu : Under ao xs B) (hb : Below B w w') : Cells w' ao xs := by
 refine h.same fun b off i hao hi => hb.cell (p := ⟨b, off + i, none⟩) ?_
 show b < B
 exact hu ⟨b, off, none⟩ hao (by intro e; subst e; simp at hi)
theorem Under.mono {ao : Option Addr} {xs : List UInt8} {B C : Nat} (h : Under ao xs B) (hB : B ≤ C) : Under ao xs C := fun ad had hne => Nat.lt_of_lt_of_le (h ad had hne) hB
theorem grown_drewN (w : World) (n : Nat) (row : Option Nat) : w.grownBy (w.drewN n) row := ⟨rfl, rfl, rfl, Nat.le_refl _, fun _ _ _ => rfl⟩
theorem grown_trans {a b c : World} {row : Option Nat} (h : a.grownBy b row) (k : b.grownBy c row) : a.grownBy c row :=
 ⟨k.os.trans h.os, k.tape.trans h.tape, k.output.trans h.output, Nat.le_trans h.size k.size, fun i hi hne => (k.block i (Nat.lt_of_lt_of_le hi h.size) hne).trans (h.block i hi hne)⟩
theorem grown_trans_new {a b c : World} {row : Option Nat} {g : Option Nat} (h : a.grownBy b row) (k : b.grownBy c g) (hg : ∀ x, g = some x → a.heap.size ≤ x) : a.grownBy c row :=
 ⟨k.os.trans h.os, k.tape.trans h.tape, k.output.trans h.output, Nat.le_trans h.size k.size, fun i hi hne => (k.block i (Nat.lt_of_lt_of_le hi h.size) (fun e => by have := hg i e.symm; omega)).trans (h.block i hi hne)⟩
abbrev Owns (w : World) (base : Nat) (v : Value) (xs : List UInt8) : Prop := w.ownsRow base 5 1 v xs.length (xs.map bv)
theorem bv_one (xs : List UInt8) : ∀ u ∈ xs.map bv, u.oneCell' = true := by
 intro u hu
 obtain ⟨x, _, rfl⟩ := List.mem_map.1 hu
 rfl
theorem Owns.shape {w : World} {base : Nat} {v : Value} {xs : List UInt8} (h : Owns w base v xs) :
  ∃ ao cap, v = .slice ao xs.length cap ∧ Cells w ao xs ∧ xs.length ≤ cap ∧ cap ≤ maxLen ∧ (∀ ad, ao = some ad → base ≤ ad.block ∧ ad.block < w.heap.size) ∧ v.ownBlock = ao.map (·.block) := by
 have hl := h.lt
 rcases h.2 with ⟨rfl, hn⟩ | ⟨g, cap, cur, rfl, hb, hg, hc, hm, hs, ht⟩
 ·refine ⟨none, 0, by rw [hn], ⟨fun _ => List.eq_nil_of_length_eq_zero hn, fun ad had => (by cases had)⟩, by omega, Nat.zero_le _, fun ad had => (by cases had), rfl⟩
 ·refine ⟨some ⟨g, 0, none⟩, cap, rfl, ⟨fun h => (by cases h), fun ad had i hi => ?_⟩, hc, hm, fun ad had => ?_, rfl⟩
  ·obtain rfl := Option.some.inj had
   exact h.cells (g := g) rfl i _ (by simp [hi])
  ·obtain rfl := Option.some.inj had
   exact hl g rfl
theorem info5 : (Tryz.prog.info? 5).map (fun i => (i.zero, i.size, i.bytes)) = some (some (.int .u8 0), 1, 1) := by kernel_rfl
def Blk (w : World) (g cap : Nat) : Prop := ∃ cur : Array Value, w.heap[g]? = some (.cells cur 5 (0, 0)) ∧ cur.size = cap
theorem Blk.cell {w : World} {g cap : Nat} (h : Blk w g cap) {i : Nat} (hi : i < cap) : ∃ u, w.cell? ⟨g, i, none⟩ = some u := by
 obtain ⟨cur, hh, hs⟩ := h
 refine ⟨cur[i], ?_⟩
 rw [cell_of_row w g i cur _ _ hh]
 simp
theorem Blk.free {w : World} {g cap : Nat} (h : Blk w g cap) (i : Nat) : w.frozen? ⟨g, i, none⟩ = false := by
 obtain ⟨cur, hh, hs⟩ := h
 simp [World.frozen?, hh]
theorem Blk.lt {w : World} {g cap : Nat} (h : Blk w g cap) : g < w.heap.size := by
 obtain ⟨cur, hh, hs⟩ := h
 exact (Array.getElem?_eq_some_iff.1 hh).1
theorem Blk.setCell {w : World} {g cap : Nat} (h : Blk w g cap) (a : Addr) (u : Value) : Blk (w.setCell a u) g cap := by
 obtain ⟨cur, hh, hs⟩ := h
 by_cases e : g = a.block
 ·subst e
  by_cases hsp : a.spot.isSome = true
  ·refine ⟨cur, ?_, hs⟩
   simp only [World.setCell, Array.getElem?_modify, hh]
   simp [hsp]
  ·refine ⟨cur.setIfInBounds a.off u, ?_, by simpa using hs⟩
   simp only [World.setCell, Array.getElem?_modify, hh]
   simp [hsp]
 ·exact ⟨cur, by rw [Below.heap_setCell _ _ _ _ e]; exact hh, hs⟩
theorem Blk.kept {w w' : World} {g cap : Nat} {row : Option Nat} (h : Blk w g cap) (hg : w.grownBy w' row) (hne : some g ≠ row) : Blk w' g cap := by
 have hl := h.lt
 obtain ⟨cur, hh, hs⟩ := h
 exact ⟨cur, by rw [hg.block g hl hne]; exact hh, hs⟩
theorem Blk.ofRow {w : World} {base g n cap : Nat} {xs : List Value} (h : w.ownsRow base 5 1 (.slice (some ⟨g, 0, none⟩) n cap) n xs) : Blk w g cap ∧ n ≤ cap ∧ cap ≤ maxLen := by
 rcases h.2 with ⟨h, _⟩ | ⟨g', cap', cur, hv, hb, hg, hc, hm, hs, ht⟩
 ·cases h
 ·simp only [Value.slice.injEq, Option.some.injEq, Addr.mk.injEq] at hv
  obtain ⟨⟨rfl, _⟩, _, rfl⟩ := hv
  exact ⟨⟨cur, hg, by simpa using hs⟩, hc, hm⟩
theorem grown_set1 (w : World) (p : Addr) (u : Value) : w.grownBy (w.setCell p u) (some p.block) :=
 ⟨rfl, rfl, rfl, by simp, fun i _ hne => Below.heap_setCell _ _ _ _ (fun e => hne (by rw [e]))⟩
theorem grown_setCell {a w : World} {row : Option Nat} (h : a.grownBy w row) (p : Addr) (u : Value) (hp : row = some p.block ∨ a.heap.size ≤ p.block) : a.grownBy (w.setCell p u) row := by
 rcases hp with e | e
 ·subst e
  exact grown_trans h (grown_set1 w p u)
 ·exact grown_trans_new h (grown_set1 w p u) (by intro x hx; obtain rfl := Option.some.inj hx; exact e)
theorem Blk.row {w : World} {g cap : Nat} (h : Blk w g cap) (n : Nat) (hn : n ≤ cap) (hm : cap ≤ maxLen) : ∃ xs : List Value, w.ownsRow 0 5 1 (.slice (some ⟨g, 0, none⟩) n cap) n xs := by
 obtain ⟨cur, hh, hs⟩ := h
 exact ⟨cur.toList.take (n * 1), by simp; omega, .inr ⟨g, cap, cur, rfl, Nat.zero_le _, hh, hn, hm, by simpa using hs, rfl⟩⟩
def okB (n : Nat) (p s : Int) : Bool := decide ((s = 1 ∨ s = 2 ∨ s = 4) ∧ 0 ≤ p ∧ p ≤ (n : Int) - s)
theorem ret_bool {a b : Bool} (h : a = b) : Ending.returned (.bool a) = .returned (.bool b) := by rw [h]
theorem ret_int {k : IntKind} {a b : Int} (h : a = b) : Ending.returned (.int k a) = .returned (.int k b) := by rw [h]
theorem okB_of {n : Nat} {p s : Int} {c : Prop} [Decidable c] (h : c ↔ ((s = 1 ∨ s = 2 ∨ s = 4) ∧ 0 ≤ p ∧ p ≤ (n : Int) - s)) : decide c = okB n p s := decide_eq_decide.2 h
theorem okB_no {n : Nat} {p s : Int} (h : ¬ ((s = 1 ∨ s = 2 ∨ s = 4) ∧ 0 ≤ p ∧ p ≤ (n : Int) - s)) : false = okB n p s := (decide_eq_false h).symm
theorem okB_yes {n : Nat} {p s : Int} (h : okB n p s = true) : (s = 1 ∨ s = 2 ∨ s = 4) ∧ 0 ≤ p ∧ p ≤ (n : Int) - s := of_decide_eq_true h
def numAt (xs : List UInt8) (p : Nat) : Nat → Nat
 | 0 => 0
 | k + 1 => numAt xs p k * 256 + (xs.getD (p + k) 0).toNat
theorem numAt_lt (xs : List UInt8) (p k : Nat) : numAt xs p k < 256 ^ k := by
 induction k with
 | zero => simp [numAt]
 | succ k ih =>
  have := (xs.getD (p + k) 0).toNat_lt
  simp only [numAt, Nat.pow_succ]
  omega
theorem numAt_lt3 (xs : List UInt8) (p k : Nat) (hk : k ≤ 3) : numAt xs p k < 16777216 := by
 have h := numAt_lt xs p k
 have h2 : 256 ^ k ≤ 256 ^ 3 := Nat.pow_le_pow_right (by decide) hk
 omega
theorem or_step (v c : Nat) (hv : v < 16777216) (hc : c < 256) : bits .or .u32 ((v : Int) * 256 % 4294967296) ((c : Int) % 4294967296) = ((v * 256 + c : Nat) : Int) := by
 rw [show ((v : Int) * 256 % 4294967296) = ((v * 256 : Nat) : Int) by omega, show ((c : Int) % 4294967296) = (c : Int) by omega, u32_or_nat _ _ (by omega) (by omega), nat_join 8 _ _ (by omega) (by omega)]
theorem numAt_step (xs : List UInt8) (p k : Nat) (hk : k ≤ 3) (hp : p + k < xs.length) :
  Value.int IntKind.u32 (bits BinOp.or IntKind.u32 ((numAt xs p k : Int) * 256 % 4294967296) ((xs[p + k].toNat : Int) % 4294967296)) = Value.int IntKind.u32 (numAt xs p (k + 1)) := by
 rw [or_step _ _ (numAt_lt3 xs p k hk) xs[p + k].toNat_lt]
 simp [numAt, hp]
def getV (xs : List UInt8) (p s : Int) : Int := if okB xs.length p s = true then (numAt xs p.toNat s.toNat : Int) else 0
def CV (w : World) (ao : Option Addr) (vs : List Value) : Prop :=
 (ao = none → vs = []) ∧ ∀ ad, ao = some ad → ∀ i (h : i < vs.length), w.cell? (ad.add i) = some vs[i]
theorem CV.addr {w : World} {ao : Option Addr} {vs : List Value} (h : CV w ao vs) {k : Nat} (hk : k < vs.length) :
  ∃ b off, ao = some ⟨b, off, none⟩ ∧ ∀ i (hi : i < vs.length), w.cell? ⟨b, off + i, none⟩ = some vs[i] := by
 cases ao with
 | none => have := h.1 rfl; subst this; simp at hk
 | some ad =>
  obtain ⟨b, off, spot⟩ := ad
  have h0 := h.2 _ rfl 0 (by omega)
  have hspot : spot = none := by simpa [Addr.add] using World.cell?_spot h0
  subst hspot
  refine ⟨b, off, rfl, fun i hi => ?_⟩
  have := h.2 _ rfl i hi
  rw [Addr.add_lit] at this
  exact this
theorem CV.under {w : World} {ao : Option Addr} {vs : List Value} (h : CV w ao vs) {ad : Addr} (had : ao = some ad) (hne : vs ≠ []) : ad.block < w.heap.size := by
 have hl : 0 < vs.length := List.length_pos_iff.2 hne
 have := World.block_lt_of_cell? w _ (h.2 ad had 0 hl)
 simpa [Addr.add] using this
theorem CV.same {w w' : World} {ao : Option Addr} {vs : List Value} (h : CV w ao vs) (hs : ∀ ad, ao = some ad → vs ≠ [] → ad.block < w.heap.size → w'.heap[ad.block]? = w.heap[ad.block]?) : CV w' ao vs := by
 refine ⟨h.1, fun ad had i hi => ?_⟩
 have hne : vs ≠ [] := by intro e; subst e; simp at hi
 rw [World.cell?_of_block (w := w) (w' := w') (a := ad.add i) ?_]
 ·exact h.2 ad had i hi
 ·have e : (ad.add i).block = ad.block := by unfold Addr.add; split <;> rfl
  rw [e]
  exact hs ad had hne (h.under had hne)
theorem CV.kept {w w' : World} {row : Option Nat} {ao : Option Addr} {vs : List Value} (h : CV w ao vs) (hg : w.grownBy w' row) (hne : ∀ ad, ao = some ad → vs ≠ [] → some ad.block ≠ row) : CV w' ao vs :=
 h.same fun ad had hv hl => hg.block ad.block hl (hne ad had hv)
theorem CV.keptNone {w w' : World} {ao : Option Addr} {vs : List Value} (h : CV w ao vs) (hg : w.grownBy w' none) : CV w' ao vs := h.kept hg (fun _ _ _ => by simp)
theorem CV.below {w w' : World} {ao : Option Addr} {vs : List Value} (h : CV w ao vs) (hb : Below w.heap.size w w') : CV w' ao vs :=
 h.same fun ad _ _ hl => hb.block ad.block hl
theorem CV.cells {w : World} {ao : Option Addr} {xs : List UInt8} (h : CV w ao (xs.map bv)) : Cells w ao xs := by
 refine ⟨fun e => by simpa using h.1 e, fun ad had i hi => ?_⟩
 rw [h.2 ad had i (by simpa using hi)]
 simp
theorem CV.ofRow {w : World} {base e n : Nat} {v : Value} {vs : List Value} (h : w.ownsRow base e 1 v n vs) :
  ∃ ao cap, v = .slice ao n cap ∧ CV w ao vs ∧ n ≤ cap ∧ cap ≤ maxLen ∧ (ao = none → cap = 0) ∧ (∀ ad, ao = some ad → base ≤ ad.block ∧ ad.block < w.heap.size) ∧ v.ownBlock = ao.map (·.block) := by
 have hl := h.lt
 have h0 := h.1
 rcases h.2 with ⟨rfl, hn⟩ | ⟨g, cap, cur, rfl, hb, hg, hc, hm, hs, ht⟩
 ·subst hn
  refine ⟨none, 0, rfl, ⟨fun _ => List.eq_nil_of_length_eq_zero (by simpa using h0), fun ad had => (by cases had)⟩, by omega, Nat.zero_le _, fun _ => rfl, fun ad had => (by cases had), rfl⟩
 ·refine ⟨some ⟨g, 0, none⟩, cap, rfl, ⟨fun h => (by cases h), fun ad had i hi => ?_⟩, hc, hm, fun h => (by cases h), fun ad had => ?_, rfl⟩
  ·obtain rfl := Option.some.inj had
   exact h.cells (g := g) rfl i _ (by simp [hi])
  ·obtain rfl := Option.some.inj had
   exact hl g rfl
theorem cv_lit (w : World) (e : TypeId) (vs : List Value) : CV (w.alloc (.cells vs.toArray e)) (some ⟨w.heap.size, 0, none⟩) vs := by
 refine ⟨fun h => (by cases h), fun ad had i hi => ?_⟩
 obtain rfl := Option.some.inj had
 have hh : (w.alloc (.cells vs.toArray e)).heap[w.heap.size]? = some (.cells vs.toArray e (0, 0)) := heap_alloc_new w _
 rw [Addr.add_lit, Nat.zero_add, cell_of_row _ w.heap.size i _ _ _ hh]
 simp [hi]
def shr8 (v k : Nat) : Nat := v / 256 ^ k
def putTo (xs : List UInt8) (p S : Nat) (v : Nat) : Nat → List UInt8
 | 0 => xs
 | k + 1 => (putTo xs p S v k).set (p + S - 1 - k) (UInt8.ofNat (shr8 v k))
theorem putTo_len (xs : List UInt8) (p S v k : Nat) : (putTo xs p S v k).length = xs.length := by
 induction k with
 | zero => rfl
 | succ k ih => simp [putTo, ih]
def PutRel (w : World) (g cap : Nat) (xs : List UInt8) (p S v k : Nat) (wr : World) : Prop :=
 wr.ownsRow w.heap.size 5 1 (.slice (some ⟨g, 0, none⟩) xs.length cap) xs.length ((putTo xs p S v k).map bv) ∧ w.grownBy wr none
theorem PutRel.cell {w wr : World} {g cap : Nat} {xs : List UInt8} {p S v k : Nat} (h : PutRel w g cap xs p S v k wr) {i : Nat} (hi : i < xs.length) : ∃ u, wr.cell? ⟨g, i, none⟩ = some u := by
 have := h.1.cellAt i (by omega)
 have hl := putTo_len xs p S v k
 refine ⟨bv ((putTo xs p S v k)[i]'(by omega)), ?_⟩
 rw [this]
 simp [hl, hi]
theorem PutRel.free {w wr : World} {g cap : Nat} {xs : List UInt8} {p S v k : Nat} (h : PutRel w g cap xs p S v k wr) (i : Nat) : wr.frozen? ⟨g, i, none⟩ = false := h.1.frozenAt i
theorem Owns.rd {w : World} {base : Nat} {v : Value} {xs : List UInt8} (h : Owns w base v xs) :
  ∃ ao cap, v = .slice ao xs.length cap ∧ Cells w ao xs ∧ (ao = none → cap = 0) ∧ (∀ ad, ao = some ad → base ≤ ad.block ∧ ad.block < w.heap.size) ∧ v.ownBlock = ao.map (·.block) := by
 obtain ⟨ao, cap, hv, hc, _, _, h0, hb, ho⟩ := CV.ofRow h
 exact ⟨ao, cap, hv, hc.cells, h0, hb, ho⟩
theorem owns_keptNone {w w' : World} {base e size n : Nat} {v : Value} {vs : List Value} (h : w.ownsRow base e size v n vs) (hg : w.grownBy w' none) : w'.ownsRow base e size v n vs := h.kept hg (by cases hv : v.ownBlock <;> simp)
def dg (n : Nat) : UInt8 := UInt8.ofNat (48 + n)
theorem dg_nat {n : Nat} (h : n < 10) : (dg n).toNat = 48 + n := by simp [dg]; omega
def decF : Nat → Nat → List UInt8
 | 0, _ => []
 | f + 1, n => if n < 10 then [dg n] else decF f (n / 10) ++ [dg (n % 10)]
def dec (n : Nat) : List UInt8 := decF 20 n
def decZ (n : Nat) : List UInt8 := if n = 0 then [] else dec n
theorem decF_more (f n : Nat) (h : n < 10 ^ f) (hf : 0 < f) : decF (f + 1) n = decF f n := by
 induction f generalizing n with
 | zero => omega
 | succ f ih =>
  by_cases h10 : n < 10
  ·simp [decF, h10]
  ·have hf0 : 0 < f := by
    rcases Nat.eq_zero_or_pos f with rfl | h0
    ·simp at h; omega
    ·exact h0
   rw [decF, if_neg h10, ih (n / 10) (by rw [Nat.pow_succ] at h; omega) hf0, decF, if_neg h10]
theorem decF_len (f n : Nat) : (decF f n).length ≤ f := by
 induction f generalizing n with
 | zero => simp [decF]
 | succ f ih =>
  rw [decF]
  split
  ·simp
  ·have := ih (n / 10); simp; omega
theorem dec_len (n : Nat) : (dec n).length ≤ 20 := decF_len 20 n
theorem dec_step (n : Nat) (h : n < 10 ^ 20) : dec n = decZ (n / 10) ++ [dg (n % 10)] := by
 by_cases h10 : n < 10
 ·rw [show n / 10 = 0 by omega, show n % 10 = n by omega]
  simp [decZ, dec, decF, h10]
 ·have h0 : n / 10 ≠ 0 := by omega
  rw [decZ, if_neg h0]
  show decF (19 + 1) n = decF 20 (n / 10) ++ _
  rw [decF, if_neg h10, decF_more 19 (n / 10) (by omega) (by omega)]
theorem decZ_step (n : Nat) (h0 : 0 < n) (h : n < 10 ^ 20) : decZ n = decZ (n / 10) ++ [dg (n % 10)] := by
 rw [← dec_step n h, decZ, if_neg (by omega)]
abbrev str (xs : List UInt8) : Value := .string ⟨xs.toArray⟩
theorem cat (xs ys : List UInt8) : ((⟨xs.toArray⟩ : ByteArray) ++ (⟨ys.toArray⟩ : ByteArray)) = ⟨(xs ++ ys).toArray⟩ := by
 apply ByteArray.ext
 simp
theorem str_cat (xs ys : List UInt8) : Value.string ((⟨xs.toArray⟩ : ByteArray) ++ (⟨ys.toArray⟩ : ByteArray)) = str (xs ++ ys) := by rw [cat]
def isDig (c : UInt8) : Bool := decide (48 ≤ c.toNat) && decide (c.toNat ≤ 57)
theorem dg_dig {n : Nat} (h : n < 10) : isDig (dg n) = true := by
 have := dg_nat h
 simp [isDig, this]; omega
def numFrom (most : Nat) : Nat → List UInt8 → Option Nat
 | v, [] => some v
 | v, c :: r => if isDig c = true then (if most < 10 * v + (c.toNat - 48) then none else numFrom most (10 * v + (c.toNat - 48)) r) else none
def numberV (most : Nat) (s : List UInt8) : Option Nat := if s = [] ∨ (1 < s.length ∧ s.head? = some 48) then none else numFrom most 0 s
theorem numFrom_snoc (most v : Nat) (a : List UInt8) (c : UInt8) : numFrom most v (a ++ [c]) = (numFrom most v a).bind fun u => numFrom most u [c] := by
 induction a generalizing v with
 | nil => rfl
 | cons x a ih =>
  simp only [List.cons_append, numFrom]
  split
  ·split
   ·rfl
   ·exact ih _
  ·rfl
theorem numFrom_decZ (most n : Nat) (hn : n ≤ most) (h20 : n < 10 ^ 20) : numFrom most 0 (decZ n) = some n := by
 induction n using Nat.strongRecOn with
 | _ n ih =>
  by_cases h0 : n = 0
  ·subst h0; rfl
  ·rw [decZ_step n (by omega) h20, numFrom_snoc, ih (n / 10) (by omega) (by omega) (by omega)]
   have h10 : n % 10 < 10 := by omega
   have e := dg_nat h10
   have hv : 10 * (n / 10) + ((dg (n % 10)).toNat - 48) = n := by omega
   simp only [Option.bind_some, numFrom, dg_dig h10, hv]
   simp [show ¬ most < n by omega]
theorem decZ_head (n : Nat) (h0 : 0 < n) (h20 : n < 10 ^ 20) : ∃ c r, decZ n = c :: r ∧ c ≠ 48 ∧ isDig c = true := by
 induction n using Nat.strongRecOn with
 | _ n ih =>
  rw [decZ_step n h0 h20]
  by_cases h : n / 10 = 0
  ·have h10 : n % 10 < 10 := by omega
   have e := dg_nat h10
   refine ⟨dg (n % 10), [], by simp [decZ, h], ?_, dg_dig h10⟩
   intro hc
   have := congrArg UInt8.toNat hc
   simp at this
   omega
  ·obtain ⟨c, r, hr, hc⟩ := ih (n / 10) (by omega) (by omega) (by omega)
   exact ⟨c, r ++ [dg (n % 10)], by rw [hr]; rfl, hc⟩
theorem dec_pos (n : Nat) (h0 : 0 < n) : dec n = decZ n := by rw [decZ, if_neg (by omega)]
theorem dec_zero : dec 0 = [48] := by decide
theorem dec_ne (n : Nat) (h20 : n < 10 ^ 20) : dec n ≠ [] := by rw [dec_step n h20]; simp
theorem dec_dig (n : Nat) (h20 : n < 10 ^ 20) : ∀ c ∈ dec n, isDig c = true := by
 have key : ∀ n, n < 10 ^ 20 → ∀ c ∈ decZ n, isDig c = true := by
  intro n
  induction n using Nat.strongRecOn with
  | _ n ih =>
   intro h c hc
   by_cases h0 : n = 0
   ·subst h0; simp [decZ] at hc
   ·rw [decZ_step n (by omega) h] at hc
    rcases List.mem_append.1 hc with hc | hc
    ·exact ih (n / 10) (by omega) (by omega) c hc
    ·simp only [List.mem_singleton] at hc
     subst hc
     exact dg_dig (by omega)
 by_cases h0 : n = 0
 ·subst h0; rw [dec_zero]; decide
 ·rw [dec_pos n (by omega)]; exact key n h20
theorem numberV_dec (most n : Nat) (hn : n ≤ most) (h20 : n < 10 ^ 20) : numberV most (dec n) = some n := by
 by_cases h0 : n = 0
 ·subst h0; rw [dec_zero]; simp [numberV, numFrom, isDig]
 ·have hd := dec_pos n (by omega)
  obtain ⟨c, r, hr, hc, -⟩ := decZ_head n (by omega) h20
  rw [hd, numberV, if_neg, numFrom_decZ most n hn h20]
  rw [hr]
  simp [hc]
def hexD (n : Nat) : UInt8 := if n < 10 then UInt8.ofNat (48 + n) else UInt8.ofNat (87 + n)
theorem run_str {P : Program} {w : World} {base : Nat} {v : Value} {ys : List UInt8} (h : Owns w base v ys) (src dst : TypeId) (hs : P.underlying src = some (.slice 5)) (he : P.underlying 5 = some (.int .u8)) (hd : P.underlying dst = some .string) :
  (convert src dst v).run P w = .ok (.string ⟨ys.toArray⟩) w := by
 obtain ⟨ao, cap, rfl, hc, _⟩ := h.shape
 cases ao with
 | none =>
  have e := hc.1 rfl
  subst e
  show (convert src dst (.slice none 0 cap)).run P w = _
  rw [run_convert_bytes_string w src dst 5 none 0 cap hs he hd]
  simp [Conv.bytesToString]
  rfl
 | some ad => exact run_convert_bytes_back w src dst 5 ad cap ys hs he hd (fun j hj => hc.2 ad rfl j hj)

end Go.Proofs.YtklipelnjgpnjaaGreatDoor
