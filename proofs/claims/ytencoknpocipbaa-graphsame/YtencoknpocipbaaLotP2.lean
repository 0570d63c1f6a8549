/-
  Numbers in bytes, lists of cells, what is kept: the words that all contracts share. The document's own answers on codes: Jump, Operation, Load, ByX, Known, Class, Uses. Instructions in memory: four cells each. SameInsns of two lists that read alike answers true.
-/
import Derived.Test.YtencoknpocipbaaLotP1
namespace Go.Proofs.Ytencoknpocipbaa
open Go.RowKit
set_option maxRecDepth 100000

/-- Are there bytes of that size at that place? -/
def okB (n : Nat) (p s : Int) : Bool := decide ((s = 1 ∨ s = 2 ∨ s = 4) ∧ 0 ≤ p ∧ p ≤ (n : Int) - s)

theorem ret_bool {a b : Bool} (h : a = b) : Ending.returned (.bool a) = .returned (.bool b) := by rw [h]

theorem ret_int {k : IntKind} {a b : Int} (h : a = b) : Ending.returned (.int k a) = .returned (.int k b) := by rw [h]

theorem okB_of {n : Nat} {p s : Int} {c : Prop} [Decidable c] (h : c ↔ ((s = 1 ∨ s = 2 ∨ s = 4) ∧ 0 ≤ p ∧ p ≤ (n : Int) - s)) : decide c = okB n p s := decide_eq_decide.2 h

theorem okB_no {n : Nat} {p s : Int} (h : ¬ ((s = 1 ∨ s = 2 ∨ s = 4) ∧ 0 ≤ p ∧ p ≤ (n : Int) - s)) : false = okB n p s := (decide_eq_false h).symm

theorem okB_yes {n : Nat} {p s : Int} (h : okB n p s = true) : (s = 1 ∨ s = 2 ∨ s = 4) ∧ 0 ≤ p ∧ p ≤ (n : Int) - s := of_decide_eq_true h

theorem three_tests {s : Int} (h : s = 1 ∨ s = 2 ∨ s = 4) : (s != 1) = false ∨ ((s != 1) = true ∧ (s != 2) = false) ∨ ((s != 1) = true ∧ (s != 2) = true ∧ (s != 4) = false) := by
  rcases h with rfl | rfl | rfl <;> simp

/-- The number that k bytes from p on say. -/
def numAt (xs : List UInt8) (p : Nat) : Nat → Nat
  | 0 => 0
  | k + 1 => numAt xs p k * 256 + (xs.getD (p + k) 0).toNat

theorem numAt_lt (xs : List UInt8) (p k : Nat) : numAt xs p k < 256 ^ k := by
  induction k with
  | zero => simp [numAt]
  | succ k ih =>
    have := (xs.getD (p + k) 0).toNat_lt
    simp only [numAt, Nat.pow_succ]
    omega

theorem numAt_lt3 (xs : List UInt8) (p k : Nat) (hk : k ≤ 3) : numAt xs p k < 16777216 := by
  have h := numAt_lt xs p k
  have h2 : 256 ^ k ≤ 256 ^ 3 := Nat.pow_le_pow_right (by decide) hk
  omega

theorem or_step (v c : Nat) (hv : v < 16777216) (hc : c < 256) : bits .or .u32 ((v : Int) * 256 % 4294967296) ((c : Int) % 4294967296) = ((v * 256 + c : Nat) : Int) := by
  rw [show ((v : Int) * 256 % 4294967296) = ((v * 256 : Nat) : Int) by omega, show ((c : Int) % 4294967296) = (c : Int) by omega, u32_or_nat _ _ (by omega) (by omega), nat_join 8 _ _ (by omega) (by omega)]

theorem numAt_step (xs : List UInt8) (p k : Nat) (hk : k ≤ 3) (hp : p + k < xs.length) :
    Value.int IntKind.u32 (bits BinOp.or IntKind.u32 ((numAt xs p k : Int) * 256 % 4294967296) ((xs[p + k].toNat : Int) % 4294967296)) = Value.int IntKind.u32 (numAt xs p (k + 1)) := by
  rw [or_step _ _ (numAt_lt3 xs p k hk) xs[p + k].toNat_lt]
  simp [numAt, hp]

/-- What Get says. -/
def getV (xs : List UInt8) (p s : Int) : Int := if okB xs.length p s = true then (numAt xs p.toNat s.toNat : Int) else 0

/-- The cells from an address on hold these values (no address: none). -/
def CV (w : World) (ao : Option Addr) (vs : List Value) : Prop :=
  (ao = none → vs = []) ∧ ∀ ad, ao = some ad → ∀ i (h : i < vs.length), w.cell? (ad.add i) = some vs[i]

theorem CV.addr {w : World} {ao : Option Addr} {vs : List Value} (h : CV w ao vs) {k : Nat} (hk : k < vs.length) :
    ∃ b off, ao = some ⟨b, off, none⟩ ∧ ∀ i (hi : i < vs.length), w.cell? ⟨b, off + i, none⟩ = some vs[i] := by
  cases ao with
  | none => have := h.1 rfl; subst this; simp at hk
  | some ad =>
    obtain ⟨b, off, spot⟩ := ad
    have h0 := h.2 _ rfl 0 (by omega)
    have hspot : spot = none := by simpa [Addr.add] using World.cell?_spot h0
    subst hspot
    refine ⟨b, off, rfl, fun i hi => ?_⟩
    have := h.2 _ rfl i hi
    rw [Addr.add_lit] at this
    exact this

theorem CV.under {w : World} {ao : Option Addr} {vs : List Value} (h : CV w ao vs) {ad : Addr} (had : ao = some ad) (hne : vs ≠ []) : ad.block < w.heap.size := by
  have hl : 0 < vs.length := List.length_pos_iff.2 hne
  have := World.block_lt_of_cell? w _ (h.2 ad had 0 hl)
  simpa [Addr.add] using this

theorem CV.same {w w' : World} {ao : Option Addr} {vs : List Value} (h : CV w ao vs) (hs : ∀ ad, ao = some ad → vs ≠ [] → ad.block < w.heap.size → w'.heap[ad.block]? = w.heap[ad.block]?) : CV w' ao vs := by
  refine ⟨h.1, fun ad had i hi => ?_⟩
  have hne : vs ≠ [] := by intro e; subst e; simp at hi
  rw [World.cell?_of_block (w := w) (w' := w') (a := ad.add i) ?_]
  · exact h.2 ad had i hi
  · have e : (ad.add i).block = ad.block := by unfold Addr.add; split <;> rfl
    rw [e]
    exact hs ad had hne (h.under had hne)

theorem CV.kept {w w' : World} {row : Option Nat} {ao : Option Addr} {vs : List Value} (h : CV w ao vs) (hg : w.grownBy w' row) (hne : ∀ ad, ao = some ad → vs ≠ [] → some ad.block ≠ row) : CV w' ao vs :=
  h.same fun ad had hv hl => hg.block ad.block hl (hne ad had hv)

theorem CV.keptNone {w w' : World} {ao : Option Addr} {vs : List Value} (h : CV w ao vs) (hg : w.grownBy w' none) : CV w' ao vs := h.kept hg (fun _ _ _ => by simp)

theorem CV.below {w w' : World} {ao : Option Addr} {vs : List Value} (h : CV w ao vs) (hb : Below w.heap.size w w') : CV w' ao vs :=
  h.same fun ad _ _ hl => hb.block ad.block hl

theorem Cells.cv {w : World} {ao : Option Addr} {xs : List UInt8} (h : Cells w ao xs) : CV w ao (xs.map bv) := by
  refine ⟨fun e => by rw [h.1 e]; rfl, fun ad had i hi => ?_⟩
  simp only [List.length_map] at hi
  rw [h.2 ad had i hi]
  simp

theorem CV.cells {w : World} {ao : Option Addr} {xs : List UInt8} (h : CV w ao (xs.map bv)) : Cells w ao xs := by
  refine ⟨fun e => by simpa using h.1 e, fun ad had i hi => ?_⟩
  rw [h.2 ad had i (by simpa using hi)]
  simp

/-- An owned row, as cells that are read. -/
theorem CV.ofRow {w : World} {base e n : Nat} {v : Value} {vs : List Value} (h : w.ownsRow base e 1 v n vs) :
    ∃ ao cap, v = .slice ao n cap ∧ CV w ao vs ∧ n ≤ cap ∧ cap ≤ maxLen ∧ (ao = none → cap = 0) ∧ (∀ ad, ao = some ad → base ≤ ad.block ∧ ad.block < w.heap.size) ∧ v.ownBlock = ao.map (·.block) := by
  have hl := h.lt
  have h0 := h.1
  rcases h.2 with ⟨rfl, hn⟩ | ⟨g, cap, cur, rfl, hb, hg, hc, hm, hs, ht⟩
  · subst hn
    refine ⟨none, 0, rfl, ⟨fun _ => List.eq_nil_of_length_eq_zero (by simpa using h0), fun ad had => (by cases had)⟩, by omega, Nat.zero_le _, fun _ => rfl, fun ad had => (by cases had), rfl⟩
  · refine ⟨some ⟨g, 0, none⟩, cap, rfl, ⟨fun h => (by cases h), fun ad had i hi => ?_⟩, hc, hm, fun h => (by cases h), fun ad had => ?_, rfl⟩
    · obtain rfl := Option.some.inj had
      exact h.cells (g := g) rfl i _ (by simp [hi])
    · obtain rfl := Option.some.inj had
      exact hl g rfl

theorem cv_lit (w : World) (e : TypeId) (vs : List Value) : CV (w.alloc (.cells vs.toArray e)) (some ⟨w.heap.size, 0, none⟩) vs := by
  refine ⟨fun h => (by cases h), fun ad had i hi => ?_⟩
  obtain rfl := Option.some.inj had
  have hh : (w.alloc (.cells vs.toArray e)).heap[w.heap.size]? = some (.cells vs.toArray e (0, 0)) := heap_alloc_new w _
  rw [Addr.add_lit, Nat.zero_add, cell_of_row _ w.heap.size i _ _ _ hh]
  simp [hi]

/-- v, k bytes to the right. -/
def shr8 (v k : Nat) : Nat := v / 256 ^ k

theorem shr8_zero (v : Nat) : shr8 v 0 = v := by simp [shr8]

theorem shr8_succ (v k : Nat) : shr8 v (k + 1) = shr8 v k / 256 := by
  unfold shr8
  rw [Nat.div_div_eq_div_mul, Nat.pow_succ]

theorem shr8_le (v k : Nat) : shr8 v k ≤ v := Nat.div_le_self _ _

/-- v's lowest k bytes, laid from the place p + S - 1 downwards. -/
def putTo (xs : List UInt8) (p S : Nat) (v : Nat) : Nat → List UInt8
  | 0 => xs
  | k + 1 => (putTo xs p S v k).set (p + S - 1 - k) (UInt8.ofNat (shr8 v k))

theorem putTo_len (xs : List UInt8) (p S v k : Nat) : (putTo xs p S v k).length = xs.length := by
  induction k with
  | zero => rfl
  | succ k ih => simp [putTo, ih]

/-- What Put says. -/
def putV (xs : List UInt8) (p s : Int) (v : Nat) : List UInt8 := if okB xs.length p s = true then putTo xs p.toNat s.toNat v s.toNat else []

theorem owns_stored {w : World} {base g cap : Nat} {xs : List UInt8} (h : w.ownsRow base 5 1 (.slice (some ⟨g, 0, none⟩) xs.length cap) xs.length (xs.map bv)) (i : Nat) (c : Nat) :
    (w.setCell ⟨g, i, none⟩ (.int .u8 ((c : Int) % 256))).ownsRow base 5 1 (.slice (some ⟨g, 0, none⟩) xs.length cap) xs.length ((xs.set i (UInt8.ofNat c)).map bv) := by
  have := (h.stored i (.int .u8 ((c : Int) % 256))).1
  rw [List.map_set]
  have e : bv (UInt8.ofNat c) = .int .u8 ((c : Int) % 256) := by simp [bv]
  rw [e]
  exact this

/-- The copy while it is written. -/
def PutRel (w : World) (g cap : Nat) (xs : List UInt8) (p S v k : Nat) (wr : World) : Prop :=
  wr.ownsRow w.heap.size 5 1 (.slice (some ⟨g, 0, none⟩) xs.length cap) xs.length ((putTo xs p S v k).map bv) ∧ w.grownBy wr none

theorem PutRel.store {w wr : World} {g cap : Nat} {xs : List UInt8} {p S v k : Nat} (h : PutRel w g cap xs p S v k wr) : PutRel w g cap xs p S v (k + 1) (wr.setCell ⟨g, p + S - 1 - k, none⟩ (.int .u8 (((shr8 v k : Nat) : Int) % 256))) := by
  obtain ⟨ho, hg⟩ := h
  refine ⟨?_, grown_setCell hg _ _ (.inr (ho.lt g rfl).1)⟩
  have hl := putTo_len xs p S v k
  have h' : wr.ownsRow w.heap.size 5 1 (.slice (some ⟨g, 0, none⟩) (putTo xs p S v k).length cap) (putTo xs p S v k).length ((putTo xs p S v k).map bv) := by rw [hl]; exact ho
  have := owns_stored h' (p + S - 1 - k) (shr8 v k)
  rw [hl] at this
  exact this

theorem PutRel.cell {w wr : World} {g cap : Nat} {xs : List UInt8} {p S v k : Nat} (h : PutRel w g cap xs p S v k wr) {i : Nat} (hi : i < xs.length) : ∃ u, wr.cell? ⟨g, i, none⟩ = some u := by
  have := h.1.cellAt i (by omega)
  have hl := putTo_len xs p S v k
  refine ⟨bv ((putTo xs p S v k)[i]'(by omega)), ?_⟩
  rw [this]
  simp [hl, hi]

theorem PutRel.free {w wr : World} {g cap : Nat} {xs : List UInt8} {p S v k : Nat} (h : PutRel w g cap xs p S v k wr) (i : Nat) : wr.frozen? ⟨g, i, none⟩ = false := h.1.frozenAt i

theorem owns_mono {w : World} {base base' e size n : Nat} {v : Value} {vs : List Value} (h : w.ownsRow base e size v n vs) (hb : base' ≤ base) : w.ownsRow base' e size v n vs := by
  refine ⟨h.1, ?_⟩
  rcases h.2 with h | ⟨g, cap, cur, hv, hg, r⟩
  · exact .inl h
  · exact .inr ⟨g, cap, cur, hv, Nat.le_trans hb hg, r⟩

/-- What a call that makes bytes, or none, leaves. -/
def MadeB (w w' : World) (e : Ending) (xs : List UInt8) (ok : Bool) : Prop := ∃ v, e = .returned (.tuple #[v, .bool ok]) ∧ Owns w' w.heap.size v xs ∧ w.grownBy w' none

/-- Bytes that lie below what is written. -/
theorem Cells.keptUp {w w' : World} {row : Option Nat} {ao : Option Addr} {xs : List UInt8} (h : Cells w ao xs) (B : Nat) (hu : ∀ ad, ao = some ad → ad.block < B) (hg : w.grownBy w' row) (hr : ∀ k, row = some k → B ≤ k) : Cells w' ao xs :=
  h.kept hg fun ad had _ e => by have := hu ad had; have := hr ad.block e.symm; omega

/-- Bytes that lie above what is written. -/
theorem Cells.keptDown {w w' : World} {row : Option Nat} {ao : Option Addr} {xs : List UInt8} (h : Cells w ao xs) (B : Nat) (hu : ∀ ad, ao = some ad → B ≤ ad.block) (hg : w.grownBy w' row) (hr : ∀ k, row = some k → k < B) : Cells w' ao xs :=
  h.kept hg fun ad had _ e => by have := hu ad had; have := hr ad.block e.symm; omega

theorem putV_len (xs : List UInt8) (p s : Int) (v : Nat) : (putV xs p s v).length ≤ xs.length := by
  unfold putV
  split
  · rw [putTo_len]; exact Nat.le_refl _
  · simp

theorem Owns.rd {w : World} {base : Nat} {v : Value} {xs : List UInt8} (h : Owns w base v xs) :
    ∃ ao cap, v = .slice ao xs.length cap ∧ Cells w ao xs ∧ (ao = none → cap = 0) ∧ (∀ ad, ao = some ad → base ≤ ad.block ∧ ad.block < w.heap.size) ∧ v.ownBlock = ao.map (·.block) := by
  obtain ⟨ao, cap, hv, hc, _, _, h0, hb, ho⟩ := CV.ofRow h
  exact ⟨ao, cap, hv, hc.cells, h0, hb, ho⟩

theorem owns_keptNone {w w' : World} {base e size n : Nat} {v : Value} {vs : List Value} (h : w.ownsRow base e size v n vs) (hg : w.grownBy w' none) : w'.ownsRow base e size v n vs := h.kept hg (by cases hv : v.ownBlock <;> simp)

/-- Cells that lie below what is written; above it. -/
theorem CV.keptUp {w w' : World} {row : Option Nat} {ao : Option Addr} {vs : List Value} (h : CV w ao vs) (B : Nat) (hu : ∀ ad, ao = some ad → ad.block < B) (hg : w.grownBy w' row) (hr : ∀ k, row = some k → B ≤ k) : CV w' ao vs :=
  h.kept hg fun ad had _ e => by have := hu ad had; have := hr ad.block e.symm; omega

theorem CV.keptDown {w w' : World} {row : Option Nat} {ao : Option Addr} {vs : List Value} (h : CV w ao vs) (B : Nat) (hu : ∀ ad, ao = some ad → B ≤ ad.block) (hg : w.grownBy w' row) (hr : ∀ k, row = some k → k < B) : CV w' ao vs :=
  h.kept hg fun ad had _ e => by have := hu ad had; have := hr ad.block e.symm; omega

end Go.Proofs.Ytencoknpocipbaa

namespace Go.Proofs.Ytencoknpocipbaa
open Go.RowKit
set_option maxRecDepth 100000

def jumpB (c : Int) : Bool := c == 21 || c == 29 || c == 37 || c == 45 || c == 53 || c == 61 || c == 69 || c == 77
def operB (c : Int) : Bool := c == 4 || c == 12 || c == 20 || c == 28 || c == 36 || c == 44 || c == 52 || c == 60 || c == 68 || c == 76 || c == 84 || c == 92 || c == 100 || c == 108 || c == 116 || c == 124 || c == 148 || c == 156 || c == 164 || c == 172
def loadB (c : Int) : Bool := c == 32 || c == 40 || c == 48 || c == 64 || c == 72 || c == 80 || c == 177
def plainB (c : Int) : Bool := (c == 0 || c == 32 || c == 40 || c == 48 || c == 64 || c == 72 || c == 80 || c == 96 || c == 128) || (c == 1 || c == 97 || c == 129 || c == 177 || c == 2 || c == 3 || c == 132 || c == 6 || c == 22 || c == 7 || c == 135 || c == 5)
def knownB (c : Int) : Bool := plainB c || (jumpB c || operB c)

/-- Its bit 8. -/
def bit8 (c : Int) : Bool := bits .and .u16 c 8 != 0
def byxB (c : Int) : Bool := (jumpB c || operB c) && bit8 c

/-- What Class says. -/
def classV (c : Int) : Int := if knownB c = true then c % 8 else -1

theorem and7 (c : Int) (h0 : 0 ≤ c) (h1 : c ≤ 65535) : bits .and .u16 c 7 = c % 8 := by
  obtain ⟨n, rfl⟩ := Int.eq_ofNat_of_zero_le h0
  have h := u16_and_nat n 7 (by omega) (by omega)
  rw [show n &&& 7 = n % 8 from Nat.and_two_pow_sub_one_eq_mod n 3] at h
  rw [show (7 : Int) = ((7 : Nat) : Int) by rfl, h]
  omega

/-- What Uses says, answer by answer. -/
def noKB (c : Int) : Bool := c == 128 || c == 129 || c == 132 || c == 22 || c == 7 || c == 135
def usesK (c : Int) : Bool := knownB c && (!byxB c && !noKB c)
def usesJ (c : Int) : Bool := knownB c && jumpB c
def usesF (c : Int) : Bool := knownB c && (loadB c || c == 60 || c == 156)

theorem cret_three {a b c x y z : Bool} (h1 : a = x) (h2 : b = y) (h3 : c = z) : Ending.returned (.tuple #[.bool a, .bool b, .bool c]) = .returned (.tuple #[.bool x, .bool y, .bool z]) := by rw [h1, h2, h3]

end Go.Proofs.Ytencoknpocipbaa

namespace Go.Proofs.Ytencoknpocipbaa
open Go.RowKit
set_option maxRecDepth 100000

/-- An instruction. -/
structure In where
  code : UInt16
  jt : UInt8
  jf : UInt8
  k : UInt32

def In.cells (x : In) : List Value := [.int .u16 (x.code.toNat : Int), .int .u8 (x.jt.toNat : Int), .int .u8 (x.jf.toNat : Int), .int .u32 (x.k.toNat : Int)]

/-- The cells of a list of them. -/
def flat (xs : List In) : List Value := xs.flatMap In.cells

theorem flat_nil : flat [] = [] := rfl
theorem flat_cons (x : In) (xs : List In) : flat (x :: xs) = x.cells ++ flat xs := rfl
theorem flat_append (xs ys : List In) : flat (xs ++ ys) = flat xs ++ flat ys := by simp only [flat, List.flatMap_append]

theorem flat_len (xs : List In) : (flat xs).length = xs.length * 4 := by
  induction xs with
  | nil => rfl
  | cons x xs ih => rw [flat_cons, List.length_append, ih, List.length_cons]; simp [In.cells]; omega

theorem flat_get (xs : List In) (i j : Nat) (hi : i < xs.length) (hj : j < 4) : (flat xs)[i * 4 + j]? = (xs[i].cells)[j]? := by
  induction xs generalizing i with
  | nil => simp at hi
  | cons x xs ih =>
    rw [flat_cons]
    have hl : x.cells.length = 4 := rfl
    cases i with
    | zero => rw [List.getElem?_append_left (by omega)]; simp
    | succ i =>
      rw [List.getElem?_append_right (by omega), hl, show (i + 1) * 4 + j - 4 = i * 4 + j by omega, ih i (by simpa using hi)]
      simp

theorem flat_one (xs : List In) : ∀ u ∈ flat xs, u.oneCell' = true := by
  intro u hu
  obtain ⟨x, _, hx⟩ := List.mem_flatMap.1 hu
  simp only [In.cells, List.mem_cons, List.not_mem_nil, or_false] at hx
  rcases hx with rfl | rfl | rfl | rfl <;> rfl

theorem CV.insns {w : World} {ao : Option Addr} {xs : List In} (h : CV w ao (flat xs)) {k : Nat} (hk : k < xs.length) :
    ∃ b off, ao = some ⟨b, off, none⟩ ∧ ∀ i (hi : i < xs.length), w.cell? ⟨b, off + i * 4, none⟩ = some (.int .u16 (xs[i].code.toNat : Int)) ∧ w.cell? ⟨b, off + i * 4 + 1, none⟩ = some (.int .u8 (xs[i].jt.toNat : Int)) ∧
      w.cell? ⟨b, off + i * 4 + 2, none⟩ = some (.int .u8 (xs[i].jf.toNat : Int)) ∧ w.cell? ⟨b, off + i * 4 + 3, none⟩ = some (.int .u32 (xs[i].k.toNat : Int)) := by
  have hl := flat_len xs
  obtain ⟨b, off, hao, hc⟩ := h.addr (k := k * 4) (by omega)
  refine ⟨b, off, hao, fun i hi => ?_⟩
  have key : ∀ j (hj : j < 4), w.cell? ⟨b, off + i * 4 + j, none⟩ = (xs[i].cells)[j]? := fun j hj => by
    rw [← flat_get xs i j hi hj, Nat.add_assoc, hc (i * 4 + j) (by omega), List.getElem?_eq_getElem (by omega)]
  exact ⟨key 0 (by omega), key 1 (by omega), key 2 (by omega), key 3 (by omega)⟩

end Go.Proofs.Ytencoknpocipbaa

namespace Go.Proofs.Ytencoknpocipbaa
open Go.RowKit
set_option maxRecDepth 100000

end Go.Proofs.Ytencoknpocipbaa
