/-
  What a call leaves that may write several blocks. A text cut at the first mark, and its parts; no Go text here. The library's variables that package addr's calls read; strings.Cut and strconv.AppendUint to base ten.
-/
import Derived.Test.YtbdmpjnlgdahmabGreatDoorLotP2
import Derived.Test.YtbdmpjnlgdahmabGreatDoorLotP10
import Derived.Test.YtbdmpjnlgdahmabGreatDoorLotP19
import Derived.Lib.IndexMore
import Derived.Test.YtbdmpjnlgdahmabGreatDoorShelf
import Derived.Lib.LaidTab
import Derived.Shelf.Vars
import Derived.Lib.OwnKind
namespace Go.Proofs.YtbdmpjnlgdahmabGreatDoor
open Go.RowKit
set_option maxRecDepth 100000

/-- Nothing is written but new memory, and the blocks of S. -/
structure GB (w w' : World) (S : Nat → Prop) : Prop where
  os : w'.os = w.os
  tape : w'.tape = w.tape
  output : w'.output = w.output
  size : w.heap.size ≤ w'.heap.size
  block : ∀ i, i < w.heap.size → ¬ S i → w'.heap[i]? = w.heap[i]?

theorem GB.of {w w' : World} {row : Option Nat} {S : Nat → Prop} (h : w.grownBy w' row) (hs : ∀ x, row = some x → S x) : GB w w' S :=
  ⟨h.os, h.tape, h.output, h.size, fun i hi hn => h.block i hi (fun e => hn (hs i e.symm))⟩
theorem GB.non {w w' : World} {S : Nat → Prop} (h : w.grownBy w' none) : GB w w' S := GB.of h (fun x hx => by cases hx)
theorem GB.refl (w : World) (S : Nat → Prop) : GB w w S := ⟨rfl, rfl, rfl, Nat.le_refl _, fun _ _ _ => rfl⟩
theorem GB.trans {w w1 w2 : World} {S S' : Nat → Prop} (h : GB w w1 S) (k : GB w1 w2 S') (hs : ∀ x, x < w.heap.size → S' x → S x) : GB w w2 S :=
  ⟨k.os.trans h.os, k.tape.trans h.tape, k.output.trans h.output, Nat.le_trans h.size k.size, fun i hi hn => (k.block i (Nat.lt_of_lt_of_le hi h.size) (fun e => hn (hs i hi e))).trans (h.block i hi hn)⟩
theorem GB.mono {w w' : World} {S S' : Nat → Prop} (h : GB w w' S) (hs : ∀ x, S x → S' x) : GB w w' S' := ⟨h.os, h.tape, h.output, h.size, fun i hi hn => h.block i hi (fun e => hn (hs i e))⟩
/-- Where S lies in new memory alone. -/
theorem GB.grown {w w' : World} {S : Nat → Prop} (h : GB w w' S) (hs : ∀ x, x < w.heap.size → ¬ S x) : w.grownBy w' none := ⟨h.os, h.tape, h.output, h.size, fun i hi _ => h.block i hi (hs i hi)⟩
theorem GB.one {w w' : World} {S : Nat → Prop} {g : Nat} (h : GB w w' S) (hs : ∀ x, x < w.heap.size → S x → x = g) : w.grownBy w' (some g) := ⟨h.os, h.tape, h.output, h.size, fun i hi hn => h.block i hi (fun e => hn (congrArg some (hs i hi e)))⟩

theorem GB.vat {w w' : World} {S : Nat → Prop} {g t : Nat} {cs : Array Value} (h : GB w w' S) (A : VAt w g t cs) (hg : ¬ S g) : VAt w' g t cs := by
  have := h.block g A.lt hg
  unfold VAt at *
  rw [this, A]
theorem GB.owns {w w' : World} {S : Nat → Prop} {base e size n : Nat} {v : Value} {vs : List Value} (h : GB w w' S) (O : w.ownsRow base e size v n vs) (hv : ∀ x, v.ownBlock = some x → ¬ S x) : w'.ownsRow base e size v n vs := by
  refine ⟨O.1, ?_⟩
  rcases O.2 with h0 | ⟨g, cap, cur, hv', hb, hg, r⟩
  · exact .inl h0
  · right
    refine ⟨g, cap, cur, hv', hb, ?_, r⟩
    have hlt : g < w.heap.size := by
      by_cases hh : g < w.heap.size
      · exact hh
      · rw [Array.getElem?_eq_none (by omega)] at hg; cases hg
    rw [h.block g hlt (hv g (by rw [hv']; rfl)), hg]
theorem GB.cell {w w' : World} {S : Nat → Prop} {ad : Addr} {v : Value} (h : GB w w' S) (hc : w.cell? ad = some v) (ha : ¬ S ad.block) (hlt : ad.block < w.heap.size) : w'.cell? ad = some v := by
  have := h.block ad.block hlt ha
  unfold World.cell? at *
  rw [this]
  exact hc
theorem GB.cells {w w' : World} {S : Nat → Prop} {ao : Option Addr} {xs : List UInt8} (h : GB w w' S) (hc : Cells w ao xs) (ha : ∀ ad, ao = some ad → xs ≠ [] → ¬ S ad.block) : Cells w' ao xs := by
  have hu := hc.under
  refine hc.same fun b off i hb hi => ?_
  have hne : xs ≠ [] := by
    intro e
    rw [e] at hi
    simp at hi
  have h1 := ha _ hb hne
  have h2 := hu _ hb hne
  have := h.block b h2 h1
  unfold World.cell?
  simp only [this]

end Go.Proofs.YtbdmpjnlgdahmabGreatDoor

namespace Go.Proofs.YtbdmpjnlgdahmabGreatDoor
open Go.RowKit
set_option maxRecDepth 100000

theorem idx_none (b : UInt8) (s : List UInt8) (h : b ∉ s) : Lib.index s [b] = -1 := by
  induction s with
  | nil => rfl
  | cons c r ih =>
    have hc : (b == c) = false := by rw [beq_eq_false_iff_ne]; intro e; exact h (by rw [e]; simp)
    rw [Lib.index, show ([b] : List UInt8).isPrefixOf (c :: r) = false by simp [List.isPrefixOf, hc], ih (fun e => h (by simp [e]))]
    rfl
theorem idx_at (b : UInt8) (x y : List UInt8) (h : b ∉ x) : Lib.index (x ++ b :: y) [b] = (x.length : Int) := by
  induction x with
  | nil => simp [Lib.index, List.isPrefixOf]
  | cons c r ih =>
    have hc : (b == c) = false := by rw [beq_eq_false_iff_ne]; intro e; exact h (by rw [e]; simp)
    rw [List.cons_append, Lib.index, show ([b] : List UInt8).isPrefixOf (c :: (r ++ b :: y)) = false by simp [List.isPrefixOf, hc], ih (fun e => h (by simp [e]))]
    have : ((r.length : Int) == -1) = false := by rw [beq_eq_false_iff_ne]; omega
    rw [this]
    simp

/-- A text cut at a letter. -/
theorem cut_one (b : UInt8) (s : List UInt8) : (Lib.cut s [b] = (s, [], false) ∧ splitV b s = [s]) ∨ (∃ x y, Lib.cut s [b] = (x, y, true) ∧ splitV b s = x :: splitV b y ∧ x.length + y.length + 1 = s.length) := by
  by_cases h : b ∈ s
  · right
    obtain ⟨x, y, rfl, hx⟩ := List.eq_append_cons_of_mem h
    refine ⟨x, y, ?_, ?_, ?_⟩
    · rw [Lib.cut, idx_at b x y hx, if_pos (by omega)]
      simp only [Int.toNat_natCast, List.take_left, List.length_cons, List.length_nil]
      rw [← List.drop_drop, List.drop_left]
      rfl
    · unfold splitV
      rw [splitG_piece b [] x y hx]
      rfl
    · simp
      omega
  · left
    refine ⟨?_, ?_⟩
    · rw [Lib.cut, idx_none b s h, if_neg (by decide)]
    · unfold splitV
      rw [splitG_plain b [] s h]
      rfl

theorem idx_gap (s : List UInt8) : Lib.index s [58, 58] = gapI (gapV s) := by
  induction s with
  | nil => rfl
  | cons a r ih =>
    rw [Lib.index, gapV, ih]
    by_cases h : a = 58 ∧ r.head? = some 58
    · rw [if_pos h]
      obtain ⟨rfl, h2⟩ := h
      cases r with
      | nil => cases h2
      | cons c r =>
        simp only [List.head?_cons, Option.some.injEq] at h2
        subst h2
        rw [if_pos (by simp [List.isPrefixOf])]
        rfl
    · rw [if_neg h]
      have hp : ([58, 58] : List UInt8).isPrefixOf (a :: r) = false := by
        cases r with
        | nil => simp [List.isPrefixOf]
        | cons c r =>
          simp only [List.head?_cons, Option.some.injEq] at h
          by_cases ha : a = 58
          · have hc : ((58 : UInt8) == c) = false := by rw [beq_eq_false_iff_ne]; intro e; exact h ⟨ha, e.symm⟩
            simp [List.isPrefixOf, hc]
          · have hc : ((58 : UInt8) == a) = false := by rw [beq_eq_false_iff_ne]; intro e; exact ha e.symm
            simp [List.isPrefixOf, hc]
      rw [hp]
      cases gapV r with
      | none => rfl
      | some k =>
        have : (((k : Nat) : Int) == -1) = false := by rw [beq_eq_false_iff_ne]; omega
        simp only [gapI, Option.map_some, this, Bool.false_eq_true, if_false]
        omega

theorem cut_gap_none (s : List UInt8) (h : gapV s = none) : Lib.cut s [58, 58] = (s, [], false) := by
  rw [Lib.cut, idx_gap, h]
  rfl
theorem cut_gap_some (s : List UInt8) (k : Nat) (h : gapV s = some k) : Lib.cut s [58, 58] = (s.take k, s.drop (k + 2), true) := by
  rw [Lib.cut, idx_gap, h]
  simp [gapI]

/-- Parts, numbered. -/
def numF {α : Type} : Nat → List α → List (Nat × α)
  | _, [] => []
  | i, x :: r => (i, x) :: numF (i + 1) r

theorem numF_len {α : Type} (i : Nat) (l : List α) : (numF i l).length = l.length := by
  induction l generalizing i with
  | nil => rfl
  | cons x r ih => rw [numF, List.length_cons, List.length_cons, ih]
theorem numF_snd {α : Type} (i : Nat) (l : List α) : (numF i l).map (·.2) = l := by
  induction l generalizing i with
  | nil => rfl
  | cons x r ih => rw [numF, List.map_cons, ih]
theorem numF_append {α : Type} (i : Nat) (a b : List α) : numF i (a ++ b) = numF i a ++ numF (i + a.length) b := by
  induction a generalizing i with
  | nil => simp [numF]
  | cons x r ih => rw [List.cons_append, numF, numF, ih, List.length_cons, List.cons_append, show i + 1 + r.length = i + (r.length + 1) by omega]
theorem numF_at {α : Type} (i : Nat) (l : List α) (j : Nat) (h : j < l.length) : (numF i l)[j]? = some (i + j, l[j]) := by
  induction l generalizing i j with
  | nil => simp at h
  | cons x r ih =>
    cases j with
    | zero => rfl
    | succ j =>
      rw [numF, List.getElem?_cons_succ, ih (i + 1) j (by simpa using h)]
      simp
      omega
theorem numF_pre {α : Type} {i : Nat} {l : List α} {pre : List (Nat × α)} (h : pre <+: numF i l) : pre = numF i (pre.map (·.2)) ∧ pre.map (·.2) <+: l := by
  obtain ⟨t, ht⟩ := h
  have hl : (pre.map (·.2)) ++ t.map (·.2) = l := by rw [← List.map_append, ht, numF_snd]
  refine ⟨?_, ⟨_, hl⟩⟩
  have e := numF_append i (pre.map (·.2)) (t.map (·.2))
  rw [hl, ← ht] at e
  have := List.append_inj e (by rw [numF_len, List.length_map])
  exact this.1

end Go.Proofs.YtbdmpjnlgdahmabGreatDoor

namespace Go.Proofs.YtbdmpjnlgdahmabGreatDoor
open Go.RowKit
set_option maxRecDepth 100000

theorem cell_same {w w' : World} (a : Addr) (h : w'.heap[a.block]? = w.heap[a.block]?) : w'.cell? a = w.cell? a := by unfold World.cell?; rw [h]

/-- A length is some number. -/
def TabA (w : World) : Prop := ∃ m, w.cell? ⟨6, 0, none⟩ = some (.int .i64 m)
theorem TabA.len {w : World} (T : TabA w) : ∃ m, w.cell? ⟨6, 0, none⟩ = some (.int .i64 m) := T
theorem TabA.size {w : World} (T : TabA w) : 6 < w.heap.size := by
  obtain ⟨m, this⟩ := T
  by_cases h : 6 < w.heap.size
  · exact h
  · unfold World.cell? at this
    rw [Array.getElem?_eq_none (by simpa using h)] at this
    simp at this
theorem TabA.blocks {w w' : World} (T : TabA w) (h : ∀ k, k ≤ 6 → w'.heap[k]? = w.heap[k]?) : TabA w' := by
  obtain ⟨m, hm⟩ := T
  exact ⟨m, by rw [cell_same ⟨6, 0, none⟩ (h 6 (Nat.le_refl _))]; exact hm⟩

theorem TabA.grown {w w' : World} (T : TabA w) (G : w.grownBy w' none) : TabA w' := T.blocks (fun k hk => G.block k (by have := T.size; omega) (by simp))
theorem TabA.below {w w' : World} {B : Nat} (T : TabA w) (hB : 6 < B) (h : Below B w w') : TabA w' := T.blocks (fun k hk => h.block k (by omega))

/-- What a call leaves that appends to bytes which lie from block B on: all below, and all that are no bytes, as they were. -/
def Ap (B : Nat) (w w' : World) : Prop := Below B w w' ∧ Lib.OthersKept 5 none w w'

theorem Ap.refl (B : Nat) (w : World) : Ap B w w := ⟨Below.refl _ _, Lib.OthersKept.refl _ _ _⟩
theorem Ap.trans {B : Nat} {a b c : World} (h : Ap B a b) (k : Ap B b c) : Ap B a c := ⟨h.1.trans k.1, h.2.trans k.2⟩
theorem Ap.ofNone {B : Nat} {w w' : World} (hB : B ≤ w.heap.size) (G : w.grownBy w' none) : Ap B w w' :=
  ⟨(Below.refl _ _).grown G hB (by simp), (Lib.OthersKept.refl _ _ _).grown G (by simp)⟩
theorem Ap.ofOwn {B n : Nat} {w w' : World} {v : Value} {vs : List Value} (O : w.ownsRow B 5 1 v n vs) (hB : B ≤ w.heap.size) (G : w.grownBy w' v.ownBlock) : Ap B w w' :=
  ⟨(Below.refl _ _).grown G hB (fun k hk => (O.lt k hk).1), (Lib.OthersKept.refl _ _ _).grown G (Lib.ownsRow_kind O)⟩
theorem Ap.none {w w' : World} (h : Ap w.heap.size w w') : w.grownBy w' none := ⟨h.1.os, h.1.tape, h.1.output, h.1.size, fun k hk _ => h.1.block k hk⟩
theorem Ap.heap {B : Nat} {w w' : World} (h : Ap B w w') {b : Nat} {cs : Array Value} {e : TypeId} {fz : Nat × Nat} (hb : w.heap[b]? = some (.cells cs e fz)) (he : e ≠ 5) : w'.heap[b]? = some (.cells cs e fz) :=
  h.2 b _ hb (by simp) (fun c f hc => he (by injection hc))
theorem Ap.size {B : Nat} {w w' : World} (h : Ap B w w') : w.heap.size ≤ w'.heap.size := h.1.size

theorem byteCells_bv (xs : List UInt8) : Lib.byteCells xs = xs.map bv := rfl

/-- strings.Cut at a letter. -/
theorem cut1_any (b : UInt8) (s : List UInt8) (w : World) (hs : s.length < 4294967281) (T : TabA w) :
    Calls Tryz.prog 92 #[str s, .string ⟨#[b]⟩] w fun e w' => (∃ x y m, e = .returned (.tuple #[str x, str y, .bool m]) ∧ ((m = false ∧ x = s ∧ y = [] ∧ splitV b s = [s]) ∨ (m = true ∧ splitV b s = x :: splitV b y ∧ x.length + y.length + 1 = s.length))) ∧ ∃ n, w' = w.drewN n := by
  obtain ⟨m, hm⟩ := T.len
  refine (Tryz.strings_Cut ⟨s.toArray⟩ ⟨#[b]⟩ m w (by rw [← sl_len]; exact hs) hm).mono ?_
  rintro e w' ⟨rfl, n, rfl⟩
  refine ⟨?_, n, rfl⟩
  show ∃ x y m, Ending.returned (.tuple #[str (Lib.cut s [b]).1, str (Lib.cut s [b]).2.1, .bool (Lib.cut s [b]).2.2]) = _ ∧ _
  rcases cut_one b s with ⟨h1, h2⟩ | ⟨x, y, h1, h2, h3⟩
  · rw [h1]
    exact ⟨s, [], false, rfl, .inl ⟨rfl, rfl, rfl, h2⟩⟩
  · rw [h1]
    exact ⟨x, y, true, rfl, .inr ⟨rfl, h2, h3⟩⟩

/-- strings.Cut at two colons. -/
theorem cut2_any (s : List UInt8) (w : World) (hs : s.length < 4294967281) (T : TabA w) :
    Calls Tryz.prog 92 #[str s, .string ⟨#[58, 58]⟩] w fun e w' => (∃ x y m, e = .returned (.tuple #[str x, str y, .bool m]) ∧ ((m = false ∧ gapV s = none ∧ x = s ∧ y = []) ∨ (m = true ∧ ∃ k, gapV s = some k ∧ x = s.take k ∧ y = s.drop (k + 2)))) ∧ ∃ n, w' = w.drewN n := by
  obtain ⟨m, hm⟩ := T.len
  refine (Tryz.strings_Cut ⟨s.toArray⟩ ⟨#[58, 58]⟩ m w (by rw [← sl_len]; exact hs) hm).mono ?_
  rintro e w' ⟨rfl, n, rfl⟩
  refine ⟨?_, n, rfl⟩
  show ∃ x y m, Ending.returned (.tuple #[str (Lib.cut s [58, 58]).1, str (Lib.cut s [58, 58]).2.1, .bool (Lib.cut s [58, 58]).2.2]) = _ ∧ _
  cases hg : gapV s with
  | none =>
    rw [cut_gap_none s hg]
    exact ⟨s, [], false, rfl, .inl ⟨rfl, rfl, rfl, rfl⟩⟩
  | some k =>
    rw [cut_gap_some s k hg]
    exact ⟨_, _, true, rfl, .inr ⟨rfl, k, rfl, rfl, rfl⟩⟩

end Go.Proofs.YtbdmpjnlgdahmabGreatDoor
