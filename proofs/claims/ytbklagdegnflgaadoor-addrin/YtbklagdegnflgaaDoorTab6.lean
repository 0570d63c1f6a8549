/-
  The library's variables that package addr's calls read; strings.Cut and strconv.AppendUint to base ten.
-/
import Derived.Test.YtbklagdegnflgaaDoorAddrH0
import Derived.Test.YtbklagdegnflgaaDoorDec
import Derived.Test.YtbklagdegnflgaaDoorShelf
import Derived.Lib.LaidTab
import Derived.Shelf.Vars
namespace Go.Proofs.YtbklagdegnflgaaDoor
open Go.RowKit
set_option maxRecDepth 100000

theorem tab_global : Tryd.prog.globalNamed "internal/strconv.uint64pow10" = some 0 := by kernel_rfl

/-- The table of powers of ten holds; so does one cell of the table of last ones; a length is some number. -/
def Tab (w : World) : Prop := Lib.TabIs Tryd.prog w "internal/strconv.uint64pow10" .u64 Lib.pow10Tab ∧ w.cell? ⟨3, 15, none⟩ = some (.int .u8 4) ∧ ∃ m, w.cell? ⟨1, 0, none⟩ = some (.int .i64 m)

theorem cell_same {w w' : World} (a : Addr) (h : w'.heap[a.block]? = w.heap[a.block]?) : w'.cell? a = w.cell? a := by unfold World.cell?; rw [h]
theorem Tab.size {w : World} (T : Tab w) : 3 < w.heap.size := by
  have := T.2.1
  by_cases h : 3 < w.heap.size
  · exact h
  · unfold World.cell? at this
    rw [Array.getElem?_eq_none (by simpa using h)] at this
    simp at this
theorem Tab.blocks {w w' : World} (T : Tab w) (h : ∀ k, k ≤ 3 → w'.heap[k]? = w.heap[k]?) : Tab w' := by
  refine ⟨?_, ?_, ?_⟩
  · have := T.1
    unfold Lib.TabIs World.var? at *
    rw [tab_global] at *
    simp only [Option.bind_some] at *
    rw [h 0 (by decide)]
    exact this
  · rw [cell_same ⟨3, 15, none⟩ (h 3 (by decide))]
    exact T.2.1
  · rw [cell_same ⟨1, 0, none⟩ (h 1 (by decide))]
    exact T.2.2
theorem Tab.grown {w w' : World} (T : Tab w) (G : w.grownBy w' none) : Tab w' := T.blocks (fun k hk => G.block k (by have := T.size; omega) (by simp))
theorem Tab.below {w w' : World} {B : Nat} (T : Tab w) (hB : 3 < B) (h : Below B w w') : Tab w' := T.blocks (fun k hk => h.block k (by omega))

/-- What a call leaves that appends to bytes which lie from block B on: all below, and all that are no bytes, as they were. -/
def Ap (B : Nat) (w w' : World) : Prop := Below B w w' ∧ Lib.OthersKept 5 none w w'

theorem Ap.refl (B : Nat) (w : World) : Ap B w w := ⟨Below.refl _ _, Lib.OthersKept.refl _ _ _⟩
theorem Ap.trans {B : Nat} {a b c : World} (h : Ap B a b) (k : Ap B b c) : Ap B a c := ⟨h.1.trans k.1, h.2.trans k.2⟩
theorem Ap.ofNone {B : Nat} {w w' : World} (hB : B ≤ w.heap.size) (G : w.grownBy w' none) : Ap B w w' :=
  ⟨(Below.refl _ _).grown G hB (by simp), (Lib.OthersKept.refl _ _ _).grown G (by simp)⟩
theorem Ap.ofOwn {B n : Nat} {w w' : World} {v : Value} {vs : List Value} (O : w.ownsRow B 5 1 v n vs) (hB : B ≤ w.heap.size) (G : w.grownBy w' v.ownBlock) : Ap B w w' :=
  ⟨(Below.refl _ _).grown G hB (fun k hk => (O.lt k hk).1), (Lib.OthersKept.refl _ _ _).grown G (Lib.ownsRow_kind O)⟩
theorem Ap.none {w w' : World} (h : Ap w.heap.size w w') : w.grownBy w' none := ⟨h.1.os, h.1.tape, h.1.output, h.1.size, fun k hk _ => h.1.block k hk⟩
theorem Ap.heap {B : Nat} {w w' : World} (h : Ap B w w') {b : Nat} {cs : Array Value} {e : TypeId} {fz : Nat × Nat} (hb : w.heap[b]? = some (.cells cs e fz)) (he : e ≠ 5) : w'.heap[b]? = some (.cells cs e fz) :=
  h.2 b _ hb (by simp) (fun c f hc => he (by injection hc))
theorem Ap.size {B : Nat} {w w' : World} (h : Ap B w w') : w.heap.size ≤ w'.heap.size := h.1.size

theorem decDigits_dec (n : Nat) (h : n < 10 ^ 20) : Lib.decDigits n = dec n := by
  induction n using Nat.strongRecOn with
  | _ n ih =>
    rw [Lib.decDigits]
    by_cases h10 : n < 10
    · rw [dif_pos h10]; simp [dec, decF, h10, dg]
    · rw [dif_neg h10, ih (n / 10) (by omega) (by omega), dec_step n h, dec_pos (n / 10) (by omega)]
      rfl

theorem byteCells_bv (xs : List UInt8) : Lib.byteCells xs = xs.map bv := rfl

set_option maxHeartbeats 400000 in
theorem append_uint (B u : Nat) (v : Value) (xs : List UInt8) (w : World) (hu : u ≤ 4294967295) (O : Owns w B v xs) (hB : B ≤ w.heap.size) (hl : xs.length + 20 ≤ 140737488355328) (T : Tab w) :
    Calls Tryd.prog 32 #[v, .int .u64 u, .int .i64 10] w fun e w' => ∃ v', e = .returned v' ∧ Owns w' B v' (xs ++ dec u) ∧ Ap B w w' := by
  have h20 : u < 10 ^ 20 := by omega
  have C := Tryd.internal_strconv_AppendUint_10 B xs.length u (by omega) v (xs.map bv) w O hB hl T.1
  rw [decDigits_dec u h20, byteCells_bv] at C
  clear O T
  go_enter Tryd.func32, Tryd.ntmps32
  go_wp2_with fail
  refine C.mono ?_
  rintro e w' ⟨v', rfl, O', b, k⟩
  clear C
  go_wp2
  go_ret
  exact ⟨v', rfl, by unfold Owns; rw [List.length_append, List.map_append]; exact O', b, k⟩

/-- strings.Cut at a letter. -/
theorem cut1_any (b : UInt8) (s : List UInt8) (w : World) (hs : s.length < 4294967281) (T : Tab w) :
    Calls Tryd.prog 34 #[str s, .string ⟨#[b]⟩] w fun e w' => (∃ x y m, e = .returned (.tuple #[str x, str y, .bool m]) ∧ ((m = false ∧ x = s ∧ y = [] ∧ splitV b s = [s]) ∨ (m = true ∧ splitV b s = x :: splitV b y ∧ x.length + y.length + 1 = s.length))) ∧ ∃ n, w' = w.drewN n := by
  obtain ⟨m, hm⟩ := T.2.2
  refine (Tryd.strings_Cut ⟨s.toArray⟩ ⟨#[b]⟩ m w (by rw [← sl_len]; exact hs) hm).mono ?_
  rintro e w' ⟨rfl, n, rfl⟩
  refine ⟨?_, n, rfl⟩
  show ∃ x y m, Ending.returned (.tuple #[str (Lib.cut s [b]).1, str (Lib.cut s [b]).2.1, .bool (Lib.cut s [b]).2.2]) = _ ∧ _
  rcases cut_one b s with ⟨h1, h2⟩ | ⟨x, y, h1, h2, h3⟩
  · rw [h1]
    exact ⟨s, [], false, rfl, .inl ⟨rfl, rfl, rfl, h2⟩⟩
  · rw [h1]
    exact ⟨x, y, true, rfl, .inr ⟨rfl, h2, h3⟩⟩

/-- strings.Cut at two colons. -/
theorem cut2_any (s : List UInt8) (w : World) (hs : s.length < 4294967281) (T : Tab w) :
    Calls Tryd.prog 34 #[str s, .string ⟨#[58, 58]⟩] w fun e w' => (∃ x y m, e = .returned (.tuple #[str x, str y, .bool m]) ∧ ((m = false ∧ gapV s = none ∧ x = s ∧ y = []) ∨ (m = true ∧ ∃ k, gapV s = some k ∧ x = s.take k ∧ y = s.drop (k + 2)))) ∧ ∃ n, w' = w.drewN n := by
  obtain ⟨m, hm⟩ := T.2.2
  refine (Tryd.strings_Cut ⟨s.toArray⟩ ⟨#[58, 58]⟩ m w (by rw [← sl_len]; exact hs) hm).mono ?_
  rintro e w' ⟨rfl, n, rfl⟩
  refine ⟨?_, n, rfl⟩
  show ∃ x y m, Ending.returned (.tuple #[str (Lib.cut s [58, 58]).1, str (Lib.cut s [58, 58]).2.1, .bool (Lib.cut s [58, 58]).2.2]) = _ ∧ _
  cases hg : gapV s with
  | none =>
    rw [cut_gap_none s hg]
    exact ⟨s, [], false, rfl, .inl ⟨rfl, rfl, rfl, rfl⟩⟩
  | some k =>
    rw [cut_gap_some s k hg]
    exact ⟨_, _, true, rfl, .inr ⟨rfl, k, rfl, rfl, rfl⟩⟩

end Go.Proofs.YtbklagdegnflgaaDoor
