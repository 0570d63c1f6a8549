/-
  The table of powers of ten, what an appended number leaves, and strconv.AppendUint.
-/
import Derived.Test.YtcapmbeabfhjoaaDoorAsmF
import Derived.Test.YtcapmbeabfhjoaaDoorShelf
namespace Go.Proofs.YtcapmbeabfhjoaaDoor
open Go.RowKit
set_option maxRecDepth 100000

theorem tab_global : Tryd.prog.globalNamed "internal/strconv.uint64pow10" = some 1 := by kernel_rfl

/-- The table of powers of ten holds. -/
def Tab (w : World) : Prop := Lib.TabIs Tryd.prog w "internal/strconv.uint64pow10" .u64 Lib.pow10Tab

theorem Tab.block {w w' : World} (T : Tab w) (h : w'.heap[1]? = w.heap[1]?) : Tab w' := by
  unfold Tab Lib.TabIs World.var? at *
  rw [tab_global] at *
  simp only [Option.bind_some] at *
  rw [h]
  exact T
theorem Tab.size {w : World} (T : Tab w) : 1 < w.heap.size := by
  unfold Tab Lib.TabIs World.var? at T
  rw [tab_global] at T
  simp only [Option.bind_some] at T
  by_cases h : 1 < w.heap.size
  · exact h
  · rw [Array.getElem?_eq_none (by omega)] at T
    cases T
theorem Tab.grown {w w' : World} (T : Tab w) (G : w.grownBy w' none) : Tab w' := T.block (G.block 1 T.size (by simp))
theorem Tab.below {w w' : World} {B : Nat} (T : Tab w) (hB : 1 < B) (h : Below B w w') : Tab w' := T.block (h.block 1 hB)

/-- What a call leaves that appends to bytes which lie from block B on: all below, and all that are no bytes, as they were. -/
def Ap (B : Nat) (w w' : World) : Prop := Below B w w' ∧ Lib.OthersKept 5 none w w'

theorem Ap.refl (B : Nat) (w : World) : Ap B w w := ⟨Below.refl _ _, Lib.OthersKept.refl _ _ _⟩
theorem Ap.trans {B : Nat} {a b c : World} (h : Ap B a b) (k : Ap B b c) : Ap B a c := ⟨h.1.trans k.1, h.2.trans k.2⟩
theorem Ap.ofNone {B : Nat} {w w' : World} (hB : B ≤ w.heap.size) (G : w.grownBy w' none) : Ap B w w' :=
  ⟨(Below.refl _ _).grown G hB (by simp), (Lib.OthersKept.refl _ _ _).grown G (by simp)⟩
theorem Ap.ofOwn {B n : Nat} {w w' : World} {v : Value} {vs : List Value} (O : w.ownsRow B 5 1 v n vs) (hB : B ≤ w.heap.size) (G : w.grownBy w' v.ownBlock) : Ap B w w' :=
  ⟨(Below.refl _ _).grown G hB (fun k hk => (O.lt k hk).1), (Lib.OthersKept.refl _ _ _).grown G (Lib.ownsRow_kind O)⟩
theorem Ap.none {w w' : World} (h : Ap w.heap.size w w') : w.grownBy w' none := ⟨h.1.os, h.1.tape, h.1.output, h.1.size, fun k hk _ => h.1.block k hk⟩
theorem Ap.heap {B : Nat} {w w' : World} (h : Ap B w w') {b : Nat} {cs : Array Value} {e : TypeId} {fz : Nat × Nat} (hb : w.heap[b]? = some (.cells cs e fz)) (he : e ≠ 5) : w'.heap[b]? = some (.cells cs e fz) :=
  h.2 b _ hb (by simp) (fun c f hc => he (by injection hc))
theorem Ap.size {B : Nat} {w w' : World} (h : Ap B w w') : w.heap.size ≤ w'.heap.size := h.1.size

theorem byteCells_bv (xs : List UInt8) : Lib.byteCells xs = xs.map bv := rfl

set_option maxHeartbeats 400000 in
theorem append_uint (B u : Nat) (v : Value) (xs : List UInt8) (w : World) (hu : u ≤ 4294967295) (O : Owns w B v xs) (hB : B ≤ w.heap.size) (hl : xs.length + 20 ≤ 140737488355328) (T : Tab w) :
    Calls Tryd.prog 47 #[v, .int .u64 u, .int .i64 10] w fun e w' => ∃ v', e = .returned v' ∧ Owns w' B v' (xs ++ dec u) ∧ Ap B w w' := by
  have h20 : u < 10 ^ 20 := by omega
  have C := Tryd.internal_strconv_AppendUint_10 B xs.length u (by omega) v (xs.map bv) w O hB hl T
  rw [decDigits_dec u h20, byteCells_bv] at C
  clear O T
  go_enter Tryd.func47, Tryd.ntmps47
  go_wp2_with fail
  refine C.mono ?_
  rintro e w' ⟨v', rfl, O', b, k⟩
  clear C
  go_wp2
  go_ret
  exact ⟨v', rfl, by unfold Owns; rw [List.length_append, List.map_append]; exact O', b, k⟩

end Go.Proofs.YtcapmbeabfhjoaaDoor
