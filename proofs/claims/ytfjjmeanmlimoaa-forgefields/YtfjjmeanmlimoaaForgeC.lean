/-
  Rows that grow beside a spec in its block.
-/
import Derived.Test.YtfjjmeanmlimoaaForgeS
import Derived.Test.YtfjjmeanmlimoaaCopy
import Derived.Deep.RegionLaw
namespace Go.Proofs.Ytfjjmeanmlimoaa
open Go.RowKit
set_option maxRecDepth 100000

/-- A spec in a block, a row behind it that is done, and one behind that which grows. -/
structure CI (w : World) (C b1 b2 : Nat) (s : Sp) (a : Option Addr) (ca : Nat) (vl : Value) (ld : List UInt8) (vh : Value) (h : List UInt8) (W : World) : Prop where
  sp : SAt W C s a ca
  ol : Owns W b1 vl ld
  oh : Owns W b2 vh h
  up : w.grownBy W none
  c0 : w.heap.size ≤ C
  c1 : C < b1
  b12 : b1 ≤ b2
  bl : ∀ x, vl.ownBlock = some x → x < b2
  b2w : b2 ≤ W.heap.size

theorem CI.kept {w : World} {C b1 b2 : Nat} {s : Sp} {a : Option Addr} {ca : Nat} {vl : Value} {ld : List UInt8} {vh : Value} {h : List UInt8} {W W' : World} (I : CI w C b1 b2 s a ca vl ld vh h W) (K : W.grownBy W' none) : CI w C b1 b2 s a ca vl ld vh h W' :=
  ⟨I.sp.kept K, owns_keptNone I.ol K, owns_keptNone I.oh K, grown_trans I.up K, I.c0, I.c1, I.b12, I.bl, Nat.le_trans I.b2w K.size⟩

theorem CI.app {w : World} {C b1 b2 : Nat} {s : Sp} {a : Option Addr} {ca : Nat} {vl : Value} {ld : List UInt8} {vh v' : Value} {h h' : List UInt8} {W W' : World} (I : CI w C b1 b2 s a ca vl ld vh h W) (O : Owns W' b2 v' h') (K : W.grownBy W' vh.ownBlock) : CI w C b1 b2 s a ca vl ld v' h' W' := by
  have hc1 := I.c1
  have hb12 := I.b12
  have hc0 := I.c0
  refine ⟨⟨I.sp.1.grown K ?_, I.sp.2⟩, I.ol.kept K ?_, O, grown_trans_new I.up K ?_, I.c0, I.c1, I.b12, I.bl, Nat.le_trans I.b2w K.size⟩
  · intro e
    have := (I.oh.lt C e).1
    omega
  · cases hv : vl.ownBlock with
    | none => exact .inl rfl
    | some x =>
      right
      intro e
      have h1 := I.bl x hv
      have h2 := (I.oh.lt x e.symm).1
      omega
  · intro x hx
    have := (I.oh.lt x hx).1
    omega

/-- A row begins behind what is there. -/
theorem CI.new {w : World} {C b1 : Nat} {s : Sp} {a : Option Addr} {ca : Nat} {vl : Value} {ld h : List UInt8} {W : World} (sp : SAt W C s a ca) (ol : Owns W b1 vl ld) (up : w.grownBy W none) (c0 : w.heap.size ≤ C) (c1 : C < b1) (hb : b1 ≤ W.heap.size) (hh : h.length ≤ maxLen) :
    CI w C b1 W.heap.size s a ca vl ld (.slice (some ⟨W.heap.size, 0, none⟩) h.length h.length) h (W.alloc (.cells (h.map bv).toArray 5)) :=
  ⟨sp.kept (World.grownBy_alloc _ _ _), owns_keptNone ol (World.grownBy_alloc _ _ _), owns_lit W _ (Nat.le_refl _) h hh, grown_trans up (World.grownBy_alloc _ _ _), c0, c1, hb, fun x hx => (ol.lt x hx).2, (World.grownBy_alloc W _ none).size⟩

theorem Owns.cells {w : World} {base : Nat} {v : Value} {xs : List UInt8} (h : Owns w base v xs) : ∃ ao cap, v = .slice ao xs.length cap ∧ Cells w ao xs ∧ (ao = none → cap = 0) := by
  obtain ⟨ao, cap, h1, h2, h3, -⟩ := h.rd
  exact ⟨ao, cap, h1, h2, h3⟩

/-- The beginning of an array of bytes, as a list. -/
theorem range_cells {w : World} {g k : Nat} {xs : List UInt8} (h : w.rangeAt g k (xs.map bv)) (n : Nat) : Cells w (some ⟨g, k, none⟩) (xs.take n) := by
  refine ⟨fun e => (by cases e), fun ad had i hi => ?_⟩
  obtain rfl := Option.some.inj had
  have hx : i < xs.length := by simp at hi; omega
  have := h i (bv xs[i]) (by rw [List.getElem?_map, List.getElem?_eq_getElem hx]; rfl)
  rw [Addr.add_mid, this]
  simp

end Go.Proofs.Ytfjjmeanmlimoaa
