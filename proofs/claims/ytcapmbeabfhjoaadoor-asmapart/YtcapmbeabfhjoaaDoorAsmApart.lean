/-
  For every two instructions riddlelaw3.AsmApart returns true and leaves what was there as it was: no condition.
-/
import Derived.Test.YtcapmbeabfhjoaaDoorOpenI
import Derived.Test.YtcapmbeabfhjoaaDoorAwake3
import Derived.Test.YtcapmbeabfhjoaaDoorLaid
namespace Go.Proofs.YtcapmbeabfhjoaaDoor
open Go.ChangeShapes Go.WideShapes Go.ChangeAt Go.RowKit
open Go.ChangeMaps (open_string shut_string)
set_option maxRecDepth 100000
namespace asmApart

theorem last8 {p0 p1 p2 p3 p4 p5 p6 p7 q : Prop} (h : p0 ∧ p1 ∧ p2 ∧ p3 ∧ p4 ∧ p5 ∧ p6 ∧ p7 ∧ q) : q := h.2.2.2.2.2.2.2.2
theorem last16 {p0 p1 p2 p3 p4 p5 p6 p7 p8 p9 p10 p11 p12 p13 p14 p15 q : Prop} (h : p0 ∧ p1 ∧ p2 ∧ p3 ∧ p4 ∧ p5 ∧ p6 ∧ p7 ∧ p8 ∧ p9 ∧ p10 ∧ p11 ∧ p12 ∧ p13 ∧ p14 ∧ p15 ∧ q) : q := h.2.2.2.2.2.2.2.2.2.2.2.2.2.2.2.2

abbrev Cells4 (b : Nat) (v0 v1 v2 v3 : Value) (W : World) : Prop := W.cell? ⟨b, 0, none⟩ = some v0 ∧ W.cell? ⟨b, 1, none⟩ = some v1 ∧ W.cell? ⟨b, 2, none⟩ = some v2 ∧ W.cell? ⟨b, 3, none⟩ = some v3

theorem c4_call {W W' : World} {b : Nat} {v0 v1 v2 v3 : Value} (K : W.grownBy W' none) (h : Cells4 b v0 v1 v2 v3 W) : Cells4 b v0 v1 v2 v3 W' :=
  ⟨K.cell h.1 (by simp), K.cell h.2.1 (by simp), K.cell h.2.2.1 (by simp), K.cell h.2.2.2 (by simp)⟩
theorem c4_alloc (w : World) (e : TypeId) (v0 v1 v2 v3 : Value) : Cells4 w.heap.size v0 v1 v2 v3 (w.alloc (.cells #[v0, v1, v2, v3] e)) := by
  have h := box4_alloc w e v0 v1 v2 v3
  exact ⟨h.1, h.2.1, h.2.2.1, h.2.2.2.1⟩

/-- What is held: two boxes, or four. -/
def Two (w : World) (c t f k c' t' f' k' : Nat) (W : World) : Prop := Cells4 w.heap.size (.int .u16 c) (.int .u8 t) (.int .u8 f) (.int .u32 k) W ∧ Cells4 (w.heap.size + 1) (.int .u16 c') (.int .u8 t') (.int .u8 f') (.int .u32 k') W ∧ w.grownBy W none
theorem two_call {w W W' : World} {c t f k c' t' f' k' : Nat} (K : W.grownBy W' none) (h : Two w c t f k c' t' f' k' W) : Two w c t f k c' t' f' k' W' := ⟨c4_call K h.1, c4_call K h.2.1, grown_trans h.2.2 K⟩
theorem two_alloc (w : World) (e : TypeId) (c t f k c' t' f' k' : Nat) : Two w c t f k c' t' f' k' ((w.alloc (.cells #[.int .u16 c, .int .u8 t, .int .u8 f, .int .u32 k] e)).alloc (.cells #[.int .u16 c', .int .u8 t', .int .u8 f', .int .u32 k'] e)) := by
  have h := c4_alloc w e (.int .u16 c) (.int .u8 t) (.int .u8 f) (.int .u32 k)
  have q := c4_alloc (w.alloc (.cells #[.int .u16 c, .int .u8 t, .int .u8 f, .int .u32 k] e)) e (.int .u16 c') (.int .u8 t') (.int .u8 f') (.int .u32 k')
  rw [show (w.alloc (.cells #[.int .u16 c, .int .u8 t, .int .u8 f, .int .u32 k] e)).heap.size = w.heap.size + 1 by simp] at q
  exact ⟨c4_call (World.grownBy_alloc _ _ _) h, q, grown_trans (World.grownBy_alloc _ _ _) (World.grownBy_alloc _ _ _)⟩

def Four (w w1 : World) (c t f k c' t' f' k' : Nat) (W : World) : Prop := Two w c t f k c' t' f' k' W ∧ Cells4 w1.heap.size (.int .u16 c) (.int .u8 t) (.int .u8 f) (.int .u32 k') W ∧ Cells4 (w1.heap.size + 1) (.int .u16 c) (.int .u8 t') (.int .u8 f) (.int .u32 k) W
theorem four_call {w w1 W W' : World} {c t f k c' t' f' k' : Nat} (K : W.grownBy W' none) (h : Four w w1 c t f k c' t' f' k' W) : Four w w1 c t f k c' t' f' k' W' := ⟨two_call K h.1, c4_call K h.2.1, c4_call K h.2.2⟩
theorem four_alloc (w w1 : World) (e : TypeId) (c t f k c' t' f' k' : Nat) (h : Two w c t f k c' t' f' k' w1) : Four w w1 c t f k c' t' f' k' ((w1.alloc (.cells #[.int .u16 c, .int .u8 t, .int .u8 f, .int .u32 k'] e)).alloc (.cells #[.int .u16 c, .int .u8 t', .int .u8 f, .int .u32 k] e)).drew := by
  have q := two_alloc w1 e c t f k' c t' f k
  exact four_call (grown_drewN _ 1 none) ⟨two_call (grown_trans (World.grownBy_alloc _ _ _) (World.grownBy_alloc _ _ _)) h, q.1, q.2.1⟩
theorem and16 {w w1 W : World} {c t f k c' t' f' k' : Nat} (h : Four w w1 c t f k c' t' f' k' W) : W.cell? ⟨w.heap.size, 0, none⟩ = some (.int .u16 (c : Int)) ∧ W.cell? ⟨w.heap.size, 1, none⟩ = some (.int .u8 (t : Int)) ∧ W.cell? ⟨w.heap.size, 2, none⟩ = some (.int .u8 (f : Int)) ∧ W.cell? ⟨w.heap.size, 3, none⟩ = some (.int .u32 (k : Int)) ∧ W.cell? ⟨w.heap.size + 1, 0, none⟩ = some (.int .u16 (c' : Int)) ∧ W.cell? ⟨w.heap.size + 1, 1, none⟩ = some (.int .u8 (t' : Int)) ∧ W.cell? ⟨w.heap.size + 1, 2, none⟩ = some (.int .u8 (f' : Int)) ∧ W.cell? ⟨w.heap.size + 1, 3, none⟩ = some (.int .u32 (k' : Int)) ∧ W.cell? ⟨w1.heap.size, 0, none⟩ = some (.int .u16 (c : Int)) ∧ W.cell? ⟨w1.heap.size, 1, none⟩ = some (.int .u8 (t : Int)) ∧ W.cell? ⟨w1.heap.size, 2, none⟩ = some (.int .u8 (f : Int)) ∧ W.cell? ⟨w1.heap.size, 3, none⟩ = some (.int .u32 (k' : Int)) ∧ W.cell? ⟨w1.heap.size + 1, 0, none⟩ = some (.int .u16 (c : Int)) ∧ W.cell? ⟨w1.heap.size + 1, 1, none⟩ = some (.int .u8 (t' : Int)) ∧ W.cell? ⟨w1.heap.size + 1, 2, none⟩ = some (.int .u8 (f : Int)) ∧ W.cell? ⟨w1.heap.size + 1, 3, none⟩ = some (.int .u32 (k : Int)) ∧ w.grownBy W none := by
  obtain ⟨⟨⟨a0, a1, a2, a3⟩, ⟨b0, b1, b2, b3⟩, G⟩, ⟨c0, c1, c2, c3⟩, d0, d1, d2, d3⟩ := h
  exact ⟨a0, a1, a2, a3, b0, b1, b2, b3, c0, c1, c2, c3, d0, d1, d2, d3, G⟩
theorem and16' {w w1 W : World} {c t f k c' t' f' k' : Nat} (h : W.cell? ⟨w.heap.size, 0, none⟩ = some (.int .u16 (c : Int)) ∧ W.cell? ⟨w.heap.size, 1, none⟩ = some (.int .u8 (t : Int)) ∧ W.cell? ⟨w.heap.size, 2, none⟩ = some (.int .u8 (f : Int)) ∧ W.cell? ⟨w.heap.size, 3, none⟩ = some (.int .u32 (k : Int)) ∧ W.cell? ⟨w.heap.size + 1, 0, none⟩ = some (.int .u16 (c' : Int)) ∧ W.cell? ⟨w.heap.size + 1, 1, none⟩ = some (.int .u8 (t' : Int)) ∧ W.cell? ⟨w.heap.size + 1, 2, none⟩ = some (.int .u8 (f' : Int)) ∧ W.cell? ⟨w.heap.size + 1, 3, none⟩ = some (.int .u32 (k' : Int)) ∧ W.cell? ⟨w1.heap.size, 0, none⟩ = some (.int .u16 (c : Int)) ∧ W.cell? ⟨w1.heap.size, 1, none⟩ = some (.int .u8 (t : Int)) ∧ W.cell? ⟨w1.heap.size, 2, none⟩ = some (.int .u8 (f : Int)) ∧ W.cell? ⟨w1.heap.size, 3, none⟩ = some (.int .u32 (k' : Int)) ∧ W.cell? ⟨w1.heap.size + 1, 0, none⟩ = some (.int .u16 (c : Int)) ∧ W.cell? ⟨w1.heap.size + 1, 1, none⟩ = some (.int .u8 (t' : Int)) ∧ W.cell? ⟨w1.heap.size + 1, 2, none⟩ = some (.int .u8 (f : Int)) ∧ W.cell? ⟨w1.heap.size + 1, 3, none⟩ = some (.int .u32 (k : Int)) ∧ w.grownBy W none) : Four w w1 c t f k c' t' f' k' W := by
  obtain ⟨a0, a1, a2, a3, b0, b1, b2, b3, c0, c1, c2, c3, d0, d1, d2, d3, G⟩ := h
  exact ⟨⟨⟨a0, a1, a2, a3⟩, ⟨b0, b1, b2, b3⟩, G⟩, ⟨c0, c1, c2, c3⟩, d0, d1, d2, d3⟩
theorem and8 {w W : World} {c t f k c' t' f' k' : Nat} (h : Two w c t f k c' t' f' k' W) : W.cell? ⟨w.heap.size, 0, none⟩ = some (.int .u16 (c : Int)) ∧ W.cell? ⟨w.heap.size, 1, none⟩ = some (.int .u8 (t : Int)) ∧ W.cell? ⟨w.heap.size, 2, none⟩ = some (.int .u8 (f : Int)) ∧ W.cell? ⟨w.heap.size, 3, none⟩ = some (.int .u32 (k : Int)) ∧ W.cell? ⟨w.heap.size + 1, 0, none⟩ = some (.int .u16 (c' : Int)) ∧ W.cell? ⟨w.heap.size + 1, 1, none⟩ = some (.int .u8 (t' : Int)) ∧ W.cell? ⟨w.heap.size + 1, 2, none⟩ = some (.int .u8 (f' : Int)) ∧ W.cell? ⟨w.heap.size + 1, 3, none⟩ = some (.int .u32 (k' : Int)) ∧ w.grownBy W none := ⟨h.1.1, h.1.2.1, h.1.2.2.1, h.1.2.2.2, h.2.1.1, h.2.1.2.1, h.2.1.2.2.1, h.2.1.2.2.2, h.2.2⟩
theorem and8' {w W : World} {c t f k c' t' f' k' : Nat} (h : W.cell? ⟨w.heap.size, 0, none⟩ = some (.int .u16 (c : Int)) ∧ W.cell? ⟨w.heap.size, 1, none⟩ = some (.int .u8 (t : Int)) ∧ W.cell? ⟨w.heap.size, 2, none⟩ = some (.int .u8 (f : Int)) ∧ W.cell? ⟨w.heap.size, 3, none⟩ = some (.int .u32 (k : Int)) ∧ W.cell? ⟨w.heap.size + 1, 0, none⟩ = some (.int .u16 (c' : Int)) ∧ W.cell? ⟨w.heap.size + 1, 1, none⟩ = some (.int .u8 (t' : Int)) ∧ W.cell? ⟨w.heap.size + 1, 2, none⟩ = some (.int .u8 (f' : Int)) ∧ W.cell? ⟨w.heap.size + 1, 3, none⟩ = some (.int .u32 (k' : Int)) ∧ w.grownBy W none) : Two w c t f k c' t' f' k' W := ⟨⟨h.1, h.2.1, h.2.2.1, h.2.2.2.1⟩, ⟨h.2.2.2.2.1, h.2.2.2.2.2.1, h.2.2.2.2.2.2.1, h.2.2.2.2.2.2.2.1⟩, h.2.2.2.2.2.2.2.2⟩

set_option maxRecDepth 100000 in
set_option maxHeartbeats 4000000 in
theorem walk (x y : In) (w : World) (T : Tab w) :
    Calls Tryd.prog 7 #[.agg x.cells.toArray, .agg y.cells.toArray] w fun e w' => e = .returned (.bool true) ∧ w.grownBy w' none := by
  have HTb : Hid (Tab w) := T
  clear T
  obtain ⟨hc, ht, hf, hk⟩ := x.bounds
  obtain ⟨hc', ht', hf', hk'⟩ := y.bounds
  simp only [In.cells]
  generalize x.code.toNat = c at *
  generalize x.jt.toNat = t at *
  generalize x.jf.toNat = f at *
  generalize x.k.toNat = k at *
  generalize y.code.toNat = c' at *
  generalize y.jt.toNat = t' at *
  generalize y.jf.toNat = f' at *
  generalize y.k.toNat = k' at *
  have T0 := two_alloc w 25 c t f k c' t' f' k'
  have LA : Hid (∀ W : World, Tab W → Calls Tryd.prog 9 #[.agg #[.int .u16 c, .int .u8 t, .int .u8 f, .int .u32 k]] W fun e w' => e = .returned (str (lineN c t f k)) ∧ W.grownBy w' none) := fun W T => line_any c t f k W hc ht hf hk T
  have LB : Hid (∀ W : World, Tab W → Calls Tryd.prog 9 #[.agg #[.int .u16 c', .int .u8 t', .int .u8 f', .int .u32 k']] W fun e w' => e = .returned (str (lineN c' t' f' k')) ∧ W.grownBy w' none) := fun W T => line_any c' t' f' k' W hc' ht' hf' hk' T
  have LC : Hid (∀ W : World, Tab W → Calls Tryd.prog 9 #[.agg #[.int .u16 c, .int .u8 t, .int .u8 f, .int .u32 k']] W fun e w' => e = .returned (str (lineN c t f k')) ∧ W.grownBy w' none) := fun W T => line_any c t f k' W hc ht hf hk' T
  have LD : Hid (∀ W : World, Tab W → Calls Tryd.prog 9 #[.agg #[.int .u16 c, .int .u8 t', .int .u8 f, .int .u32 k]] W fun e w' => e = .returned (str (lineN c t' f k)) ∧ W.grownBy w' none) := fun W T => line_any c t' f k W hc ht' hf hk T
  go_enter Tryd.func7, Tryd.ntmps7
  go_wp2_with fail
  go_region_held3 (fun W => W.cell? ⟨w.heap.size, 0, none⟩ = some (.int .u16 (c : Int)) ∧ W.cell? ⟨w.heap.size, 1, none⟩ = some (.int .u8 (t : Int)) ∧ W.cell? ⟨w.heap.size, 2, none⟩ = some (.int .u8 (f : Int)) ∧ W.cell? ⟨w.heap.size, 3, none⟩ = some (.int .u32 (k : Int)) ∧ W.cell? ⟨w.heap.size + 1, 0, none⟩ = some (.int .u16 (c' : Int)) ∧ W.cell? ⟨w.heap.size + 1, 1, none⟩ = some (.int .u8 (t' : Int)) ∧ W.cell? ⟨w.heap.size + 1, 2, none⟩ = some (.int .u8 (f' : Int)) ∧ W.cell? ⟨w.heap.size + 1, 3, none⟩ = some (.int .u32 (k' : Int)) ∧ w.grownBy W none) (first | exact and8 (two_call K (and8' (by assumption))) | exact and8 (two_call (grown_drewN _ 1 none) T0)) (first | (go_at_call_of 9 (Value.agg #[.int .u16 (c : Int), .int .u8 (t : Int), .int .u8 (f : Int), .int .u32 (k : Int)]); refine (LA.out _ (by exact HTb.out.grown (last8 (by assumption)))).mono ?_; rintro e w' ⟨rfl, K⟩) | (go_at_call_of 9 (Value.agg #[.int .u16 (c' : Int), .int .u8 (t' : Int), .int .u8 (f' : Int), .int .u32 (k' : Int)]); refine (LB.out _ (by exact HTb.out.grown (last8 (by assumption)))).mono ?_; rintro e w' ⟨rfl, K⟩))
  have T1 := and8' (by assumption : w'.cell? ⟨w.heap.size, 0, none⟩ = some (.int .u16 (c : Int)) ∧ w'.cell? ⟨w.heap.size, 1, none⟩ = some (.int .u8 (t : Int)) ∧ w'.cell? ⟨w.heap.size, 2, none⟩ = some (.int .u8 (f : Int)) ∧ w'.cell? ⟨w.heap.size, 3, none⟩ = some (.int .u32 (k : Int)) ∧ w'.cell? ⟨w.heap.size + 1, 0, none⟩ = some (.int .u16 (c' : Int)) ∧ w'.cell? ⟨w.heap.size + 1, 1, none⟩ = some (.int .u8 (t' : Int)) ∧ w'.cell? ⟨w.heap.size + 1, 2, none⟩ = some (.int .u8 (f' : Int)) ∧ w'.cell? ⟨w.heap.size + 1, 3, none⟩ = some (.int .u32 (k' : Int)) ∧ w.grownBy w' none)
  clear T0 K
  generalize w' = w1 at *
  obtain ⟨⟨a0, a1, a2, a3⟩, ⟨b0, b1, b2, b3⟩, G1⟩ := T1
  have b3' : (w1.alloc (.cells #[.int .u16 (c : Int), .int .u8 (t : Int), .int .u8 (f : Int), .int .u32 (k : Int)] 25)).cell? ⟨w.heap.size + 1, 3, none⟩ = some (.int .u32 (k' : Int)) := (World.grownBy_alloc w1 _ none).cell b3 (by simp)
  have a0' : (w1.alloc (.cells #[.int .u16 (c : Int), .int .u8 (t : Int), .int .u8 (f : Int), .int .u32 (k' : Int)] 25)).cell? ⟨w.heap.size, 0, none⟩ = some (.int .u16 (c : Int)) := (World.grownBy_alloc w1 _ none).cell a0 (by simp)
  have a1' : (w1.alloc (.cells #[.int .u16 (c : Int), .int .u8 (t : Int), .int .u8 (f : Int), .int .u32 (k' : Int)] 25)).cell? ⟨w.heap.size, 1, none⟩ = some (.int .u8 (t : Int)) := (World.grownBy_alloc w1 _ none).cell a1 (by simp)
  have a2' : (w1.alloc (.cells #[.int .u16 (c : Int), .int .u8 (t : Int), .int .u8 (f : Int), .int .u32 (k' : Int)] 25)).cell? ⟨w.heap.size, 2, none⟩ = some (.int .u8 (f : Int)) := (World.grownBy_alloc w1 _ none).cell a2 (by simp)
  have a3' : (w1.alloc (.cells #[.int .u16 (c : Int), .int .u8 (t : Int), .int .u8 (f : Int), .int .u32 (k' : Int)] 25)).cell? ⟨w.heap.size, 3, none⟩ = some (.int .u32 (k : Int)) := (World.grownBy_alloc w1 _ none).cell a3 (by simp)
  have b1' : ((w1.alloc (.cells #[.int .u16 (c : Int), .int .u8 (t : Int), .int .u8 (f : Int), .int .u32 (k' : Int)] 25)).alloc (.cells #[.int .u16 (c : Int), .int .u8 (t : Int), .int .u8 (f : Int), .int .u32 (k : Int)] 25)).cell? ⟨w.heap.size + 1, 1, none⟩ = some (.int .u8 (t' : Int)) := (grown_trans (World.grownBy_alloc w1 _ none) (World.grownBy_alloc _ _ none)).cell b1 (by simp)
  have F1 := four_alloc w w1 25 c t f k c' t' f' k' ⟨⟨a0, a1, a2, a3⟩, ⟨b0, b1, b2, b3⟩, G1⟩
  go_wp2
  clear a0 a1 a2 a3 b0 b1 b2 b3 b3' a0' a1' a2' a3' b1'
  by_cases ec : c = c'
  · subst ec
    by_cases et : t = t'
    · subst et
      by_cases ef : f = f'
      · subst ef
        by_cases ek : k = k'
        · subst ek
          go_region_held3 (fun W => W.cell? ⟨w.heap.size, 0, none⟩ = some (.int .u16 (c : Int)) ∧ W.cell? ⟨w.heap.size, 1, none⟩ = some (.int .u8 (t : Int)) ∧ W.cell? ⟨w.heap.size, 2, none⟩ = some (.int .u8 (f : Int)) ∧ W.cell? ⟨w.heap.size, 3, none⟩ = some (.int .u32 (k : Int)) ∧ W.cell? ⟨w.heap.size + 1, 0, none⟩ = some (.int .u16 (c : Int)) ∧ W.cell? ⟨w.heap.size + 1, 1, none⟩ = some (.int .u8 (t : Int)) ∧ W.cell? ⟨w.heap.size + 1, 2, none⟩ = some (.int .u8 (f : Int)) ∧ W.cell? ⟨w.heap.size + 1, 3, none⟩ = some (.int .u32 (k : Int)) ∧ W.cell? ⟨w1.heap.size, 0, none⟩ = some (.int .u16 (c : Int)) ∧ W.cell? ⟨w1.heap.size, 1, none⟩ = some (.int .u8 (t : Int)) ∧ W.cell? ⟨w1.heap.size, 2, none⟩ = some (.int .u8 (f : Int)) ∧ W.cell? ⟨w1.heap.size, 3, none⟩ = some (.int .u32 (k : Int)) ∧ W.cell? ⟨w1.heap.size + 1, 0, none⟩ = some (.int .u16 (c : Int)) ∧ W.cell? ⟨w1.heap.size + 1, 1, none⟩ = some (.int .u8 (t : Int)) ∧ W.cell? ⟨w1.heap.size + 1, 2, none⟩ = some (.int .u8 (f : Int)) ∧ W.cell? ⟨w1.heap.size + 1, 3, none⟩ = some (.int .u32 (k : Int)) ∧ w.grownBy W none) (first | exact and16 (four_call K (and16' (by assumption))) | exact and16 F1) (first | (go_at_call_of 9 (Value.agg #[.int .u16 (c : Int), .int .u8 (t : Int), .int .u8 (f : Int), .int .u32 (k : Int)]); refine (LA.out _ (by exact HTb.out.grown (last16 (by assumption)))).mono ?_; rintro e w' ⟨rfl, K⟩) | (go_at_call_of 9 (Value.agg #[.int .u16 (c : Int), .int .u8 (t : Int), .int .u8 (f : Int), .int .u32 (k : Int)]); refine (LC.out _ (by exact HTb.out.grown (last16 (by assumption)))).mono ?_; rintro e w' ⟨rfl, K⟩) | (go_at_call_of 9 (Value.agg #[.int .u16 (c : Int), .int .u8 (t : Int), .int .u8 (f : Int), .int .u32 (k : Int)]); refine (LD.out _ (by exact HTb.out.grown (last16 (by assumption)))).mono ?_; rintro e w' ⟨rfl, K⟩) | (go_at_call 11; refine (awake3_any _ (by exact HTb.out.grown (last16 (by assumption)))).mono ?_; rintro e w' ⟨rfl, K⟩))
          have GG := (and16' (by assumption) : Four w w1 c t f k c t f k w').1.2.2
          go_wp2
          go_ret
          exact ⟨rfl, GG⟩
        · have iqk : ((k : Int) == (k' : Int)) = false := by rw [beq_eq_false_iff_ne]; omega
          have jqk : ((k' : Int) == (k : Int)) = false := by rw [beq_eq_false_iff_ne]; omega
          have mqk : (k == k') = false := by rw [beq_eq_false_iff_ne]; exact ek
          have oqk : (k' == k) = false := by rw [beq_eq_false_iff_ne]; exact fun h => ek h.symm
          have n1 : (lineN c t f k == lineN c t f k') = false := by
            rw [beq_eq_false_iff_ne]
            intro h
            have := lineN_inj hc ht hf hk hc ht hf hk' h
            exact ek this.2.2.2
          have n2 : (lineN c t f k' == lineN c t f k) = false := by
            rw [beq_eq_false_iff_ne]
            intro h
            have := lineN_inj hc ht hf hk' hc ht hf hk h
            exact ek this.2.2.2.symm
          go_region_held3 (fun W => W.cell? ⟨w.heap.size, 0, none⟩ = some (.int .u16 (c : Int)) ∧ W.cell? ⟨w.heap.size, 1, none⟩ = some (.int .u8 (t : Int)) ∧ W.cell? ⟨w.heap.size, 2, none⟩ = some (.int .u8 (f : Int)) ∧ W.cell? ⟨w.heap.size, 3, none⟩ = some (.int .u32 (k : Int)) ∧ W.cell? ⟨w.heap.size + 1, 0, none⟩ = some (.int .u16 (c : Int)) ∧ W.cell? ⟨w.heap.size + 1, 1, none⟩ = some (.int .u8 (t : Int)) ∧ W.cell? ⟨w.heap.size + 1, 2, none⟩ = some (.int .u8 (f : Int)) ∧ W.cell? ⟨w.heap.size + 1, 3, none⟩ = some (.int .u32 (k' : Int)) ∧ W.cell? ⟨w1.heap.size, 0, none⟩ = some (.int .u16 (c : Int)) ∧ W.cell? ⟨w1.heap.size, 1, none⟩ = some (.int .u8 (t : Int)) ∧ W.cell? ⟨w1.heap.size, 2, none⟩ = some (.int .u8 (f : Int)) ∧ W.cell? ⟨w1.heap.size, 3, none⟩ = some (.int .u32 (k' : Int)) ∧ W.cell? ⟨w1.heap.size + 1, 0, none⟩ = some (.int .u16 (c : Int)) ∧ W.cell? ⟨w1.heap.size + 1, 1, none⟩ = some (.int .u8 (t : Int)) ∧ W.cell? ⟨w1.heap.size + 1, 2, none⟩ = some (.int .u8 (f : Int)) ∧ W.cell? ⟨w1.heap.size + 1, 3, none⟩ = some (.int .u32 (k : Int)) ∧ w.grownBy W none) (first | exact and16 (four_call K (and16' (by assumption))) | exact and16 F1) (first | (go_at_call_of 9 (Value.agg #[.int .u16 (c : Int), .int .u8 (t : Int), .int .u8 (f : Int), .int .u32 (k : Int)]); refine (LA.out _ (by exact HTb.out.grown (last16 (by assumption)))).mono ?_; rintro e w' ⟨rfl, K⟩) | (go_at_call_of 9 (Value.agg #[.int .u16 (c : Int), .int .u8 (t : Int), .int .u8 (f : Int), .int .u32 (k' : Int)]); refine (LC.out _ (by exact HTb.out.grown (last16 (by assumption)))).mono ?_; rintro e w' ⟨rfl, K⟩) | (go_at_call_of 9 (Value.agg #[.int .u16 (c : Int), .int .u8 (t : Int), .int .u8 (f : Int), .int .u32 (k : Int)]); refine (LD.out _ (by exact HTb.out.grown (last16 (by assumption)))).mono ?_; rintro e w' ⟨rfl, K⟩) | (go_at_call 11; refine (awake3_any _ (by exact HTb.out.grown (last16 (by assumption)))).mono ?_; rintro e w' ⟨rfl, K⟩))
          have GG := (and16' (by assumption) : Four w w1 c t f k c t f k' w').1.2.2
          go_wp2
          go_ret
          exact ⟨rfl, GG⟩
      · have iqf : ((f : Int) == (f' : Int)) = false := by rw [beq_eq_false_iff_ne]; omega
        have jqf : ((f' : Int) == (f : Int)) = false := by rw [beq_eq_false_iff_ne]; omega
        have mqf : (f == f') = false := by rw [beq_eq_false_iff_ne]; exact ef
        have oqf : (f' == f) = false := by rw [beq_eq_false_iff_ne]; exact fun h => ef h.symm
        by_cases ek : k = k'
        · subst ek
          have n1 : (lineN c t f k == lineN c t f' k) = false := by
            rw [beq_eq_false_iff_ne]
            intro h
            have := lineN_inj hc ht hf hk hc ht hf' hk h
            exact ef this.2.2.1
          go_region_held3 (fun W => W.cell? ⟨w.heap.size, 0, none⟩ = some (.int .u16 (c : Int)) ∧ W.cell? ⟨w.heap.size, 1, none⟩ = some (.int .u8 (t : Int)) ∧ W.cell? ⟨w.heap.size, 2, none⟩ = some (.int .u8 (f : Int)) ∧ W.cell? ⟨w.heap.size, 3, none⟩ = some (.int .u32 (k : Int)) ∧ W.cell? ⟨w.heap.size + 1, 0, none⟩ = some (.int .u16 (c : Int)) ∧ W.cell? ⟨w.heap.size + 1, 1, none⟩ = some (.int .u8 (t : Int)) ∧ W.cell? ⟨w.heap.size + 1, 2, none⟩ = some (.int .u8 (f' : Int)) ∧ W.cell? ⟨w.heap.size + 1, 3, none⟩ = some (.int .u32 (k : Int)) ∧ W.cell? ⟨w1.heap.size, 0, none⟩ = some (.int .u16 (c : Int)) ∧ W.cell? ⟨w1.heap.size, 1, none⟩ = some (.int .u8 (t : Int)) ∧ W.cell? ⟨w1.heap.size, 2, none⟩ = some (.int .u8 (f : Int)) ∧ W.cell? ⟨w1.heap.size, 3, none⟩ = some (.int .u32 (k : Int)) ∧ W.cell? ⟨w1.heap.size + 1, 0, none⟩ = some (.int .u16 (c : Int)) ∧ W.cell? ⟨w1.heap.size + 1, 1, none⟩ = some (.int .u8 (t : Int)) ∧ W.cell? ⟨w1.heap.size + 1, 2, none⟩ = some (.int .u8 (f : Int)) ∧ W.cell? ⟨w1.heap.size + 1, 3, none⟩ = some (.int .u32 (k : Int)) ∧ w.grownBy W none) (first | exact and16 (four_call K (and16' (by assumption))) | exact and16 F1) (first | (go_at_call_of 9 (Value.agg #[.int .u16 (c : Int), .int .u8 (t : Int), .int .u8 (f : Int), .int .u32 (k : Int)]); refine (LA.out _ (by exact HTb.out.grown (last16 (by assumption)))).mono ?_; rintro e w' ⟨rfl, K⟩) | (go_at_call_of 9 (Value.agg #[.int .u16 (c : Int), .int .u8 (t : Int), .int .u8 (f : Int), .int .u32 (k : Int)]); refine (LC.out _ (by exact HTb.out.grown (last16 (by assumption)))).mono ?_; rintro e w' ⟨rfl, K⟩) | (go_at_call_of 9 (Value.agg #[.int .u16 (c : Int), .int .u8 (t : Int), .int .u8 (f : Int), .int .u32 (k : Int)]); refine (LD.out _ (by exact HTb.out.grown (last16 (by assumption)))).mono ?_; rintro e w' ⟨rfl, K⟩) | (go_at_call 11; refine (awake3_any _ (by exact HTb.out.grown (last16 (by assumption)))).mono ?_; rintro e w' ⟨rfl, K⟩))
          have GG := (and16' (by assumption) : Four w w1 c t f k c t f' k w').1.2.2
          go_wp2
          go_ret
          exact ⟨rfl, GG⟩
        · have iqk : ((k : Int) == (k' : Int)) = false := by rw [beq_eq_false_iff_ne]; omega
          have jqk : ((k' : Int) == (k : Int)) = false := by rw [beq_eq_false_iff_ne]; omega
          have mqk : (k == k') = false := by rw [beq_eq_false_iff_ne]; exact ek
          have oqk : (k' == k) = false := by rw [beq_eq_false_iff_ne]; exact fun h => ek h.symm
          have n1 : (lineN c t f k == lineN c t f' k') = false := by
            rw [beq_eq_false_iff_ne]
            intro h
            have := lineN_inj hc ht hf hk hc ht hf' hk' h
            exact ef this.2.2.1
          have n2 : (lineN c t f k' == lineN c t f k) = false := by
            rw [beq_eq_false_iff_ne]
            intro h
            have := lineN_inj hc ht hf hk' hc ht hf hk h
            exact ek this.2.2.2.symm
          go_region_held3 (fun W => W.cell? ⟨w.heap.size, 0, none⟩ = some (.int .u16 (c : Int)) ∧ W.cell? ⟨w.heap.size, 1, none⟩ = some (.int .u8 (t : Int)) ∧ W.cell? ⟨w.heap.size, 2, none⟩ = some (.int .u8 (f : Int)) ∧ W.cell? ⟨w.heap.size, 3, none⟩ = some (.int .u32 (k : Int)) ∧ W.cell? ⟨w.heap.size + 1, 0, none⟩ = some (.int .u16 (c : Int)) ∧ W.cell? ⟨w.heap.size + 1, 1, none⟩ = some (.int .u8 (t : Int)) ∧ W.cell? ⟨w.heap.size + 1, 2, none⟩ = some (.int .u8 (f' : Int)) ∧ W.cell? ⟨w.heap.size + 1, 3, none⟩ = some (.int .u32 (k' : Int)) ∧ W.cell? ⟨w1.heap.size, 0, none⟩ = some (.int .u16 (c : Int)) ∧ W.cell? ⟨w1.heap.size, 1, none⟩ = some (.int .u8 (t : Int)) ∧ W.cell? ⟨w1.heap.size, 2, none⟩ = some (.int .u8 (f : Int)) ∧ W.cell? ⟨w1.heap.size, 3, none⟩ = some (.int .u32 (k' : Int)) ∧ W.cell? ⟨w1.heap.size + 1, 0, none⟩ = some (.int .u16 (c : Int)) ∧ W.cell? ⟨w1.heap.size + 1, 1, none⟩ = some (.int .u8 (t : Int)) ∧ W.cell? ⟨w1.heap.size + 1, 2, none⟩ = some (.int .u8 (f : Int)) ∧ W.cell? ⟨w1.heap.size + 1, 3, none⟩ = some (.int .u32 (k : Int)) ∧ w.grownBy W none) (first | exact and16 (four_call K (and16' (by assumption))) | exact and16 F1) (first | (go_at_call_of 9 (Value.agg #[.int .u16 (c : Int), .int .u8 (t : Int), .int .u8 (f : Int), .int .u32 (k : Int)]); refine (LA.out _ (by exact HTb.out.grown (last16 (by assumption)))).mono ?_; rintro e w' ⟨rfl, K⟩) | (go_at_call_of 9 (Value.agg #[.int .u16 (c : Int), .int .u8 (t : Int), .int .u8 (f : Int), .int .u32 (k' : Int)]); refine (LC.out _ (by exact HTb.out.grown (last16 (by assumption)))).mono ?_; rintro e w' ⟨rfl, K⟩) | (go_at_call_of 9 (Value.agg #[.int .u16 (c : Int), .int .u8 (t : Int), .int .u8 (f : Int), .int .u32 (k : Int)]); refine (LD.out _ (by exact HTb.out.grown (last16 (by assumption)))).mono ?_; rintro e w' ⟨rfl, K⟩) | (go_at_call 11; refine (awake3_any _ (by exact HTb.out.grown (last16 (by assumption)))).mono ?_; rintro e w' ⟨rfl, K⟩))
          have GG := (and16' (by assumption) : Four w w1 c t f k c t f' k' w').1.2.2
          go_wp2
          go_ret
          exact ⟨rfl, GG⟩
    · have iqt : ((t : Int) == (t' : Int)) = false := by rw [beq_eq_false_iff_ne]; omega
      have jqt : ((t' : Int) == (t : Int)) = false := by rw [beq_eq_false_iff_ne]; omega
      have mqt : (t == t') = false := by rw [beq_eq_false_iff_ne]; exact et
      have oqt : (t' == t) = false := by rw [beq_eq_false_iff_ne]; exact fun h => et h.symm
      by_cases ek : k = k'
      · subst ek
        have n1 : (lineN c t f k == lineN c t' f' k) = false := by
          rw [beq_eq_false_iff_ne]
          intro h
          have := lineN_inj hc ht hf hk hc ht' hf' hk h
          exact et this.2.1
        have n3 : (lineN c t' f k == lineN c t f k) = false := by
          rw [beq_eq_false_iff_ne]
          intro h
          have := lineN_inj hc ht' hf hk hc ht hf hk h
          exact et this.2.1.symm
        go_region_held3 (fun W => W.cell? ⟨w.heap.size, 0, none⟩ = some (.int .u16 (c : Int)) ∧ W.cell? ⟨w.heap.size, 1, none⟩ = some (.int .u8 (t : Int)) ∧ W.cell? ⟨w.heap.size, 2, none⟩ = some (.int .u8 (f : Int)) ∧ W.cell? ⟨w.heap.size, 3, none⟩ = some (.int .u32 (k : Int)) ∧ W.cell? ⟨w.heap.size + 1, 0, none⟩ = some (.int .u16 (c : Int)) ∧ W.cell? ⟨w.heap.size + 1, 1, none⟩ = some (.int .u8 (t' : Int)) ∧ W.cell? ⟨w.heap.size + 1, 2, none⟩ = some (.int .u8 (f' : Int)) ∧ W.cell? ⟨w.heap.size + 1, 3, none⟩ = some (.int .u32 (k : Int)) ∧ W.cell? ⟨w1.heap.size, 0, none⟩ = some (.int .u16 (c : Int)) ∧ W.cell? ⟨w1.heap.size, 1, none⟩ = some (.int .u8 (t : Int)) ∧ W.cell? ⟨w1.heap.size, 2, none⟩ = some (.int .u8 (f : Int)) ∧ W.cell? ⟨w1.heap.size, 3, none⟩ = some (.int .u32 (k : Int)) ∧ W.cell? ⟨w1.heap.size + 1, 0, none⟩ = some (.int .u16 (c : Int)) ∧ W.cell? ⟨w1.heap.size + 1, 1, none⟩ = some (.int .u8 (t' : Int)) ∧ W.cell? ⟨w1.heap.size + 1, 2, none⟩ = some (.int .u8 (f : Int)) ∧ W.cell? ⟨w1.heap.size + 1, 3, none⟩ = some (.int .u32 (k : Int)) ∧ w.grownBy W none) (first | exact and16 (four_call K (and16' (by assumption))) | exact and16 F1) (first | (go_at_call_of 9 (Value.agg #[.int .u16 (c : Int), .int .u8 (t : Int), .int .u8 (f : Int), .int .u32 (k : Int)]); refine (LA.out _ (by exact HTb.out.grown (last16 (by assumption)))).mono ?_; rintro e w' ⟨rfl, K⟩) | (go_at_call_of 9 (Value.agg #[.int .u16 (c : Int), .int .u8 (t : Int), .int .u8 (f : Int), .int .u32 (k : Int)]); refine (LC.out _ (by exact HTb.out.grown (last16 (by assumption)))).mono ?_; rintro e w' ⟨rfl, K⟩) | (go_at_call_of 9 (Value.agg #[.int .u16 (c : Int), .int .u8 (t' : Int), .int .u8 (f : Int), .int .u32 (k : Int)]); refine (LD.out _ (by exact HTb.out.grown (last16 (by assumption)))).mono ?_; rintro e w' ⟨rfl, K⟩) | (go_at_call 11; refine (awake3_any _ (by exact HTb.out.grown (last16 (by assumption)))).mono ?_; rintro e w' ⟨rfl, K⟩))
        have GG := (and16' (by assumption) : Four w w1 c t f k c t' f' k w').1.2.2
        go_wp2
        go_ret
        exact ⟨rfl, GG⟩
      · have iqk : ((k : Int) == (k' : Int)) = false := by rw [beq_eq_false_iff_ne]; omega
        have jqk : ((k' : Int) == (k : Int)) = false := by rw [beq_eq_false_iff_ne]; omega
        have mqk : (k == k') = false := by rw [beq_eq_false_iff_ne]; exact ek
        have oqk : (k' == k) = false := by rw [beq_eq_false_iff_ne]; exact fun h => ek h.symm
        have n1 : (lineN c t f k == lineN c t' f' k') = false := by
          rw [beq_eq_false_iff_ne]
          intro h
          have := lineN_inj hc ht hf hk hc ht' hf' hk' h
          exact et this.2.1
        have n2 : (lineN c t f k' == lineN c t f k) = false := by
          rw [beq_eq_false_iff_ne]
          intro h
          have := lineN_inj hc ht hf hk' hc ht hf hk h
          exact ek this.2.2.2.symm
        have n3 : (lineN c t' f k == lineN c t f k) = false := by
          rw [beq_eq_false_iff_ne]
          intro h
          have := lineN_inj hc ht' hf hk hc ht hf hk h
          exact et this.2.1.symm
        go_region_held3 (fun W => W.cell? ⟨w.heap.size, 0, none⟩ = some (.int .u16 (c : Int)) ∧ W.cell? ⟨w.heap.size, 1, none⟩ = some (.int .u8 (t : Int)) ∧ W.cell? ⟨w.heap.size, 2, none⟩ = some (.int .u8 (f : Int)) ∧ W.cell? ⟨w.heap.size, 3, none⟩ = some (.int .u32 (k : Int)) ∧ W.cell? ⟨w.heap.size + 1, 0, none⟩ = some (.int .u16 (c : Int)) ∧ W.cell? ⟨w.heap.size + 1, 1, none⟩ = some (.int .u8 (t' : Int)) ∧ W.cell? ⟨w.heap.size + 1, 2, none⟩ = some (.int .u8 (f' : Int)) ∧ W.cell? ⟨w.heap.size + 1, 3, none⟩ = some (.int .u32 (k' : Int)) ∧ W.cell? ⟨w1.heap.size, 0, none⟩ = some (.int .u16 (c : Int)) ∧ W.cell? ⟨w1.heap.size, 1, none⟩ = some (.int .u8 (t : Int)) ∧ W.cell? ⟨w1.heap.size, 2, none⟩ = some (.int .u8 (f : Int)) ∧ W.cell? ⟨w1.heap.size, 3, none⟩ = some (.int .u32 (k' : Int)) ∧ W.cell? ⟨w1.heap.size + 1, 0, none⟩ = some (.int .u16 (c : Int)) ∧ W.cell? ⟨w1.heap.size + 1, 1, none⟩ = some (.int .u8 (t' : Int)) ∧ W.cell? ⟨w1.heap.size + 1, 2, none⟩ = some (.int .u8 (f : Int)) ∧ W.cell? ⟨w1.heap.size + 1, 3, none⟩ = some (.int .u32 (k : Int)) ∧ w.grownBy W none) (first | exact and16 (four_call K (and16' (by assumption))) | exact and16 F1) (first | (go_at_call_of 9 (Value.agg #[.int .u16 (c : Int), .int .u8 (t : Int), .int .u8 (f : Int), .int .u32 (k : Int)]); refine (LA.out _ (by exact HTb.out.grown (last16 (by assumption)))).mono ?_; rintro e w' ⟨rfl, K⟩) | (go_at_call_of 9 (Value.agg #[.int .u16 (c : Int), .int .u8 (t : Int), .int .u8 (f : Int), .int .u32 (k' : Int)]); refine (LC.out _ (by exact HTb.out.grown (last16 (by assumption)))).mono ?_; rintro e w' ⟨rfl, K⟩) | (go_at_call_of 9 (Value.agg #[.int .u16 (c : Int), .int .u8 (t' : Int), .int .u8 (f : Int), .int .u32 (k : Int)]); refine (LD.out _ (by exact HTb.out.grown (last16 (by assumption)))).mono ?_; rintro e w' ⟨rfl, K⟩) | (go_at_call 11; refine (awake3_any _ (by exact HTb.out.grown (last16 (by assumption)))).mono ?_; rintro e w' ⟨rfl, K⟩))
        have GG := (and16' (by assumption) : Four w w1 c t f k c t' f' k' w').1.2.2
        go_wp2
        go_ret
        exact ⟨rfl, GG⟩
  · have iqc : ((c : Int) == (c' : Int)) = false := by rw [beq_eq_false_iff_ne]; omega
    have jqc : ((c' : Int) == (c : Int)) = false := by rw [beq_eq_false_iff_ne]; omega
    have mqc : (c == c') = false := by rw [beq_eq_false_iff_ne]; exact ec
    have oqc : (c' == c) = false := by rw [beq_eq_false_iff_ne]; exact fun h => ec h.symm
    by_cases et : t = t'
    · subst et
      by_cases ek : k = k'
      · subst ek
        have n1 : (lineN c t f k == lineN c' t f' k) = false := by
          rw [beq_eq_false_iff_ne]
          intro h
          have := lineN_inj hc ht hf hk hc' ht hf' hk h
          exact ec this.1
        go_region_held3 (fun W => W.cell? ⟨w.heap.size, 0, none⟩ = some (.int .u16 (c : Int)) ∧ W.cell? ⟨w.heap.size, 1, none⟩ = some (.int .u8 (t : Int)) ∧ W.cell? ⟨w.heap.size, 2, none⟩ = some (.int .u8 (f : Int)) ∧ W.cell? ⟨w.heap.size, 3, none⟩ = some (.int .u32 (k : Int)) ∧ W.cell? ⟨w.heap.size + 1, 0, none⟩ = some (.int .u16 (c' : Int)) ∧ W.cell? ⟨w.heap.size + 1, 1, none⟩ = some (.int .u8 (t : Int)) ∧ W.cell? ⟨w.heap.size + 1, 2, none⟩ = some (.int .u8 (f' : Int)) ∧ W.cell? ⟨w.heap.size + 1, 3, none⟩ = some (.int .u32 (k : Int)) ∧ W.cell? ⟨w1.heap.size, 0, none⟩ = some (.int .u16 (c : Int)) ∧ W.cell? ⟨w1.heap.size, 1, none⟩ = some (.int .u8 (t : Int)) ∧ W.cell? ⟨w1.heap.size, 2, none⟩ = some (.int .u8 (f : Int)) ∧ W.cell? ⟨w1.heap.size, 3, none⟩ = some (.int .u32 (k : Int)) ∧ W.cell? ⟨w1.heap.size + 1, 0, none⟩ = some (.int .u16 (c : Int)) ∧ W.cell? ⟨w1.heap.size + 1, 1, none⟩ = some (.int .u8 (t : Int)) ∧ W.cell? ⟨w1.heap.size + 1, 2, none⟩ = some (.int .u8 (f : Int)) ∧ W.cell? ⟨w1.heap.size + 1, 3, none⟩ = some (.int .u32 (k : Int)) ∧ w.grownBy W none) (first | exact and16 (four_call K (and16' (by assumption))) | exact and16 F1) (first | (go_at_call_of 9 (Value.agg #[.int .u16 (c : Int), .int .u8 (t : Int), .int .u8 (f : Int), .int .u32 (k : Int)]); refine (LA.out _ (by exact HTb.out.grown (last16 (by assumption)))).mono ?_; rintro e w' ⟨rfl, K⟩) | (go_at_call_of 9 (Value.agg #[.int .u16 (c : Int), .int .u8 (t : Int), .int .u8 (f : Int), .int .u32 (k : Int)]); refine (LC.out _ (by exact HTb.out.grown (last16 (by assumption)))).mono ?_; rintro e w' ⟨rfl, K⟩) | (go_at_call_of 9 (Value.agg #[.int .u16 (c : Int), .int .u8 (t : Int), .int .u8 (f : Int), .int .u32 (k : Int)]); refine (LD.out _ (by exact HTb.out.grown (last16 (by assumption)))).mono ?_; rintro e w' ⟨rfl, K⟩) | (go_at_call 11; refine (awake3_any _ (by exact HTb.out.grown (last16 (by assumption)))).mono ?_; rintro e w' ⟨rfl, K⟩))
        have GG := (and16' (by assumption) : Four w w1 c t f k c' t f' k w').1.2.2
        go_wp2
        go_ret
        exact ⟨rfl, GG⟩
      · have iqk : ((k : Int) == (k' : Int)) = false := by rw [beq_eq_false_iff_ne]; omega
        have jqk : ((k' : Int) == (k : Int)) = false := by rw [beq_eq_false_iff_ne]; omega
        have mqk : (k == k') = false := by rw [beq_eq_false_iff_ne]; exact ek
        have oqk : (k' == k) = false := by rw [beq_eq_false_iff_ne]; exact fun h => ek h.symm
        have n1 : (lineN c t f k == lineN c' t f' k') = false := by
          rw [beq_eq_false_iff_ne]
          intro h
          have := lineN_inj hc ht hf hk hc' ht hf' hk' h
          exact ec this.1
        have n2 : (lineN c t f k' == lineN c t f k) = false := by
          rw [beq_eq_false_iff_ne]
          intro h
          have := lineN_inj hc ht hf hk' hc ht hf hk h
          exact ek this.2.2.2.symm
        go_region_held3 (fun W => W.cell? ⟨w.heap.size, 0, none⟩ = some (.int .u16 (c : Int)) ∧ W.cell? ⟨w.heap.size, 1, none⟩ = some (.int .u8 (t : Int)) ∧ W.cell? ⟨w.heap.size, 2, none⟩ = some (.int .u8 (f : Int)) ∧ W.cell? ⟨w.heap.size, 3, none⟩ = some (.int .u32 (k : Int)) ∧ W.cell? ⟨w.heap.size + 1, 0, none⟩ = some (.int .u16 (c' : Int)) ∧ W.cell? ⟨w.heap.size + 1, 1, none⟩ = some (.int .u8 (t : Int)) ∧ W.cell? ⟨w.heap.size + 1, 2, none⟩ = some (.int .u8 (f' : Int)) ∧ W.cell? ⟨w.heap.size + 1, 3, none⟩ = some (.int .u32 (k' : Int)) ∧ W.cell? ⟨w1.heap.size, 0, none⟩ = some (.int .u16 (c : Int)) ∧ W.cell? ⟨w1.heap.size, 1, none⟩ = some (.int .u8 (t : Int)) ∧ W.cell? ⟨w1.heap.size, 2, none⟩ = some (.int .u8 (f : Int)) ∧ W.cell? ⟨w1.heap.size, 3, none⟩ = some (.int .u32 (k' : Int)) ∧ W.cell? ⟨w1.heap.size + 1, 0, none⟩ = some (.int .u16 (c : Int)) ∧ W.cell? ⟨w1.heap.size + 1, 1, none⟩ = some (.int .u8 (t : Int)) ∧ W.cell? ⟨w1.heap.size + 1, 2, none⟩ = some (.int .u8 (f : Int)) ∧ W.cell? ⟨w1.heap.size + 1, 3, none⟩ = some (.int .u32 (k : Int)) ∧ w.grownBy W none) (first | exact and16 (four_call K (and16' (by assumption))) | exact and16 F1) (first | (go_at_call_of 9 (Value.agg #[.int .u16 (c : Int), .int .u8 (t : Int), .int .u8 (f : Int), .int .u32 (k : Int)]); refine (LA.out _ (by exact HTb.out.grown (last16 (by assumption)))).mono ?_; rintro e w' ⟨rfl, K⟩) | (go_at_call_of 9 (Value.agg #[.int .u16 (c : Int), .int .u8 (t : Int), .int .u8 (f : Int), .int .u32 (k' : Int)]); refine (LC.out _ (by exact HTb.out.grown (last16 (by assumption)))).mono ?_; rintro e w' ⟨rfl, K⟩) | (go_at_call_of 9 (Value.agg #[.int .u16 (c : Int), .int .u8 (t : Int), .int .u8 (f : Int), .int .u32 (k : Int)]); refine (LD.out _ (by exact HTb.out.grown (last16 (by assumption)))).mono ?_; rintro e w' ⟨rfl, K⟩) | (go_at_call 11; refine (awake3_any _ (by exact HTb.out.grown (last16 (by assumption)))).mono ?_; rintro e w' ⟨rfl, K⟩))
        have GG := (and16' (by assumption) : Four w w1 c t f k c' t f' k' w').1.2.2
        go_wp2
        go_ret
        exact ⟨rfl, GG⟩
    · have iqt : ((t : Int) == (t' : Int)) = false := by rw [beq_eq_false_iff_ne]; omega
      have jqt : ((t' : Int) == (t : Int)) = false := by rw [beq_eq_false_iff_ne]; omega
      have mqt : (t == t') = false := by rw [beq_eq_false_iff_ne]; exact et
      have oqt : (t' == t) = false := by rw [beq_eq_false_iff_ne]; exact fun h => et h.symm
      by_cases ek : k = k'
      · subst ek
        have n1 : (lineN c t f k == lineN c' t' f' k) = false := by
          rw [beq_eq_false_iff_ne]
          intro h
          have := lineN_inj hc ht hf hk hc' ht' hf' hk h
          exact ec this.1
        have n3 : (lineN c t' f k == lineN c t f k) = false := by
          rw [beq_eq_false_iff_ne]
          intro h
          have := lineN_inj hc ht' hf hk hc ht hf hk h
          exact et this.2.1.symm
        go_region_held3 (fun W => W.cell? ⟨w.heap.size, 0, none⟩ = some (.int .u16 (c : Int)) ∧ W.cell? ⟨w.heap.size, 1, none⟩ = some (.int .u8 (t : Int)) ∧ W.cell? ⟨w.heap.size, 2, none⟩ = some (.int .u8 (f : Int)) ∧ W.cell? ⟨w.heap.size, 3, none⟩ = some (.int .u32 (k : Int)) ∧ W.cell? ⟨w.heap.size + 1, 0, none⟩ = some (.int .u16 (c' : Int)) ∧ W.cell? ⟨w.heap.size + 1, 1, none⟩ = some (.int .u8 (t' : Int)) ∧ W.cell? ⟨w.heap.size + 1, 2, none⟩ = some (.int .u8 (f' : Int)) ∧ W.cell? ⟨w.heap.size + 1, 3, none⟩ = some (.int .u32 (k : Int)) ∧ W.cell? ⟨w1.heap.size, 0, none⟩ = some (.int .u16 (c : Int)) ∧ W.cell? ⟨w1.heap.size, 1, none⟩ = some (.int .u8 (t : Int)) ∧ W.cell? ⟨w1.heap.size, 2, none⟩ = some (.int .u8 (f : Int)) ∧ W.cell? ⟨w1.heap.size, 3, none⟩ = some (.int .u32 (k : Int)) ∧ W.cell? ⟨w1.heap.size + 1, 0, none⟩ = some (.int .u16 (c : Int)) ∧ W.cell? ⟨w1.heap.size + 1, 1, none⟩ = some (.int .u8 (t' : Int)) ∧ W.cell? ⟨w1.heap.size + 1, 2, none⟩ = some (.int .u8 (f : Int)) ∧ W.cell? ⟨w1.heap.size + 1, 3, none⟩ = some (.int .u32 (k : Int)) ∧ w.grownBy W none) (first | exact and16 (four_call K (and16' (by assumption))) | exact and16 F1) (first | (go_at_call_of 9 (Value.agg #[.int .u16 (c : Int), .int .u8 (t : Int), .int .u8 (f : Int), .int .u32 (k : Int)]); refine (LA.out _ (by exact HTb.out.grown (last16 (by assumption)))).mono ?_; rintro e w' ⟨rfl, K⟩) | (go_at_call_of 9 (Value.agg #[.int .u16 (c : Int), .int .u8 (t : Int), .int .u8 (f : Int), .int .u32 (k : Int)]); refine (LC.out _ (by exact HTb.out.grown (last16 (by assumption)))).mono ?_; rintro e w' ⟨rfl, K⟩) | (go_at_call_of 9 (Value.agg #[.int .u16 (c : Int), .int .u8 (t' : Int), .int .u8 (f : Int), .int .u32 (k : Int)]); refine (LD.out _ (by exact HTb.out.grown (last16 (by assumption)))).mono ?_; rintro e w' ⟨rfl, K⟩) | (go_at_call 11; refine (awake3_any _ (by exact HTb.out.grown (last16 (by assumption)))).mono ?_; rintro e w' ⟨rfl, K⟩))
        have GG := (and16' (by assumption) : Four w w1 c t f k c' t' f' k w').1.2.2
        go_wp2
        go_ret
        exact ⟨rfl, GG⟩
      · have iqk : ((k : Int) == (k' : Int)) = false := by rw [beq_eq_false_iff_ne]; omega
        have jqk : ((k' : Int) == (k : Int)) = false := by rw [beq_eq_false_iff_ne]; omega
        have mqk : (k == k') = false := by rw [beq_eq_false_iff_ne]; exact ek
        have oqk : (k' == k) = false := by rw [beq_eq_false_iff_ne]; exact fun h => ek h.symm
        have n1 : (lineN c t f k == lineN c' t' f' k') = false := by
          rw [beq_eq_false_iff_ne]
          intro h
          have := lineN_inj hc ht hf hk hc' ht' hf' hk' h
          exact ec this.1
        have n2 : (lineN c t f k' == lineN c t f k) = false := by
          rw [beq_eq_false_iff_ne]
          intro h
          have := lineN_inj hc ht hf hk' hc ht hf hk h
          exact ek this.2.2.2.symm
        have n3 : (lineN c t' f k == lineN c t f k) = false := by
          rw [beq_eq_false_iff_ne]
          intro h
          have := lineN_inj hc ht' hf hk hc ht hf hk h
          exact et this.2.1.symm
        go_region_held3 (fun W => W.cell? ⟨w.heap.size, 0, none⟩ = some (.int .u16 (c : Int)) ∧ W.cell? ⟨w.heap.size, 1, none⟩ = some (.int .u8 (t : Int)) ∧ W.cell? ⟨w.heap.size, 2, none⟩ = some (.int .u8 (f : Int)) ∧ W.cell? ⟨w.heap.size, 3, none⟩ = some (.int .u32 (k : Int)) ∧ W.cell? ⟨w.heap.size + 1, 0, none⟩ = some (.int .u16 (c' : Int)) ∧ W.cell? ⟨w.heap.size + 1, 1, none⟩ = some (.int .u8 (t' : Int)) ∧ W.cell? ⟨w.heap.size + 1, 2, none⟩ = some (.int .u8 (f' : Int)) ∧ W.cell? ⟨w.heap.size + 1, 3, none⟩ = some (.int .u32 (k' : Int)) ∧ W.cell? ⟨w1.heap.size, 0, none⟩ = some (.int .u16 (c : Int)) ∧ W.cell? ⟨w1.heap.size, 1, none⟩ = some (.int .u8 (t : Int)) ∧ W.cell? ⟨w1.heap.size, 2, none⟩ = some (.int .u8 (f : Int)) ∧ W.cell? ⟨w1.heap.size, 3, none⟩ = some (.int .u32 (k' : Int)) ∧ W.cell? ⟨w1.heap.size + 1, 0, none⟩ = some (.int .u16 (c : Int)) ∧ W.cell? ⟨w1.heap.size + 1, 1, none⟩ = some (.int .u8 (t' : Int)) ∧ W.cell? ⟨w1.heap.size + 1, 2, none⟩ = some (.int .u8 (f : Int)) ∧ W.cell? ⟨w1.heap.size + 1, 3, none⟩ = some (.int .u32 (k : Int)) ∧ w.grownBy W none) (first | exact and16 (four_call K (and16' (by assumption))) | exact and16 F1) (first | (go_at_call_of 9 (Value.agg #[.int .u16 (c : Int), .int .u8 (t : Int), .int .u8 (f : Int), .int .u32 (k : Int)]); refine (LA.out _ (by exact HTb.out.grown (last16 (by assumption)))).mono ?_; rintro e w' ⟨rfl, K⟩) | (go_at_call_of 9 (Value.agg #[.int .u16 (c : Int), .int .u8 (t : Int), .int .u8 (f : Int), .int .u32 (k' : Int)]); refine (LC.out _ (by exact HTb.out.grown (last16 (by assumption)))).mono ?_; rintro e w' ⟨rfl, K⟩) | (go_at_call_of 9 (Value.agg #[.int .u16 (c : Int), .int .u8 (t' : Int), .int .u8 (f : Int), .int .u32 (k : Int)]); refine (LD.out _ (by exact HTb.out.grown (last16 (by assumption)))).mono ?_; rintro e w' ⟨rfl, K⟩) | (go_at_call 11; refine (awake3_any _ (by exact HTb.out.grown (last16 (by assumption)))).mono ?_; rintro e w' ⟨rfl, K⟩))
        have GG := (and16' (by assumption) : Four w w1 c t f k c' t' f' k' w').1.2.2
        go_wp2
        go_ret
        exact ⟨rfl, GG⟩

set_option maxRecDepth 100000 in
theorem lifted (os : Os) (started : os.Started) (H : Type) (enc : TypeId × Value → H) (F : Stop.Interp) :
    ReturnsInHanded {} Tryd.checked os 7 .any ((OpenSpec.ofChange Rows.asmApartSpec).preRow enc Tryd.prog Tryd.f7 Rows.asmApartRow.domain false Rows.asmApartRow.laid) (((OpenSpec.ofChange Rows.asmApartSpec).at F).post enc Tryd.prog Tryd.f7 false true false false) := by
  have hx : DataW.whole enc Tryd.prog ((laidWorld os).forCall (fun _ _ => 0) ⟨#[], #[.agg #[.int .u16 0, .int .u8 0, .int .u8 0, .int .u32 0], .agg #[.int .u16 0, .int .u8 0, .int .u8 0, .int .u32 0]], []⟩).memory Tryd.f7.params.toList Rows.asmApartSpec.vars false (#[.agg #[.int .u16 0, .int .u8 0, .int .u8 0, .int .u32 0], .agg #[.int .u16 0, .int .u8 0, .int .u8 0, .int .u32 0]] : Array Value).toList 8 = some ([.agg [.lit (.int .u16 0), .lit (.int .u8 0), .lit (.int .u8 0), .lit (.int .u32 0)], .agg [.lit (.int .u16 0), .lit (.int .u8 0), .lit (.int .u8 0), .lit (.int .u32 0)]], [], []) := by kernel_rfl
  refine returnsInHanded_of_row (C := Tryd.checked) (s := (OpenSpec.ofChange Rows.asmApartSpec)) own started (by kernel_rfl) Tryd.func7
    (witness_row_at (enc := enc) (C := Tryd.checked) false (laidWorld os) #[.agg #[.int .u16 0, .int .u8 0, .int .u8 0, .int .u32 0], .agg #[.int .u16 0, .int .u8 0, .int .u8 0, .int .u32 0]] rfl (by kernel_rfl) (by kernel_rfl) (by kernel_rfl)
      (OpenSpec.preRow_of_cond 8 hx (by kernel_rfl) (fun k hk => by cases hk) (by kernel_rfl) (laid_met os _))) ?_
  intro W base args ds gs before hval0 hW hcnd hcond hsz0 hL _ _
  have hsz : (DataW.weightsEach Tryd.prog (Tryd.f7.params.toList ++ Rows.asmApartSpec.plain.varTypes Tryd.prog) (ds ++ gs)).all (· ≤ reachBytes) = true := hsz0
  have T : Tab W := laid_tab hL
  have hval : ∀ (j : Nat) t v, Tryd.f7.params[j]? = some t → args[j]? = some v → Value.okWide Tryd.prog W .any base t v := hval0
  have hW' := hW
  obtain ⟨p, q, hA0, hV, rfl, hfz, hnd⟩ := hW
  have hA : DataW.TrodAll enc Tryd.prog W 0 (fun _ => true) true Tryd.f7.params.toList args.toList ds p := hA0
  rw [Tryd.params7] at hA hval hsz
  obtain ⟨v0, vs0, d0, ds0, p0, q0, hargs, rfl, rfl, h0, r0⟩ := trodAll_cons hA
  obtain ⟨v1, vs1, d1, ds1, p1, q1, rfl, rfl, rfl, h1, r1⟩ := trodAll_cons r0
  obtain ⟨rfl, rfl, rfl⟩ := trodAll_nil r1
  obtain rfl : args = #[v0, v1] := by cases args; simp_all
  obtain ⟨rfl, rfl⟩ := trodVars_none hV
  have k0 := h0
  have lt0 : ∀ x ∈ p0, x.block < W.heap.size := by obtain ⟨m, hm⟩ := k0; exact DataW.trod_lt m _ _ _ hm
  obtain ⟨x0, rfl⟩ := open_insn h0
  have k1 := h1
  have lt1 : ∀ x ∈ p1, x.block < W.heap.size := by obtain ⟨m, hm⟩ := k1; exact DataW.trod_lt m _ _ _ hm
  obtain ⟨x1, rfl⟩ := open_insn h1
  clear hA0 hval0
  refine (walk x0 x1 W T).mono fun e W' ⟨he, hg⟩ => ?_
  subst he
  have bel : Below W.heap.size W W' := (Below.refl _ _).grown hg (Nat.le_refl _) (by simp)
  exact ⟨_, rfl, _, _, _, [], _, [], hW', trodAll_mk1 (shut_bool Tryd.underlying4 _), (trodAll_cons_mk (Below.trod laidOut (by kernel_rfl) (of_decide_eq_true (by kernel_rfl)) k0 bel lt0) (trodAll_cons_mk (Below.trod laidOut (by kernel_rfl) (of_decide_eq_true (by kernel_rfl)) k1 bel lt1) trodAll_mk0)), rfl, bel.frame _, fun h => by cases h⟩

theorem over : Rows.AsmApartSaid :=
  OpenClaim.holds_of_cond 7 Tryd.f7 rfl rfl rfl rfl rfl rfl rfl ⟨rfl, rfl, rfl, rfl, rfl⟩ rfl rfl rfl rfl rfl (by kernel_rfl) Tryd.func7 (by kernel_rfl)
    (of_decide_eq_true (by kernel_rfl)) (by unfold Func.isWrapper; first | (rw [if_pos (by decide +kernel)]; kernel_rfl) | (rw [if_neg (by decide +kernel)]; exact ⟨rfl, rfl⟩))
    (fun os started H enc _ F => by rw [OpenClaim.pre_eq_preRow]; exact lifted os started H enc F)

theorem plain (f : FuncId) (fn : Func) (hf : Tryd.pinned.checked.prog.funcNamed "riddle/riddlelaw3.AsmApart" = some f) (hfn : Tryd.pinned.checked.prog.funcs[f]? = some fn) :
    false = Tryd.pinned.checked.prog.looks [] ∧ ∀ (j : Nat) t, fn.params[j]? = some t → Tryd.pinned.checked.prog.wantsStandIn t = false := by
  obtain rfl : f = 7 := Option.some.inj ((show Tryd.prog.funcNamed "riddle/riddlelaw3.AsmApart" = some 7 by kernel_rfl).symm.trans hf) |>.symm
  obtain rfl : fn = Tryd.f7 := (Option.some.inj (Tryd.func7.symm.trans hfn)).symm
  refine ⟨by kernel_rfl, fun j t ht => ?_⟩
  rw [Tryd.params7] at ht
  have ht2 := Array.mem_of_getElem? ht
  simp only [List.mem_toArray, List.mem_cons, List.not_mem_nil, or_false] at ht2
  rcases ht2 with rfl | rfl
  · exact (show Tryd.prog.wantsStandIn 25 = false by kernel_rfl)
  · exact (show Tryd.prog.wantsStandIn 25 = false by kernel_rfl)

theorem card : Rows.AsmApartCardSaid :=
  Claim7.holds_tied_plain_at .later [] _ _ _ _ over (fun _ h => by cases h) (by kernel_rfl) (fun _ h => by cases h) asmApart_row_tie rfl ⟨rfl, rfl⟩ (by kernel_rfl) rfl plain (by kernel_rfl)

end asmApart

theorem asmApart_holds : Rows.AsmApartCardSaid := asmApart.card
#print axioms asmApart_holds
end Go.Proofs.YtcapmbeabfhjoaaDoor
