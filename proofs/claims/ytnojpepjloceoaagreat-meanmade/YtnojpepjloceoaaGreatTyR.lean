/-
  Package types as landed: the table of rules.
-/
import Derived.Test.YtnojpepjloceoaaGreatLotP20
import Derived.Test.YtnojpepjloceoaaGreatTyH
import Derived.Test.YtnojpepjloceoaaGreatLotP29
namespace Go.Proofs.YtnojpepjloceoaaGreat
open Go.RowKit
set_option maxRecDepth 100000

def useN (k : Nat) : Nat := ([0, 69, 73, 75, 78, 73, 78, 73, 73, 73, 83, 85, 69, 88, 92, 94, 96] : List Nat).getD k 0
def mayN (k : Nat) : Nat := ([0, 70, 70, 76, 79, 70, 82, 70, 70, 70, 84, 86, 70, 89, 93, 93, 97] : List Nat).getD k 0
def bndN (k : Nat) : Nat := ([0, 71, 71, 77, 71, 71, 71, 71, 71, 71, 71, 71, 87, 90, 71, 95, 98] : List Nat).getD k 0
def valN (k : Nat) : Nat := ([0, 72, 74, 74, 80, 81, 74, 74, 74, 74, 74, 74, 74, 74, 74, 74, 74] : List Nat).getD k 0
def wgtN (k : Nat) : Int := ([0, 1, 2, 24, 6, 2, 8, 1, 1, 1, 6, 12, 8, 16, 24, 32, 40] : List Int).getD k 0
def fnV (n : Nat) : Value := .func (.func n) #[] #[]

/-- Where the table lies, its four lists of parts, its functions of weights. -/
structure RT where
  g : Nat
  n1 : Nat
  n2 : Nat
  t1 : Nat
  t2 : Nat
  wv : Nat → Value
def takesR (R : RT) (k : Nat) : Value :=
  if k = 3 ∨ k = 5 then .slice (some ⟨R.n1, 0, none⟩) 1 1 else if k = 4 ∨ k = 6 then .slice (some ⟨R.n2, 0, none⟩) 2 2
  else if k = 9 then .slice (some ⟨R.t1, 0, none⟩) 1 1 else if k = 7 ∨ k = 8 then .slice (some ⟨R.t2, 0, none⟩) 2 2 else .slice none 0 0
def ruleC (R : RT) (k : Nat) : List Value := [takesR R k, .int .i64 (if k ≤ 5 then 1 else 0), R.wv k, fnV (useN k), fnV (mayN k), fnV (bndN k), fnV (valN k)]
structure TabT (R : RT) (w : World) : Prop where
  rows : ∀ k, 1 ≤ k → k ≤ 16 → w.rangeAt R.g (k * 7) (ruleC R k)
  n1 : w.cell? ⟨R.n1, 0, none⟩ = some (.int .i64 1)
  n2 : w.cell? ⟨R.n2, 0, none⟩ = some (.int .i64 1) ∧ w.cell? ⟨R.n2, 1, none⟩ = some (.int .i64 1)
  t1 : w.cell? ⟨R.t1, 0, none⟩ = some (.int .i64 0)
  t2 : w.cell? ⟨R.t2, 0, none⟩ = some (.int .i64 0) ∧ w.cell? ⟨R.t2, 1, none⟩ = some (.int .i64 0)
  wgt : ∀ k, 1 ≤ k → k ≤ 16 → k ≠ 14 → k ≠ 15 → ∃ b, R.wv k = .func (.func 118) #[] #[.pointer (some ⟨b, 0, none⟩)] ∧ w.cell? ⟨b, 0, none⟩ = some (.int .i64 (wgtN k))
  wg2 : ∀ k, k = 14 ∨ k = 15 → ∃ b c, R.wv k = .func (.func 123) #[] #[.pointer (some ⟨c, 0, none⟩), .pointer (some ⟨b, 0, none⟩)] ∧ w.cell? ⟨b, 0, none⟩ = some (.int .i64 (wgtN k)) ∧ w.cell? ⟨c, 0, none⟩ = some (.int .i64 (wgtN k + 48))
theorem TabT.kept {R : RT} {w w' : World} (h : TabT R w) (K : w.grownBy w' none) : TabT R w' where
  rows := fun k h1 h2 j v hv => K.cell (h.rows k h1 h2 j v hv) (by simp)
  n1 := K.cell h.n1 (by simp)
  n2 := ⟨K.cell h.n2.1 (by simp), K.cell h.n2.2 (by simp)⟩
  t1 := K.cell h.t1 (by simp)
  t2 := ⟨K.cell h.t2.1 (by simp), K.cell h.t2.2 (by simp)⟩
  wgt := fun k h1 h2 h3 h4 => by
    obtain ⟨b, e, c⟩ := h.wgt k h1 h2 h3 h4
    exact ⟨b, e, K.cell c (by simp)⟩
  wg2 := fun k h1 => by
    obtain ⟨b, d, e, c1, c2⟩ := h.wg2 k h1
    exact ⟨b, d, e, K.cell c1 (by simp), K.cell c2 (by simp)⟩

theorem mkf (fn : Fn) (first cap : Array Value) (w : World) : (Instr.makeFunc fn first cap).run Tryz.prog w = .ok (.func fn first cap) w := rfl
theorem new_cell (w : World) (t : Nat) (v : Value) : (w.alloc (.cells #[v] t)).cell? ⟨w.heap.size, 0, none⟩ = some v := (VAt.alloc w t #[v]).cell 0

set_option maxHeartbeats 400000 in
theorem weighs_any (c : Int) (w : World) : Calls Tryz.prog 68 #[.int .i64 c] w fun e w' => ∃ b, e = .returned (.func (.func 118) #[] #[.pointer (some ⟨b, 0, none⟩)]) ∧ w'.cell? ⟨b, 0, none⟩ = some (.int .i64 c) ∧ w.grownBy w' none := by
  have h1 := new_cell w 3 (.int .i64 c)
  have h2 := World.grownBy_alloc w (.cells #[.int .i64 c] 3) none
  have hmf := mkf
  go_enter Tryz.func68, Tryz.ntmps68
  go_upto_region 1 with fail
  generalize w.alloc (.cells #[.int .i64 c] 3) = w1 at *
  generalize w.heap.size = B at *
  go_wp2
  go_ret
  exact ⟨B, rfl, h1, h2⟩

set_option maxHeartbeats 400000 in
theorem weighsBy_any (c d : Int) (w : World) : Calls Tryz.prog 91 #[.int .i64 c, .int .i64 d] w fun e w' => ∃ b g, e = .returned (.func (.func 123) #[] #[.pointer (some ⟨g, 0, none⟩), .pointer (some ⟨b, 0, none⟩)]) ∧ w'.cell? ⟨b, 0, none⟩ = some (.int .i64 c) ∧ w'.cell? ⟨g, 0, none⟩ = some (.int .i64 d) ∧ w.grownBy w' none := by
  have h1 := new_cell w 3 (.int .i64 c)
  have h2 := World.grownBy_alloc w (.cells #[.int .i64 c] 3) none
  have h3 := new_cell (w.alloc (.cells #[.int .i64 c] 3)) 3 (.int .i64 d)
  have h4 := World.grownBy_alloc (w.alloc (.cells #[.int .i64 c] 3)) (.cells #[.int .i64 d] 3) none
  have h5 := h4.cell h1 (by simp)
  have h6 := grown_trans h2 h4
  rw [show (w.alloc (.cells #[.int .i64 c] 3)).heap.size = w.heap.size + 1 by simp] at h3
  have hmf := mkf
  clear h1 h2 h4
  go_enter Tryz.func91, Tryz.ntmps91
  go_upto_region 1 with fail
  generalize (w.alloc (.cells #[.int .i64 c] 3)).alloc (.cells #[.int .i64 d] 3) = w1 at *
  generalize w.heap.size + 1 = G at *
  generalize w.heap.size = B at *
  go_wp2
  go_ret
  exact ⟨B, G, rfl, h5, h3, h6⟩

def allRules (n1 n2 t1 t2 : Nat) (v1 v2 v3 v4 v5 v6 v7 v8 v9 v10 v11 v12 v13 v14 v15 v16 : Value) : List Value := [.slice none 0 0, .int .i64 0, .nilFunc, .nilFunc, .nilFunc, .nilFunc, .nilFunc,
  .slice none 0 0, .int .i64 1, v1, fnV 69, fnV 70, fnV 71, fnV 72,
  .slice none 0 0, .int .i64 1, v2, fnV 73, fnV 70, fnV 71, fnV 74,
  .slice (some ⟨n1, 0, none⟩) 1 1, .int .i64 1, v3, fnV 75, fnV 76, fnV 77, fnV 74,
  .slice (some ⟨n2, 0, none⟩) 2 2, .int .i64 1, v4, fnV 78, fnV 79, fnV 71, fnV 80,
  .slice (some ⟨n1, 0, none⟩) 1 1, .int .i64 1, v5, fnV 73, fnV 70, fnV 71, fnV 81,
  .slice (some ⟨n2, 0, none⟩) 2 2, .int .i64 0, v6, fnV 78, fnV 82, fnV 71, fnV 74,
  .slice (some ⟨t2, 0, none⟩) 2 2, .int .i64 0, v7, fnV 73, fnV 70, fnV 71, fnV 74,
  .slice (some ⟨t2, 0, none⟩) 2 2, .int .i64 0, v8, fnV 73, fnV 70, fnV 71, fnV 74,
  .slice (some ⟨t1, 0, none⟩) 1 1, .int .i64 0, v9, fnV 73, fnV 70, fnV 71, fnV 74,
  .slice none 0 0, .int .i64 0, v10, fnV 83, fnV 84, fnV 71, fnV 74,
  .slice none 0 0, .int .i64 0, v11, fnV 85, fnV 86, fnV 71, fnV 74,
  .slice none 0 0, .int .i64 0, v12, fnV 69, fnV 70, fnV 87, fnV 74,
  .slice none 0 0, .int .i64 0, v13, fnV 88, fnV 89, fnV 90, fnV 74,
  .slice none 0 0, .int .i64 0, v14, fnV 92, fnV 93, fnV 71, fnV 74,
  .slice none 0 0, .int .i64 0, v15, fnV 94, fnV 93, fnV 95, fnV 74,
  .slice none 0 0, .int .i64 0, v16, fnV 96, fnV 97, fnV 98, fnV 74]
set_option maxRecDepth 100000 in
theorem lit_rules (n1 n2 t1 t2 : Nat) (v1 v2 v3 v4 v5 v6 v7 v8 v9 v10 v11 v12 v13 v14 v15 v16 : Value) (W : World) : (Instr.buildSlice 90 17 #[(1, .agg #[.slice none 0 0, .int .i64 1, v1, fnV 69, fnV 70, fnV 71, fnV 72]), (2, .agg #[.slice none 0 0, .int .i64 1, v2, fnV 73, fnV 70, fnV 71, fnV 74]), (3, .agg #[.slice (some ⟨n1, 0, none⟩) 1 1, .int .i64 1, v3, fnV 75, fnV 76, fnV 77, fnV 74]), (4, .agg #[.slice (some ⟨n2, 0, none⟩) 2 2, .int .i64 1, v4, fnV 78, fnV 79, fnV 71, fnV 80]), (5, .agg #[.slice (some ⟨n1, 0, none⟩) 1 1, .int .i64 1, v5, fnV 73, fnV 70, fnV 71, fnV 81]), (6, .agg #[.slice (some ⟨n2, 0, none⟩) 2 2, .int .i64 0, v6, fnV 78, fnV 82, fnV 71, fnV 74]), (7, .agg #[.slice (some ⟨t2, 0, none⟩) 2 2, .int .i64 0, v7, fnV 73, fnV 70, fnV 71, fnV 74]), (8, .agg #[.slice (some ⟨t2, 0, none⟩) 2 2, .int .i64 0, v8, fnV 73, fnV 70, fnV 71, fnV 74]), (9, .agg #[.slice (some ⟨t1, 0, none⟩) 1 1, .int .i64 0, v9, fnV 73, fnV 70, fnV 71, fnV 74]), (10, .agg #[.slice none 0 0, .int .i64 0, v10, fnV 83, fnV 84, fnV 71, fnV 74]), (11, .agg #[.slice none 0 0, .int .i64 0, v11, fnV 85, fnV 86, fnV 71, fnV 74]), (12, .agg #[.slice none 0 0, .int .i64 0, v12, fnV 69, fnV 70, fnV 87, fnV 74]), (13, .agg #[.slice none 0 0, .int .i64 0, v13, fnV 88, fnV 89, fnV 90, fnV 74]), (14, .agg #[.slice none 0 0, .int .i64 0, v14, fnV 92, fnV 93, fnV 71, fnV 74]), (15, .agg #[.slice none 0 0, .int .i64 0, v15, fnV 94, fnV 93, fnV 95, fnV 74]), (16, .agg #[.slice none 0 0, .int .i64 0, v16, fnV 96, fnV 97, fnV 98, fnV 74])]).run Tryz.prog W = .ok (.slice (some ⟨W.heap.size, 0, none⟩) 17 17) (W.alloc (.cells (allRules n1 n2 t1 t2 v1 v2 v3 v4 v5 v6 v7 v8 v9 v10 v11 v12 v13 v14 v15 v16).toArray 120)) := by kernel_rfl

theorem rules_get (g n1 n2 t1 t2 : Nat) (v1 v2 v3 v4 v5 v6 v7 v8 v9 v10 v11 v12 v13 v14 v15 v16 : Value) (k : Nat) (h1 : 1 ≤ k) (h2 : k ≤ 16) (j : Nat) (hj : j < 7) : (allRules n1 n2 t1 t2 v1 v2 v3 v4 v5 v6 v7 v8 v9 v10 v11 v12 v13 v14 v15 v16)[k * 7 + j]? = (ruleC ⟨g, n1, n2, t1, t2, fun k => ([undef, v1, v2, v3, v4, v5, v6, v7, v8, v9, v10, v11, v12, v13, v14, v15, v16] : List Value).getD k undef⟩ k)[j]? := by
  have hk : k = 1 ∨ k = 2 ∨ k = 3 ∨ k = 4 ∨ k = 5 ∨ k = 6 ∨ k = 7 ∨ k = 8 ∨ k = 9 ∨ k = 10 ∨ k = 11 ∨ k = 12 ∨ k = 13 ∨ k = 14 ∨ k = 15 ∨ k = 16 := by omega
  have hjj : j = 0 ∨ j = 1 ∨ j = 2 ∨ j = 3 ∨ j = 4 ∨ j = 5 ∨ j = 6 := by omega
  clear h1 h2 hj
  rcases hk with rfl | rfl | rfl | rfl | rfl | rfl | rfl | rfl | rfl | rfl | rfl | rfl | rfl | rfl | rfl | rfl <;> rcases hjj with rfl | rfl | rfl | rfl | rfl | rfl | rfl <;> rfl

set_option maxRecDepth 100000 in
set_option maxHeartbeats 4000000 in
theorem rules_any (w : World) : Calls Tryz.prog 55 #[] w fun e w' => ∃ R : RT, e = .returned (.slice (some ⟨R.g, 0, none⟩) 17 17) ∧ TabT R w' ∧ w.grownBy w' none := by
  obtain ⟨W4, hW4⟩ : ∃ W4, (((w.alloc (.cells #[.int .i64 1] 3)).alloc (.cells #[.int .i64 1, .int .i64 1] 3)).alloc (.cells #[.int .i64 0] 3)).alloc (.cells #[.int .i64 0, .int .i64 0] 3) = W4 := ⟨_, rfl⟩
  have A1 := VAt.alloc w 3 #[.int .i64 1]
  have A2 := VAt.alloc (w.alloc (.cells #[.int .i64 1] 3)) 3 #[.int .i64 1, .int .i64 1]
  have A3 := VAt.alloc ((w.alloc (.cells #[.int .i64 1] 3)).alloc (.cells #[.int .i64 1, .int .i64 1] 3)) 3 #[.int .i64 0]
  have A4 := VAt.alloc (((w.alloc (.cells #[.int .i64 1] 3)).alloc (.cells #[.int .i64 1, .int .i64 1] 3)).alloc (.cells #[.int .i64 0] 3)) 3 #[.int .i64 0, .int .i64 0]
  have K1 := World.grownBy_alloc w (.cells #[.int .i64 1] 3) none
  have K2 := World.grownBy_alloc (w.alloc (.cells #[.int .i64 1] 3)) (.cells #[.int .i64 1, .int .i64 1] 3) none
  have K3 := World.grownBy_alloc ((w.alloc (.cells #[.int .i64 1] 3)).alloc (.cells #[.int .i64 1, .int .i64 1] 3)) (.cells #[.int .i64 0] 3) none
  have K4 := World.grownBy_alloc (((w.alloc (.cells #[.int .i64 1] 3)).alloc (.cells #[.int .i64 1, .int .i64 1] 3)).alloc (.cells #[.int .i64 0] 3)) (.cells #[.int .i64 0, .int .i64 0] 3) none
  have B1 := A1.kept (grown_trans K2 (grown_trans K3 K4))
  have B2 := A2.kept (grown_trans K3 K4)
  have B3 := A3.kept K4
  have G4 := grown_trans K1 (grown_trans K2 (grown_trans K3 K4))
  simp only [World.size_alloc] at B2 B3 A4
  rw [hW4] at B1 B2 B3 A4 G4
  have HN : Hid (W4.cell? ⟨w.heap.size, 0, none⟩ = some (.int .i64 1) ∧ (W4.cell? ⟨w.heap.size + 1, 0, none⟩ = some (.int .i64 1) ∧ W4.cell? ⟨w.heap.size + 1, 1, none⟩ = some (.int .i64 1)) ∧ W4.cell? ⟨w.heap.size + 1 + 1, 0, none⟩ = some (.int .i64 0) ∧ W4.cell? ⟨w.heap.size + 1 + 1 + 1, 0, none⟩ = some (.int .i64 0) ∧ W4.cell? ⟨w.heap.size + 1 + 1 + 1, 1, none⟩ = some (.int .i64 0)) := ⟨B1.cell 0, ⟨B2.cell 0, B2.cell 1⟩, B3.cell 0, A4.cell 0, A4.cell 1⟩
  clear A1 A2 A3 A4 K1 K2 K3 K4 B1 B2 B3
  go_enter Tryz.func55, Tryz.ntmps55
  go_upto_region 4 with fail
  clear hW4
  generalize w.heap.size + 1 + 1 + 1 = t2 at HN ⊢
  generalize w.heap.size + 1 + 1 = t1 at HN ⊢
  generalize w.heap.size + 1 = n2 at HN ⊢
  generalize w.heap.size = n1 at HN ⊢
  have HG : Hid (w.grownBy W4 none) := G4
  clear G4
  have X0 : Hid (W4.grownBy W4 none) := World.grownBy.refl _ _
  go_wp2_with fail
  refine (weighs_any _ _).mono ?_
  rintro e w1 ⟨b1, rfl, c1, K1⟩
  have C1 : Hid (w1.cell? ⟨b1, 0, none⟩ = _) := c1
  have X1 : Hid (W4.grownBy w1 none) := K1
  clear c1 K1
  go_wp2_with fail
  refine (weighs_any _ _).mono ?_
  rintro e w2 ⟨b2, rfl, c2, K2⟩
  have C2 : Hid (w2.cell? ⟨b2, 0, none⟩ = _) := c2
  have X2 : Hid (w1.grownBy w2 none) := K2
  clear c2 K2
  go_wp2_with fail
  refine (weighs_any _ _).mono ?_
  rintro e w3 ⟨b3, rfl, c3, K3⟩
  have C3 : Hid (w3.cell? ⟨b3, 0, none⟩ = _) := c3
  have X3 : Hid (w2.grownBy w3 none) := K3
  clear c3 K3
  go_wp2_with fail
  refine (weighs_any _ _).mono ?_
  rintro e w4 ⟨b4, rfl, c4, K4⟩
  have C4 : Hid (w4.cell? ⟨b4, 0, none⟩ = _) := c4
  have X4 : Hid (w3.grownBy w4 none) := K4
  clear c4 K4
  go_wp2_with fail
  refine (weighs_any _ _).mono ?_
  rintro e w5 ⟨b5, rfl, c5, K5⟩
  have C5 : Hid (w5.cell? ⟨b5, 0, none⟩ = _) := c5
  have X5 : Hid (w4.grownBy w5 none) := K5
  clear c5 K5
  go_wp2_with fail
  refine (weighs_any _ _).mono ?_
  rintro e w6 ⟨b6, rfl, c6, K6⟩
  have C6 : Hid (w6.cell? ⟨b6, 0, none⟩ = _) := c6
  have X6 : Hid (w5.grownBy w6 none) := K6
  clear c6 K6
  go_wp2_with fail
  refine (weighs_any _ _).mono ?_
  rintro e w7 ⟨b7, rfl, c7, K7⟩
  have C7 : Hid (w7.cell? ⟨b7, 0, none⟩ = _) := c7
  have X7 : Hid (w6.grownBy w7 none) := K7
  clear c7 K7
  go_wp2_with fail
  refine (weighs_any _ _).mono ?_
  rintro e w8 ⟨b8, rfl, c8, K8⟩
  have C8 : Hid (w8.cell? ⟨b8, 0, none⟩ = _) := c8
  have X8 : Hid (w7.grownBy w8 none) := K8
  clear c8 K8
  go_wp2_with fail
  refine (weighs_any _ _).mono ?_
  rintro e w9 ⟨b9, rfl, c9, K9⟩
  have C9 : Hid (w9.cell? ⟨b9, 0, none⟩ = _) := c9
  have X9 : Hid (w8.grownBy w9 none) := K9
  clear c9 K9
  go_wp2_with fail
  refine (weighs_any _ _).mono ?_
  rintro e w10 ⟨b10, rfl, c10, K10⟩
  have C10 : Hid (w10.cell? ⟨b10, 0, none⟩ = _) := c10
  have X10 : Hid (w9.grownBy w10 none) := K10
  clear c10 K10
  go_wp2_with fail
  refine (weighs_any _ _).mono ?_
  rintro e w11 ⟨b11, rfl, c11, K11⟩
  have C11 : Hid (w11.cell? ⟨b11, 0, none⟩ = _) := c11
  have X11 : Hid (w10.grownBy w11 none) := K11
  clear c11 K11
  go_wp2_with fail
  refine (weighs_any _ _).mono ?_
  rintro e w12 ⟨b12, rfl, c12, K12⟩
  have C12 : Hid (w12.cell? ⟨b12, 0, none⟩ = _) := c12
  have X12 : Hid (w11.grownBy w12 none) := K12
  clear c12 K12
  go_wp2_with fail
  refine (weighs_any _ _).mono ?_
  rintro e w13 ⟨b13, rfl, c13, K13⟩
  have C13 : Hid (w13.cell? ⟨b13, 0, none⟩ = _) := c13
  have X13 : Hid (w12.grownBy w13 none) := K13
  clear c13 K13
  go_wp2_with fail
  refine (weighsBy_any _ _ _).mono ?_
  rintro e w14 ⟨b14, g14, rfl, c14, d14, K14⟩
  have C14 : Hid (w14.cell? ⟨b14, 0, none⟩ = _ ∧ w14.cell? ⟨g14, 0, none⟩ = _) := ⟨c14, d14⟩
  have X14 : Hid (w13.grownBy w14 none) := K14
  clear c14 d14 K14
  go_wp2_with fail
  refine (weighsBy_any _ _ _).mono ?_
  rintro e w15 ⟨b15, g15, rfl, c15, d15, K15⟩
  have C15 : Hid (w15.cell? ⟨b15, 0, none⟩ = _ ∧ w15.cell? ⟨g15, 0, none⟩ = _) := ⟨c15, d15⟩
  have X15 : Hid (w14.grownBy w15 none) := K15
  clear c15 d15 K15
  go_wp2_with fail
  refine (weighs_any _ _).mono ?_
  rintro e w16 ⟨b16, rfl, c16, K16⟩
  have C16 : Hid (w16.cell? ⟨b16, 0, none⟩ = _) := c16
  have X16 : Hid (w15.grownBy w16 none) := K16
  clear c16 K16
  go_wp2_with (refine wpList_lit (by rfl) 90 17 _ rfl _ (by kernel_rfl) (allRules n1 n2 t1 t2 (.func (.func 118) #[] #[.pointer (some ⟨b1, 0, none⟩)]) (.func (.func 118) #[] #[.pointer (some ⟨b2, 0, none⟩)]) (.func (.func 118) #[] #[.pointer (some ⟨b3, 0, none⟩)]) (.func (.func 118) #[] #[.pointer (some ⟨b4, 0, none⟩)]) (.func (.func 118) #[] #[.pointer (some ⟨b5, 0, none⟩)]) (.func (.func 118) #[] #[.pointer (some ⟨b6, 0, none⟩)]) (.func (.func 118) #[] #[.pointer (some ⟨b7, 0, none⟩)]) (.func (.func 118) #[] #[.pointer (some ⟨b8, 0, none⟩)]) (.func (.func 118) #[] #[.pointer (some ⟨b9, 0, none⟩)]) (.func (.func 118) #[] #[.pointer (some ⟨b10, 0, none⟩)]) (.func (.func 118) #[] #[.pointer (some ⟨b11, 0, none⟩)]) (.func (.func 118) #[] #[.pointer (some ⟨b12, 0, none⟩)]) (.func (.func 118) #[] #[.pointer (some ⟨b13, 0, none⟩)]) (.func (.func 123) #[] #[.pointer (some ⟨g14, 0, none⟩), .pointer (some ⟨b14, 0, none⟩)]) (.func (.func 123) #[] #[.pointer (some ⟨g15, 0, none⟩), .pointer (some ⟨b15, 0, none⟩)]) (.func (.func 118) #[] #[.pointer (some ⟨b16, 0, none⟩)])) 120 (lit_rules n1 n2 t1 t2 (.func (.func 118) #[] #[.pointer (some ⟨b1, 0, none⟩)]) (.func (.func 118) #[] #[.pointer (some ⟨b2, 0, none⟩)]) (.func (.func 118) #[] #[.pointer (some ⟨b3, 0, none⟩)]) (.func (.func 118) #[] #[.pointer (some ⟨b4, 0, none⟩)]) (.func (.func 118) #[] #[.pointer (some ⟨b5, 0, none⟩)]) (.func (.func 118) #[] #[.pointer (some ⟨b6, 0, none⟩)]) (.func (.func 118) #[] #[.pointer (some ⟨b7, 0, none⟩)]) (.func (.func 118) #[] #[.pointer (some ⟨b8, 0, none⟩)]) (.func (.func 118) #[] #[.pointer (some ⟨b9, 0, none⟩)]) (.func (.func 118) #[] #[.pointer (some ⟨b10, 0, none⟩)]) (.func (.func 118) #[] #[.pointer (some ⟨b11, 0, none⟩)]) (.func (.func 118) #[] #[.pointer (some ⟨b12, 0, none⟩)]) (.func (.func 118) #[] #[.pointer (some ⟨b13, 0, none⟩)]) (.func (.func 123) #[] #[.pointer (some ⟨g14, 0, none⟩), .pointer (some ⟨b14, 0, none⟩)]) (.func (.func 123) #[] #[.pointer (some ⟨g15, 0, none⟩), .pointer (some ⟨b15, 0, none⟩)]) (.func (.func 118) #[] #[.pointer (some ⟨b16, 0, none⟩)])) ?_; intro V wl CL KL)
  have Y16 : w16.grownBy wl none := KL
  have Y15 := grown_trans X16.out Y16
  have Y14 := grown_trans X15.out Y15
  have Y13 := grown_trans X14.out Y14
  have Y12 := grown_trans X13.out Y13
  have Y11 := grown_trans X12.out Y12
  have Y10 := grown_trans X11.out Y11
  have Y9 := grown_trans X10.out Y10
  have Y8 := grown_trans X9.out Y9
  have Y7 := grown_trans X8.out Y8
  have Y6 := grown_trans X7.out Y7
  have Y5 := grown_trans X6.out Y6
  have Y4 := grown_trans X5.out Y5
  have Y3 := grown_trans X4.out Y4
  have Y2 := grown_trans X3.out Y3
  have Y1 := grown_trans X2.out Y2
  have Y0 := grown_trans X1.out Y1
  have GW := grown_trans HG.out Y0
  have TT : TabT ⟨V, n1, n2, t1, t2, fun k => ([undef, (.func (.func 118) #[] #[.pointer (some ⟨b1, 0, none⟩)]), (.func (.func 118) #[] #[.pointer (some ⟨b2, 0, none⟩)]), (.func (.func 118) #[] #[.pointer (some ⟨b3, 0, none⟩)]), (.func (.func 118) #[] #[.pointer (some ⟨b4, 0, none⟩)]), (.func (.func 118) #[] #[.pointer (some ⟨b5, 0, none⟩)]), (.func (.func 118) #[] #[.pointer (some ⟨b6, 0, none⟩)]), (.func (.func 118) #[] #[.pointer (some ⟨b7, 0, none⟩)]), (.func (.func 118) #[] #[.pointer (some ⟨b8, 0, none⟩)]), (.func (.func 118) #[] #[.pointer (some ⟨b9, 0, none⟩)]), (.func (.func 118) #[] #[.pointer (some ⟨b10, 0, none⟩)]), (.func (.func 118) #[] #[.pointer (some ⟨b11, 0, none⟩)]), (.func (.func 118) #[] #[.pointer (some ⟨b12, 0, none⟩)]), (.func (.func 118) #[] #[.pointer (some ⟨b13, 0, none⟩)]), (.func (.func 123) #[] #[.pointer (some ⟨g14, 0, none⟩), .pointer (some ⟨b14, 0, none⟩)]), (.func (.func 123) #[] #[.pointer (some ⟨g15, 0, none⟩), .pointer (some ⟨b15, 0, none⟩)]), (.func (.func 118) #[] #[.pointer (some ⟨b16, 0, none⟩)])] : List Value).getD k undef⟩ wl := {
    rows := fun k h1 h2 j v hv => by
      have hj : j < 7 := (List.getElem?_eq_some_iff.1 hv).1
      have e := rules_get V n1 n2 t1 t2 (.func (.func 118) #[] #[.pointer (some ⟨b1, 0, none⟩)]) (.func (.func 118) #[] #[.pointer (some ⟨b2, 0, none⟩)]) (.func (.func 118) #[] #[.pointer (some ⟨b3, 0, none⟩)]) (.func (.func 118) #[] #[.pointer (some ⟨b4, 0, none⟩)]) (.func (.func 118) #[] #[.pointer (some ⟨b5, 0, none⟩)]) (.func (.func 118) #[] #[.pointer (some ⟨b6, 0, none⟩)]) (.func (.func 118) #[] #[.pointer (some ⟨b7, 0, none⟩)]) (.func (.func 118) #[] #[.pointer (some ⟨b8, 0, none⟩)]) (.func (.func 118) #[] #[.pointer (some ⟨b9, 0, none⟩)]) (.func (.func 118) #[] #[.pointer (some ⟨b10, 0, none⟩)]) (.func (.func 118) #[] #[.pointer (some ⟨b11, 0, none⟩)]) (.func (.func 118) #[] #[.pointer (some ⟨b12, 0, none⟩)]) (.func (.func 118) #[] #[.pointer (some ⟨b13, 0, none⟩)]) (.func (.func 123) #[] #[.pointer (some ⟨g14, 0, none⟩), .pointer (some ⟨b14, 0, none⟩)]) (.func (.func 123) #[] #[.pointer (some ⟨g15, 0, none⟩), .pointer (some ⟨b15, 0, none⟩)]) (.func (.func 118) #[] #[.pointer (some ⟨b16, 0, none⟩)]) k h1 h2 j hj
      rw [hv] at e
      obtain ⟨hlt, e2⟩ := List.getElem?_eq_some_iff.1 e
      have := CL.2 _ rfl (k * 7 + j) hlt
      rw [Addr.add_lit, Nat.zero_add] at this
      rw [this, e2]
    n1 := Y0.cell HN.out.1 (by simp)
    n2 := ⟨Y0.cell HN.out.2.1.1 (by simp), Y0.cell HN.out.2.1.2 (by simp)⟩
    t1 := Y0.cell HN.out.2.2.1 (by simp)
    t2 := ⟨Y0.cell HN.out.2.2.2.1 (by simp), Y0.cell HN.out.2.2.2.2 (by simp)⟩
    wgt := fun k h1 h2 h3 h4 => by
      have : k = 1 ∨ k = 2 ∨ k = 3 ∨ k = 4 ∨ k = 5 ∨ k = 6 ∨ k = 7 ∨ k = 8 ∨ k = 9 ∨ k = 10 ∨ k = 11 ∨ k = 12 ∨ k = 13 ∨ k = 16 := by omega
      rcases this with rfl | rfl | rfl | rfl | rfl | rfl | rfl | rfl | rfl | rfl | rfl | rfl | rfl | rfl
      · exact ⟨b1, rfl, Y1.cell C1.out (by simp)⟩
      · exact ⟨b2, rfl, Y2.cell C2.out (by simp)⟩
      · exact ⟨b3, rfl, Y3.cell C3.out (by simp)⟩
      · exact ⟨b4, rfl, Y4.cell C4.out (by simp)⟩
      · exact ⟨b5, rfl, Y5.cell C5.out (by simp)⟩
      · exact ⟨b6, rfl, Y6.cell C6.out (by simp)⟩
      · exact ⟨b7, rfl, Y7.cell C7.out (by simp)⟩
      · exact ⟨b8, rfl, Y8.cell C8.out (by simp)⟩
      · exact ⟨b9, rfl, Y9.cell C9.out (by simp)⟩
      · exact ⟨b10, rfl, Y10.cell C10.out (by simp)⟩
      · exact ⟨b11, rfl, Y11.cell C11.out (by simp)⟩
      · exact ⟨b12, rfl, Y12.cell C12.out (by simp)⟩
      · exact ⟨b13, rfl, Y13.cell C13.out (by simp)⟩
      · exact ⟨b16, rfl, Y16.cell C16.out (by simp)⟩
    wg2 := fun k h => by
      rcases h with rfl | rfl
      · exact ⟨b14, g14, rfl, Y14.cell C14.out.1 (by simp), Y14.cell C14.out.2 (by simp)⟩
      · exact ⟨b15, g15, rfl, Y15.cell C15.out.1 (by simp), Y15.cell C15.out.2 (by simp)⟩ }
  clear C1 X1 Y1 C2 X2 Y2 C3 X3 Y3 C4 X4 Y4 C5 X5 Y5 C6 X6 Y6 C7 X7 Y7 C8 X8 Y8 C9 X9 Y9 C10 X10 Y10 C11 X11 Y11 C12 X12 Y12 C13 X13 Y13 C14 X14 Y14 C15 X15 Y15 C16 X16 Y16 CL KL
  go_wp2
  go_ret
  exact ⟨_, rfl, TT, GW⟩

/-- Sixteen kinds. -/
theorem sixteen {k : Nat} (h1 : 1 ≤ k) (h2 : k ≤ 16) : k = 1 ∨ k = 2 ∨ k = 3 ∨ k = 4 ∨ k = 5 ∨ k = 6 ∨ k = 7 ∨ k = 8 ∨ k = 9 ∨ k = 10 ∨ k = 11 ∨ k = 12 ∨ k = 13 ∨ k = 14 ∨ k = 15 ∨ k = 16 := by omega

end Go.Proofs.YtnojpepjloceoaaGreat
