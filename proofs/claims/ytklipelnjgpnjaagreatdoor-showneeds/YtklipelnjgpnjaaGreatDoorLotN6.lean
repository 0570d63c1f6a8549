import Derived.Test.YtklipelnjgpnjaaGreatDoorLotN5
import Derived.Laws.EntriesVeiled
import Derived.Shelf.Abstract
import Derived.Test.YtklipelnjgpnjaaGreatDoorLotN4
set_option maxHeartbeats 64000000
set_option maxRecDepth 100000
namespace Go.Proofs.YtklipelnjgpnjaaGreatDoor
open Go.RowKit
def a3i (k : Nat) : Nat := ([0, 48, 52, 54, 57, 52, 57, 52, 52, 52, 62, 64, 48, 67, 71, 73, 75] : List Nat).getD k 0
def a2U (k : Nat) : Nat := ([0, 49, 49, 55, 58, 49, 61, 49, 49, 49, 63, 65, 49, 68, 72, 72, 76] : List Nat).getD k 0
def a2N (k : Nat) : Nat := ([0, 50, 50, 56, 50, 50, 50, 50, 50, 50, 50, 50, 66, 69, 50, 74, 77] : List Nat).getD k 0
def a2G (k : Nat) : Nat := ([0, 51, 53, 53, 59, 60, 53, 53, 53, 53, 53, 53, 53, 53, 53, 53, 53] : List Nat).getD k 0
def a3m (k : Nat) : Int := ([0, 1, 2, 24, 6, 2, 8, 1, 1, 1, 6, 12, 8, 16, 24, 32, 40] : List Int).getD k 0
def fnV (n : Nat) : Value := .func (.func n) #[] #[]
structure RT where
 g : Nat
 n1 : Nat
 n2 : Nat
 t1 : Nat
 t2 : Nat
 wv : Nat → Value
def a3P (R : RT) (k : Nat) : Value :=
 if k = 3 ∨ k = 5 then .slice (some ⟨R.n1, 0, none⟩) 1 1 else if k = 4 ∨ k = 6 then .slice (some ⟨R.n2, 0, none⟩) 2 2
 else if k = 9 then .slice (some ⟨R.t1, 0, none⟩) 1 1 else if k = 7 ∨ k = 8 then .slice (some ⟨R.t2, 0, none⟩) 2 2 else .slice none 0 0
def x0 (R : RT) (k : Nat) : List Value := [a3P R k, .int .i64 (if k ≤ 5 then 1 else 0), R.wv k, fnV (a3i k), fnV (a2U k), fnV (a2N k), fnV (a2G k)]
structure M8 (R : RT) (w : World) : Prop where
 rows : ∀ k, 1 ≤ k → k ≤ 16 → w.rangeAt R.g (k * 7) (x0 R k)
 n1 : w.cell? ⟨R.n1, 0, none⟩ = some (.int .i64 1)
 n2 : w.cell? ⟨R.n2, 0, none⟩ = some (.int .i64 1) ∧ w.cell? ⟨R.n2, 1, none⟩ = some (.int .i64 1)
 t1 : w.cell? ⟨R.t1, 0, none⟩ = some (.int .i64 0)
 t2 : w.cell? ⟨R.t2, 0, none⟩ = some (.int .i64 0) ∧ w.cell? ⟨R.t2, 1, none⟩ = some (.int .i64 0)
 wgt : ∀ k, 1 ≤ k → k ≤ 16 → k ≠ 14 → k ≠ 15 → ∃ b, R.wv k = .func (.func 106) #[] #[.pointer (some ⟨b, 0, none⟩)] ∧ w.cell? ⟨b, 0, none⟩ = some (.int .i64 (a3m k))
 wg2 : ∀ k, k = 14 ∨ k = 15 → ∃ b c, R.wv k = .func (.func 111) #[] #[.pointer (some ⟨c, 0, none⟩), .pointer (some ⟨b, 0, none⟩)] ∧ w.cell? ⟨b, 0, none⟩ = some (.int .i64 (a3m k)) ∧ w.cell? ⟨c, 0, none⟩ = some (.int .i64 (a3m k + 48))
theorem M8.kept {R : RT} {w w' : World} (h : M8 R w) (K : w.grownBy w' none) : M8 R w' where
 rows := fun k h1 h2 j v hv => K.cell (h.rows k h1 h2 j v hv) (by simp)
 n1 := K.cell h.n1 (by simp)
 n2 := ⟨K.cell h.n2.1 (by simp), K.cell h.n2.2 (by simp)⟩
 t1 := K.cell h.t1 (by simp)
 t2 := ⟨K.cell h.t2.1 (by simp), K.cell h.t2.2 (by simp)⟩
 wgt := fun k h1 h2 h3 h4 => by
  obtain ⟨b, e, c⟩ := h.wgt k h1 h2 h3 h4
  exact ⟨b, e, K.cell c (by simp)⟩
 wg2 := fun k h1 => by
  obtain ⟨b, d, e, c1, c2⟩ := h.wg2 k h1
  exact ⟨b, d, e, K.cell c1 (by simp), K.cell c2 (by simp)⟩
theorem mkf (fn : Fn) (first cap : Array Value) (w : World) : (Instr.makeFunc fn first cap).run Tryz.prog w = .ok (.func fn first cap) w := rfl
theorem a6c (w : World) (t : Nat) (v : Value) : (w.alloc (.cells #[v] t)).cell? ⟨w.heap.size, 0, none⟩ = some v := (VAt.alloc w t #[v]).cell 0
theorem a0n (c : Int) (w : World) : Calls Tryz.prog 47 #[.int .i64 c] w fun e w' => ∃ b, e = .returned (.func (.func 106) #[] #[.pointer (some ⟨b, 0, none⟩)]) ∧ w'.cell? ⟨b, 0, none⟩ = some (.int .i64 c) ∧ w.grownBy w' none := by
 have h1 := a6c w 3 (.int .i64 c)
 have h2 := World.grownBy_alloc w (.cells #[.int .i64 c] 3) none
 have hmf := mkf
 go_enter Tryz.func47, Tryz.ntmps47
 go_upto_region 1 with fail
 generalize w.alloc (.cells #[.int .i64 c] 3) = w1 at *
 generalize w.heap.size = B at *
 go_wp2
 go_ret
 exact ⟨B, rfl, h1, h2⟩
theorem ad7 (c d : Int) (w : World) : Calls Tryz.prog 70 #[.int .i64 c, .int .i64 d] w fun e w' => ∃ b g, e = .returned (.func (.func 111) #[] #[.pointer (some ⟨g, 0, none⟩), .pointer (some ⟨b, 0, none⟩)]) ∧ w'.cell? ⟨b, 0, none⟩ = some (.int .i64 c) ∧ w'.cell? ⟨g, 0, none⟩ = some (.int .i64 d) ∧ w.grownBy w' none := by
 have h1 := a6c w 3 (.int .i64 c)
 have h2 := World.grownBy_alloc w (.cells #[.int .i64 c] 3) none
 have h3 := a6c (w.alloc (.cells #[.int .i64 c] 3)) 3 (.int .i64 d)
 have h4 := World.grownBy_alloc (w.alloc (.cells #[.int .i64 c] 3)) (.cells #[.int .i64 d] 3) none
 have h5 := h4.cell h1 (by simp)
 have h6 := d3 h2 h4
 rw [show (w.alloc (.cells #[.int .i64 c] 3)).heap.size = w.heap.size + 1 by simp] at h3
 have hmf := mkf
 clear h1 h2 h4
 go_enter Tryz.func70, Tryz.ntmps70
 go_upto_region 1 with fail
 generalize (w.alloc (.cells #[.int .i64 c] 3)).alloc (.cells #[.int .i64 d] 3) = w1 at *
 generalize w.heap.size + 1 = G at *
 generalize w.heap.size = B at *
 go_wp2
 go_ret
 exact ⟨B, G, rfl, h5, h3, h6⟩
def a5k (n1 n2 t1 t2 : Nat) (v1 v2 v3 v4 v5 v6 v7 v8 v9 v10 v11 v12 v13 v14 v15 v16 : Value) : List Value := [.slice none 0 0, .int .i64 0, .nilFunc, .nilFunc, .nilFunc, .nilFunc, .nilFunc,
 .slice none 0 0, .int .i64 1, v1, fnV 48, fnV 49, fnV 50, fnV 51,
 .slice none 0 0, .int .i64 1, v2, fnV 52, fnV 49, fnV 50, fnV 53,
 .slice (some ⟨n1, 0, none⟩) 1 1, .int .i64 1, v3, fnV 54, fnV 55, fnV 56, fnV 53,
 .slice (some ⟨n2, 0, none⟩) 2 2, .int .i64 1, v4, fnV 57, fnV 58, fnV 50, fnV 59,
 .slice (some ⟨n1, 0, none⟩) 1 1, .int .i64 1, v5, fnV 52, fnV 49, fnV 50, fnV 60,
 .slice (some ⟨n2, 0, none⟩) 2 2, .int .i64 0, v6, fnV 57, fnV 61, fnV 50, fnV 53,
 .slice (some ⟨t2, 0, none⟩) 2 2, .int .i64 0, v7, fnV 52, fnV 49, fnV 50, fnV 53,
 .slice (some ⟨t2, 0, none⟩) 2 2, .int .i64 0, v8, fnV 52, fnV 49, fnV 50, fnV 53,
 .slice (some ⟨t1, 0, none⟩) 1 1, .int .i64 0, v9, fnV 52, fnV 49, fnV 50, fnV 53,
 .slice none 0 0, .int .i64 0, v10, fnV 62, fnV 63, fnV 50, fnV 53,
 .slice none 0 0, .int .i64 0, v11, fnV 64, fnV 65, fnV 50, fnV 53,
 .slice none 0 0, .int .i64 0, v12, fnV 48, fnV 49, fnV 66, fnV 53,
 .slice none 0 0, .int .i64 0, v13, fnV 67, fnV 68, fnV 69, fnV 53,
 .slice none 0 0, .int .i64 0, v14, fnV 71, fnV 72, fnV 50, fnV 53,
 .slice none 0 0, .int .i64 0, v15, fnV 73, fnV 72, fnV 74, fnV 53,
 .slice none 0 0, .int .i64 0, v16, fnV 75, fnV 76, fnV 77, fnV 53]
theorem aA3 (n1 n2 t1 t2 : Nat) (v1 v2 v3 v4 v5 v6 v7 v8 v9 v10 v11 v12 v13 v14 v15 v16 : Value) (W : World) : (Instr.buildSlice 52 17 #[(1, .agg #[.slice none 0 0, .int .i64 1, v1, fnV 48, fnV 49, fnV 50, fnV 51]), (2, .agg #[.slice none 0 0, .int .i64 1, v2, fnV 52, fnV 49, fnV 50, fnV 53]), (3, .agg #[.slice (some ⟨n1, 0, none⟩) 1 1, .int .i64 1, v3, fnV 54, fnV 55, fnV 56, fnV 53]), (4, .agg #[.slice (some ⟨n2, 0, none⟩) 2 2, .int .i64 1, v4, fnV 57, fnV 58, fnV 50, fnV 59]), (5, .agg #[.slice (some ⟨n1, 0, none⟩) 1 1, .int .i64 1, v5, fnV 52, fnV 49, fnV 50, fnV 60]), (6, .agg #[.slice (some ⟨n2, 0, none⟩) 2 2, .int .i64 0, v6, fnV 57, fnV 61, fnV 50, fnV 53]), (7, .agg #[.slice (some ⟨t2, 0, none⟩) 2 2, .int .i64 0, v7, fnV 52, fnV 49, fnV 50, fnV 53]), (8, .agg #[.slice (some ⟨t2, 0, none⟩) 2 2, .int .i64 0, v8, fnV 52, fnV 49, fnV 50, fnV 53]), (9, .agg #[.slice (some ⟨t1, 0, none⟩) 1 1, .int .i64 0, v9, fnV 52, fnV 49, fnV 50, fnV 53]), (10, .agg #[.slice none 0 0, .int .i64 0, v10, fnV 62, fnV 63, fnV 50, fnV 53]), (11, .agg #[.slice none 0 0, .int .i64 0, v11, fnV 64, fnV 65, fnV 50, fnV 53]), (12, .agg #[.slice none 0 0, .int .i64 0, v12, fnV 48, fnV 49, fnV 66, fnV 53]), (13, .agg #[.slice none 0 0, .int .i64 0, v13, fnV 67, fnV 68, fnV 69, fnV 53]), (14, .agg #[.slice none 0 0, .int .i64 0, v14, fnV 71, fnV 72, fnV 50, fnV 53]), (15, .agg #[.slice none 0 0, .int .i64 0, v15, fnV 73, fnV 72, fnV 74, fnV 53]), (16, .agg #[.slice none 0 0, .int .i64 0, v16, fnV 75, fnV 76, fnV 77, fnV 53])]).run Tryz.prog W = .ok (.slice (some ⟨W.heap.size, 0, none⟩) 17 17) (W.alloc (.cells (a5k n1 n2 t1 t2 v1 v2 v3 v4 v5 v6 v7 v8 v9 v10 v11 v12 v13 v14 v15 v16).toArray 77)) := by kernel_rfl
theorem aQ4 (g n1 n2 t1 t2 : Nat) (v1 v2 v3 v4 v5 v6 v7 v8 v9 v10 v11 v12 v13 v14 v15 v16 : Value) (k : Nat) (h1 : 1 ≤ k) (h2 : k ≤ 16) (j : Nat) (hj : j < 7) : (a5k n1 n2 t1 t2 v1 v2 v3 v4 v5 v6 v7 v8 v9 v10 v11 v12 v13 v14 v15 v16)[k * 7 + j]? = (x0 ⟨g, n1, n2, t1, t2, fun k => ([undef, v1, v2, v3, v4, v5, v6, v7, v8, v9, v10, v11, v12, v13, v14, v15, v16] : List Value).getD k undef⟩ k)[j]? := by
 have hk : k = 1 ∨ k = 2 ∨ k = 3 ∨ k = 4 ∨ k = 5 ∨ k = 6 ∨ k = 7 ∨ k = 8 ∨ k = 9 ∨ k = 10 ∨ k = 11 ∨ k = 12 ∨ k = 13 ∨ k = 14 ∨ k = 15 ∨ k = 16 := by omega
 have hjj : j = 0 ∨ j = 1 ∨ j = 2 ∨ j = 3 ∨ j = 4 ∨ j = 5 ∨ j = 6 := by omega
 clear h1 h2 hj
 rcases hk with rfl | rfl | rfl | rfl | rfl | rfl | rfl | rfl | rfl | rfl | rfl | rfl | rfl | rfl | rfl | rfl <;> rcases hjj with rfl | rfl | rfl | rfl | rfl | rfl | rfl <;> rfl
theorem aQ3 (w : World) : Calls Tryz.prog 28 #[] w fun e w' => ∃ R : RT, e = .returned (.slice (some ⟨R.g, 0, none⟩) 17 17) ∧ M8 R w' ∧ w.grownBy w' none := by
 obtain ⟨W4, hW4⟩ : ∃ W4, (((w.alloc (.cells #[.int .i64 1] 3)).alloc (.cells #[.int .i64 1, .int .i64 1] 3)).alloc (.cells #[.int .i64 0] 3)).alloc (.cells #[.int .i64 0, .int .i64 0] 3) = W4 := ⟨_, rfl⟩
 have A1 := VAt.alloc w 3 #[.int .i64 1]
 have A2 := VAt.alloc (w.alloc (.cells #[.int .i64 1] 3)) 3 #[.int .i64 1, .int .i64 1]
 have A3 := VAt.alloc ((w.alloc (.cells #[.int .i64 1] 3)).alloc (.cells #[.int .i64 1, .int .i64 1] 3)) 3 #[.int .i64 0]
 have A4 := VAt.alloc (((w.alloc (.cells #[.int .i64 1] 3)).alloc (.cells #[.int .i64 1, .int .i64 1] 3)).alloc (.cells #[.int .i64 0] 3)) 3 #[.int .i64 0, .int .i64 0]
 have K1 := World.grownBy_alloc w (.cells #[.int .i64 1] 3) none
 have K2 := World.grownBy_alloc (w.alloc (.cells #[.int .i64 1] 3)) (.cells #[.int .i64 1, .int .i64 1] 3) none
 have K3 := World.grownBy_alloc ((w.alloc (.cells #[.int .i64 1] 3)).alloc (.cells #[.int .i64 1, .int .i64 1] 3)) (.cells #[.int .i64 0] 3) none
 have K4 := World.grownBy_alloc (((w.alloc (.cells #[.int .i64 1] 3)).alloc (.cells #[.int .i64 1, .int .i64 1] 3)).alloc (.cells #[.int .i64 0] 3)) (.cells #[.int .i64 0, .int .i64 0] 3) none
 have B1 := A1.kept (d3 K2 (d3 K3 K4))
 have B2 := A2.kept (d3 K3 K4)
 have B3 := A3.kept K4
 have G4 := d3 K1 (d3 K2 (d3 K3 K4))
 simp only [World.size_alloc] at B2 B3 A4
 rw [hW4] at B1 B2 B3 A4 G4
 have HN : Hid (W4.cell? ⟨w.heap.size, 0, none⟩ = some (.int .i64 1) ∧ (W4.cell? ⟨w.heap.size + 1, 0, none⟩ = some (.int .i64 1) ∧ W4.cell? ⟨w.heap.size + 1, 1, none⟩ = some (.int .i64 1)) ∧ W4.cell? ⟨w.heap.size + 1 + 1, 0, none⟩ = some (.int .i64 0) ∧ W4.cell? ⟨w.heap.size + 1 + 1 + 1, 0, none⟩ = some (.int .i64 0) ∧ W4.cell? ⟨w.heap.size + 1 + 1 + 1, 1, none⟩ = some (.int .i64 0)) := ⟨B1.cell 0, ⟨B2.cell 0, B2.cell 1⟩, B3.cell 0, A4.cell 0, A4.cell 1⟩
 clear A1 A2 A3 A4 K1 K2 K3 K4 B1 B2 B3
 go_enter Tryz.func28, Tryz.ntmps28
 go_upto_region 4 with fail
 clear hW4
 generalize w.heap.size + 1 + 1 + 1 = t2 at HN ⊢
 generalize w.heap.size + 1 + 1 = t1 at HN ⊢
 generalize w.heap.size + 1 = n2 at HN ⊢
 generalize w.heap.size = n1 at HN ⊢
 have HG : Hid (w.grownBy W4 none) := G4
 clear G4
 have X0 : Hid (W4.grownBy W4 none) := World.grownBy.refl _ _
 go_wp2_with fail
 refine (a0n _ _).mono ?_
 rintro e w1 ⟨b1, rfl, c1, K1⟩
 have C1 : Hid (w1.cell? ⟨b1, 0, none⟩ = _) := c1
 have X1 : Hid (W4.grownBy w1 none) := K1
 clear c1 K1
 go_wp2_with fail
 refine (a0n _ _).mono ?_
 rintro e w2 ⟨b2, rfl, c2, K2⟩
 have C2 : Hid (w2.cell? ⟨b2, 0, none⟩ = _) := c2
 have X2 : Hid (w1.grownBy w2 none) := K2
 clear c2 K2
 go_wp2_with fail
 refine (a0n _ _).mono ?_
 rintro e w3 ⟨b3, rfl, c3, K3⟩
 have C3 : Hid (w3.cell? ⟨b3, 0, none⟩ = _) := c3
 have X3 : Hid (w2.grownBy w3 none) := K3
 clear c3 K3
 go_wp2_with fail
 refine (a0n _ _).mono ?_
 rintro e w4 ⟨b4, rfl, c4, K4⟩
 have C4 : Hid (w4.cell? ⟨b4, 0, none⟩ = _) := c4
 have X4 : Hid (w3.grownBy w4 none) := K4
 clear c4 K4
 go_wp2_with fail
 refine (a0n _ _).mono ?_
 rintro e w5 ⟨b5, rfl, c5, K5⟩
 have C5 : Hid (w5.cell? ⟨b5, 0, none⟩ = _) := c5
 have X5 : Hid (w4.grownBy w5 none) := K5
 clear c5 K5
 go_wp2_with fail
 refine (a0n _ _).mono ?_
 rintro e w6 ⟨b6, rfl, c6, K6⟩
 have C6 : Hid (w6.cell? ⟨b6, 0, none⟩ = _) := c6
 have X6 : Hid (w5.grownBy w6 none) := K6
 clear c6 K6
 go_wp2_with fail
 refine (a0n _ _).mono ?_
 rintro e w7 ⟨b7, rfl, c7, K7⟩
 have C7 : Hid (w7.cell? ⟨b7, 0, none⟩ = _) := c7
 have X7 : Hid (w6.grownBy w7 none) := K7
 clear c7 K7
 go_wp2_with fail
 refine (a0n _ _).mono ?_
 rintro e w8 ⟨b8, rfl, c8, K8⟩
 have C8 : Hid (w8.cell? ⟨b8, 0, none⟩ = _) := c8
 have X8 : Hid (w7.grownBy w8 none) := K8
 clear c8 K8
 go_wp2_with fail
 refine (a0n _ _).mono ?_
 rintro e w9 ⟨b9, rfl, c9, K9⟩
 have C9 : Hid (w9.cell? ⟨b9, 0, none⟩ = _) := c9
 have X9 : Hid (w8.grownBy w9 none) := K9
 clear c9 K9
 go_wp2_with fail
 refine (a0n _ _).mono ?_
 rintro e w10 ⟨b10, rfl, c10, K10⟩
 have C10 : Hid (w10.cell? ⟨b10, 0, none⟩ = _) := c10
 have X10 : Hid (w9.grownBy w10 none) := K10
 clear c10 K10
 go_wp2_with fail
 refine (a0n _ _).mono ?_
 rintro e w11 ⟨b11, rfl, c11, K11⟩
 have C11 : Hid (w11.cell? ⟨b11, 0, none⟩ = _) := c11
 have X11 : Hid (w10.grownBy w11 none) := K11
 clear c11 K11
 go_wp2_with fail
 refine (a0n _ _).mono ?_
 rintro e w12 ⟨b12, rfl, c12, K12⟩
 have C12 : Hid (w12.cell? ⟨b12, 0, none⟩ = _) := c12
 have X12 : Hid (w11.grownBy w12 none) := K12
 clear c12 K12
 go_wp2_with fail
 refine (a0n _ _).mono ?_
 rintro e w13 ⟨b13, rfl, c13, K13⟩
 have C13 : Hid (w13.cell? ⟨b13, 0, none⟩ = _) := c13
 have X13 : Hid (w12.grownBy w13 none) := K13
 clear c13 K13
 go_wp2_with fail
 refine (ad7 _ _ _).mono ?_
 rintro e w14 ⟨b14, g14, rfl, c14, d14, K14⟩
 have C14 : Hid (w14.cell? ⟨b14, 0, none⟩ = _ ∧ w14.cell? ⟨g14, 0, none⟩ = _) := ⟨c14, d14⟩
 have X14 : Hid (w13.grownBy w14 none) := K14
 clear c14 d14 K14
 go_wp2_with fail
 refine (ad7 _ _ _).mono ?_
 rintro e w15 ⟨b15, g15, rfl, c15, d15, K15⟩
 have C15 : Hid (w15.cell? ⟨b15, 0, none⟩ = _ ∧ w15.cell? ⟨g15, 0, none⟩ = _) := ⟨c15, d15⟩
 have X15 : Hid (w14.grownBy w15 none) := K15
 clear c15 d15 K15
 go_wp2_with fail
 refine (a0n _ _).mono ?_
 rintro e w16 ⟨b16, rfl, c16, K16⟩
 have C16 : Hid (w16.cell? ⟨b16, 0, none⟩ = _) := c16
 have X16 : Hid (w15.grownBy w16 none) := K16
 clear c16 K16
 go_wp2_with (refine b0y (by rfl) 52 17 _ rfl _ (by kernel_rfl) (a5k n1 n2 t1 t2 (.func (.func 106) #[] #[.pointer (some ⟨b1, 0, none⟩)]) (.func (.func 106) #[] #[.pointer (some ⟨b2, 0, none⟩)]) (.func (.func 106) #[] #[.pointer (some ⟨b3, 0, none⟩)]) (.func (.func 106) #[] #[.pointer (some ⟨b4, 0, none⟩)]) (.func (.func 106) #[] #[.pointer (some ⟨b5, 0, none⟩)]) (.func (.func 106) #[] #[.pointer (some ⟨b6, 0, none⟩)]) (.func (.func 106) #[] #[.pointer (some ⟨b7, 0, none⟩)]) (.func (.func 106) #[] #[.pointer (some ⟨b8, 0, none⟩)]) (.func (.func 106) #[] #[.pointer (some ⟨b9, 0, none⟩)]) (.func (.func 106) #[] #[.pointer (some ⟨b10, 0, none⟩)]) (.func (.func 106) #[] #[.pointer (some ⟨b11, 0, none⟩)]) (.func (.func 106) #[] #[.pointer (some ⟨b12, 0, none⟩)]) (.func (.func 106) #[] #[.pointer (some ⟨b13, 0, none⟩)]) (.func (.func 111) #[] #[.pointer (some ⟨g14, 0, none⟩), .pointer (some ⟨b14, 0, none⟩)]) (.func (.func 111) #[] #[.pointer (some ⟨g15, 0, none⟩), .pointer (some ⟨b15, 0, none⟩)]) (.func (.func 106) #[] #[.pointer (some ⟨b16, 0, none⟩)])) 77 (aA3 n1 n2 t1 t2 (.func (.func 106) #[] #[.pointer (some ⟨b1, 0, none⟩)]) (.func (.func 106) #[] #[.pointer (some ⟨b2, 0, none⟩)]) (.func (.func 106) #[] #[.pointer (some ⟨b3, 0, none⟩)]) (.func (.func 106) #[] #[.pointer (some ⟨b4, 0, none⟩)]) (.func (.func 106) #[] #[.pointer (some ⟨b5, 0, none⟩)]) (.func (.func 106) #[] #[.pointer (some ⟨b6, 0, none⟩)]) (.func (.func 106) #[] #[.pointer (some ⟨b7, 0, none⟩)]) (.func (.func 106) #[] #[.pointer (some ⟨b8, 0, none⟩)]) (.func (.func 106) #[] #[.pointer (some ⟨b9, 0, none⟩)]) (.func (.func 106) #[] #[.pointer (some ⟨b10, 0, none⟩)]) (.func (.func 106) #[] #[.pointer (some ⟨b11, 0, none⟩)]) (.func (.func 106) #[] #[.pointer (some ⟨b12, 0, none⟩)]) (.func (.func 106) #[] #[.pointer (some ⟨b13, 0, none⟩)]) (.func (.func 111) #[] #[.pointer (some ⟨g14, 0, none⟩), .pointer (some ⟨b14, 0, none⟩)]) (.func (.func 111) #[] #[.pointer (some ⟨g15, 0, none⟩), .pointer (some ⟨b15, 0, none⟩)]) (.func (.func 106) #[] #[.pointer (some ⟨b16, 0, none⟩)])) ?_; intro V wl CL KL)
 have Y16 : w16.grownBy wl none := KL
 have Y15 := d3 X16.out Y16
 have Y14 := d3 X15.out Y15
 have Y13 := d3 X14.out Y14
 have Y12 := d3 X13.out Y13
 have Y11 := d3 X12.out Y12
 have Y10 := d3 X11.out Y11
 have Y9 := d3 X10.out Y10
 have Y8 := d3 X9.out Y9
 have Y7 := d3 X8.out Y8
 have Y6 := d3 X7.out Y7
 have Y5 := d3 X6.out Y6
 have Y4 := d3 X5.out Y5
 have Y3 := d3 X4.out Y4
 have Y2 := d3 X3.out Y3
 have Y1 := d3 X2.out Y2
 have Y0 := d3 X1.out Y1
 have GW := d3 HG.out Y0
 have TT : M8 ⟨V, n1, n2, t1, t2, fun k => ([undef, (.func (.func 106) #[] #[.pointer (some ⟨b1, 0, none⟩)]), (.func (.func 106) #[] #[.pointer (some ⟨b2, 0, none⟩)]), (.func (.func 106) #[] #[.pointer (some ⟨b3, 0, none⟩)]), (.func (.func 106) #[] #[.pointer (some ⟨b4, 0, none⟩)]), (.func (.func 106) #[] #[.pointer (some ⟨b5, 0, none⟩)]), (.func (.func 106) #[] #[.pointer (some ⟨b6, 0, none⟩)]), (.func (.func 106) #[] #[.pointer (some ⟨b7, 0, none⟩)]), (.func (.func 106) #[] #[.pointer (some ⟨b8, 0, none⟩)]), (.func (.func 106) #[] #[.pointer (some ⟨b9, 0, none⟩)]), (.func (.func 106) #[] #[.pointer (some ⟨b10, 0, none⟩)]), (.func (.func 106) #[] #[.pointer (some ⟨b11, 0, none⟩)]), (.func (.func 106) #[] #[.pointer (some ⟨b12, 0, none⟩)]), (.func (.func 106) #[] #[.pointer (some ⟨b13, 0, none⟩)]), (.func (.func 111) #[] #[.pointer (some ⟨g14, 0, none⟩), .pointer (some ⟨b14, 0, none⟩)]), (.func (.func 111) #[] #[.pointer (some ⟨g15, 0, none⟩), .pointer (some ⟨b15, 0, none⟩)]), (.func (.func 106) #[] #[.pointer (some ⟨b16, 0, none⟩)])] : List Value).getD k undef⟩ wl := {
  rows := fun k h1 h2 j v hv => by
   have hj : j < 7 := (List.getElem?_eq_some_iff.1 hv).1
   have e := aQ4 V n1 n2 t1 t2 (.func (.func 106) #[] #[.pointer (some ⟨b1, 0, none⟩)]) (.func (.func 106) #[] #[.pointer (some ⟨b2, 0, none⟩)]) (.func (.func 106) #[] #[.pointer (some ⟨b3, 0, none⟩)]) (.func (.func 106) #[] #[.pointer (some ⟨b4, 0, none⟩)]) (.func (.func 106) #[] #[.pointer (some ⟨b5, 0, none⟩)]) (.func (.func 106) #[] #[.pointer (some ⟨b6, 0, none⟩)]) (.func (.func 106) #[] #[.pointer (some ⟨b7, 0, none⟩)]) (.func (.func 106) #[] #[.pointer (some ⟨b8, 0, none⟩)]) (.func (.func 106) #[] #[.pointer (some ⟨b9, 0, none⟩)]) (.func (.func 106) #[] #[.pointer (some ⟨b10, 0, none⟩)]) (.func (.func 106) #[] #[.pointer (some ⟨b11, 0, none⟩)]) (.func (.func 106) #[] #[.pointer (some ⟨b12, 0, none⟩)]) (.func (.func 106) #[] #[.pointer (some ⟨b13, 0, none⟩)]) (.func (.func 111) #[] #[.pointer (some ⟨g14, 0, none⟩), .pointer (some ⟨b14, 0, none⟩)]) (.func (.func 111) #[] #[.pointer (some ⟨g15, 0, none⟩), .pointer (some ⟨b15, 0, none⟩)]) (.func (.func 106) #[] #[.pointer (some ⟨b16, 0, none⟩)]) k h1 h2 j hj
   rw [hv] at e
   obtain ⟨hlt, e2⟩ := List.getElem?_eq_some_iff.1 e
   have := CL.2 _ rfl (k * 7 + j) hlt
   rw [Addr.add_lit, Nat.zero_add] at this
   rw [this, e2]
  n1 := Y0.cell HN.out.1 (by simp)
  n2 := ⟨Y0.cell HN.out.2.1.1 (by simp), Y0.cell HN.out.2.1.2 (by simp)⟩
  t1 := Y0.cell HN.out.2.2.1 (by simp)
  t2 := ⟨Y0.cell HN.out.2.2.2.1 (by simp), Y0.cell HN.out.2.2.2.2 (by simp)⟩
  wgt := fun k h1 h2 h3 h4 => by
   have : k = 1 ∨ k = 2 ∨ k = 3 ∨ k = 4 ∨ k = 5 ∨ k = 6 ∨ k = 7 ∨ k = 8 ∨ k = 9 ∨ k = 10 ∨ k = 11 ∨ k = 12 ∨ k = 13 ∨ k = 16 := by omega
   rcases this with rfl | rfl | rfl | rfl | rfl | rfl | rfl | rfl | rfl | rfl | rfl | rfl | rfl | rfl
   ·exact ⟨b1, rfl, Y1.cell C1.out (by simp)⟩
   ·exact ⟨b2, rfl, Y2.cell C2.out (by simp)⟩
   ·exact ⟨b3, rfl, Y3.cell C3.out (by simp)⟩
   ·exact ⟨b4, rfl, Y4.cell C4.out (by simp)⟩
   ·exact ⟨b5, rfl, Y5.cell C5.out (by simp)⟩
   ·exact ⟨b6, rfl, Y6.cell C6.out (by simp)⟩
   ·exact ⟨b7, rfl, Y7.cell C7.out (by simp)⟩
   ·exact ⟨b8, rfl, Y8.cell C8.out (by simp)⟩
   ·exact ⟨b9, rfl, Y9.cell C9.out (by simp)⟩
   ·exact ⟨b10, rfl, Y10.cell C10.out (by simp)⟩
   ·exact ⟨b11, rfl, Y11.cell C11.out (by simp)⟩
   ·exact ⟨b12, rfl, Y12.cell C12.out (by simp)⟩
   ·exact ⟨b13, rfl, Y13.cell C13.out (by simp)⟩
   ·exact ⟨b16, rfl, Y16.cell C16.out (by simp)⟩
  wg2 := fun k h => by
   rcases h with rfl | rfl
   ·exact ⟨b14, g14, rfl, Y14.cell C14.out.1 (by simp), Y14.cell C14.out.2 (by simp)⟩
   ·exact ⟨b15, g15, rfl, Y15.cell C15.out.1 (by simp), Y15.cell C15.out.2 (by simp)⟩ }
 clear C1 X1 Y1 C2 X2 Y2 C3 X3 Y3 C4 X4 Y4 C5 X5 Y5 C6 X6 Y6 C7 X7 Y7 C8 X8 Y8 C9 X9 Y9 C10 X10 Y10 C11 X11 Y11 C12 X12 Y12 C13 X13 Y13 C14 X14 Y14 C15 X15 Y15 C16 X16 Y16 CL KL
 go_wp2
 go_ret
 exact ⟨_, rfl, TT, GW⟩
theorem a1j {k : Nat} (h1 : 1 ≤ k) (h2 : k ≤ 16) : k = 1 ∨ k = 2 ∨ k = 3 ∨ k = 4 ∨ k = 5 ∨ k = 6 ∨ k = 7 ∨ k = 8 ∨ k = 9 ∨ k = 10 ∨ k = 11 ∨ k = 12 ∨ k = 13 ∨ k = 14 ∨ k = 15 ∨ k = 16 := by omega
theorem aZ5 (k : Nat) (h1 : 1 ≤ k) (h2 : k ≤ 16) : ∀ args w, (callFunc (a3i k) args).run Tryz.prog w = .ok (.enter (a3i k) args) w := by
 rcases a1j h1 h2 with rfl | rfl | rfl | rfl | rfl | rfl | rfl | rfl | rfl | rfl | rfl | rfl | rfl | rfl | rfl | rfl
 ·exact enters_of Tryz.func48 (by kernel_rfl) rfl
 ·exact enters_of Tryz.func52 (by kernel_rfl) rfl
 ·exact enters_of Tryz.func54 (by kernel_rfl) rfl
 ·exact enters_of Tryz.func57 (by kernel_rfl) rfl
 ·exact enters_of Tryz.func52 (by kernel_rfl) rfl
 ·exact enters_of Tryz.func57 (by kernel_rfl) rfl
 ·exact enters_of Tryz.func52 (by kernel_rfl) rfl
 ·exact enters_of Tryz.func52 (by kernel_rfl) rfl
 ·exact enters_of Tryz.func52 (by kernel_rfl) rfl
 ·exact enters_of Tryz.func62 (by kernel_rfl) rfl
 ·exact enters_of Tryz.func64 (by kernel_rfl) rfl
 ·exact enters_of Tryz.func48 (by kernel_rfl) rfl
 ·exact enters_of Tryz.func67 (by kernel_rfl) rfl
 ·exact enters_of Tryz.func71 (by kernel_rfl) rfl
 ·exact enters_of Tryz.func73 (by kernel_rfl) rfl
 ·exact enters_of Tryz.func75 (by kernel_rfl) rfl
theorem aB9 (k : Nat) (h1 : 1 ≤ k) (h2 : k ≤ 16) : ∀ args w, (callFunc (a2U k) args).run Tryz.prog w = .ok (.enter (a2U k) args) w := by
 rcases a1j h1 h2 with rfl | rfl | rfl | rfl | rfl | rfl | rfl | rfl | rfl | rfl | rfl | rfl | rfl | rfl | rfl | rfl
 ·exact enters_of Tryz.func49 (by kernel_rfl) rfl
 ·exact enters_of Tryz.func49 (by kernel_rfl) rfl
 ·exact enters_of Tryz.func55 (by kernel_rfl) rfl
 ·exact enters_of Tryz.func58 (by kernel_rfl) rfl
 ·exact enters_of Tryz.func49 (by kernel_rfl) rfl
 ·exact enters_of Tryz.func61 (by kernel_rfl) rfl
 ·exact enters_of Tryz.func49 (by kernel_rfl) rfl
 ·exact enters_of Tryz.func49 (by kernel_rfl) rfl
 ·exact enters_of Tryz.func49 (by kernel_rfl) rfl
 ·exact enters_of Tryz.func63 (by kernel_rfl) rfl
 ·exact enters_of Tryz.func65 (by kernel_rfl) rfl
 ·exact enters_of Tryz.func49 (by kernel_rfl) rfl
 ·exact enters_of Tryz.func68 (by kernel_rfl) rfl
 ·exact enters_of Tryz.func72 (by kernel_rfl) rfl
 ·exact enters_of Tryz.func72 (by kernel_rfl) rfl
 ·exact enters_of Tryz.func76 (by kernel_rfl) rfl
theorem aj6 (k : Nat) (h1 : 1 ≤ k) (h2 : k ≤ 16) : ∀ args w, (callFunc (a2N k) args).run Tryz.prog w = .ok (.enter (a2N k) args) w := by
 rcases a1j h1 h2 with rfl | rfl | rfl | rfl | rfl | rfl | rfl | rfl | rfl | rfl | rfl | rfl | rfl | rfl | rfl | rfl
 ·exact enters_of Tryz.func50 (by kernel_rfl) rfl
 ·exact enters_of Tryz.func50 (by kernel_rfl) rfl
 ·exact enters_of Tryz.func56 (by kernel_rfl) rfl
 ·exact enters_of Tryz.func50 (by kernel_rfl) rfl
 ·exact enters_of Tryz.func50 (by kernel_rfl) rfl
 ·exact enters_of Tryz.func50 (by kernel_rfl) rfl
 ·exact enters_of Tryz.func50 (by kernel_rfl) rfl
 ·exact enters_of Tryz.func50 (by kernel_rfl) rfl
 ·exact enters_of Tryz.func50 (by kernel_rfl) rfl
 ·exact enters_of Tryz.func50 (by kernel_rfl) rfl
 ·exact enters_of Tryz.func50 (by kernel_rfl) rfl
 ·exact enters_of Tryz.func66 (by kernel_rfl) rfl
 ·exact enters_of Tryz.func69 (by kernel_rfl) rfl
 ·exact enters_of Tryz.func50 (by kernel_rfl) rfl
 ·exact enters_of Tryz.func74 (by kernel_rfl) rfl
 ·exact enters_of Tryz.func77 (by kernel_rfl) rfl
theorem b04 (k : Nat) (h1 : 1 ≤ k) (h2 : k ≤ 16) : ∀ args w, (callFunc (a2G k) args).run Tryz.prog w = .ok (.enter (a2G k) args) w := by
 rcases a1j h1 h2 with rfl | rfl | rfl | rfl | rfl | rfl | rfl | rfl | rfl | rfl | rfl | rfl | rfl | rfl | rfl | rfl
 ·exact enters_of Tryz.func51 (by kernel_rfl) rfl
 ·exact enters_of Tryz.func53 (by kernel_rfl) rfl
 ·exact enters_of Tryz.func53 (by kernel_rfl) rfl
 ·exact enters_of Tryz.func59 (by kernel_rfl) rfl
 ·exact enters_of Tryz.func60 (by kernel_rfl) rfl
 ·exact enters_of Tryz.func53 (by kernel_rfl) rfl
 ·exact enters_of Tryz.func53 (by kernel_rfl) rfl
 ·exact enters_of Tryz.func53 (by kernel_rfl) rfl
 ·exact enters_of Tryz.func53 (by kernel_rfl) rfl
 ·exact enters_of Tryz.func53 (by kernel_rfl) rfl
 ·exact enters_of Tryz.func53 (by kernel_rfl) rfl
 ·exact enters_of Tryz.func53 (by kernel_rfl) rfl
 ·exact enters_of Tryz.func53 (by kernel_rfl) rfl
 ·exact enters_of Tryz.func53 (by kernel_rfl) rfl
 ·exact enters_of Tryz.func53 (by kernel_rfl) rfl
 ·exact enters_of Tryz.func53 (by kernel_rfl) rfl
theorem aZ6 (x : Ng) (k : Nat) (h1 : 1 ≤ k) (h2 : k ≤ 16) (hk : x.kind = k) (w : World) : Calls Tryz.prog (a3i k) #[.agg x.cells.toArray] w fun e w' => e = .returned (.agg (D0 x).cells.toArray) ∧ w.grownBy w' none := by
 rcases a1j h1 h2 with rfl | rfl | rfl | rfl | rfl | rfl | rfl | rfl | rfl | rfl | rfl | rfl | rfl | rfl | rfl | rfl
 ·exact ac9 x w (by omega)
 ·exact a3R x w (by omega)
 ·exact b00 x w (by omega)
 ·exact ad0 x w (by omega)
 ·exact a3R x w (by omega)
 ·exact ad0 x w (by omega)
 ·exact a3R x w (by omega)
 ·exact a3R x w (by omega)
 ·exact a3R x w (by omega)
 ·exact b03 x w (by omega)
 ·exact b01 x w (by omega)
 ·exact ac9 x w (by omega)
 ·exact aZ9 x w (by omega)
 ·exact aZ7 x w (by omega)
 ·exact aZ8 x w (by omega)
 ·exact b02 x w (by omega)
theorem aC3 (x : Ng) (k : Nat) (h1 : 1 ≤ k) (h2 : k ≤ 16) (hk : x.kind = k) (w : World) : Calls Tryz.prog (a2U k) #[.agg x.cells.toArray] w fun e w' => e = .returned (.bool (q7 x)) ∧ w.grownBy w' none := by
 rcases a1j h1 h2 with rfl | rfl | rfl | rfl | rfl | rfl | rfl | rfl | rfl | rfl | rfl | rfl | rfl | rfl | rfl | rfl
 ·rw [show q7 x = true by unfold q7; rw [hk]; rfl]; exact a23 x w
 ·rw [show q7 x = true by unfold q7; rw [hk]; rfl]; exact a23 x w
 ·rw [show q7 x = inG x.of 1 12 by unfold q7; rw [hk]; rfl]; exact aB8 x w
 ·rw [show q7 x = inG x.op 1 10 by unfold q7; rw [hk]; rfl]; exact aC2 x w
 ·rw [show q7 x = true by unfold q7; rw [hk]; rfl]; exact a23 x w
 ·rw [show q7 x = inG x.op 1 6 by unfold q7; rw [hk]; rfl]; exact aB6 x w
 ·rw [show q7 x = true by unfold q7; rw [hk]; rfl]; exact a23 x w
 ·rw [show q7 x = true by unfold q7; rw [hk]; rfl]; exact a23 x w
 ·rw [show q7 x = true by unfold q7; rw [hk]; rfl]; exact a23 x w
 ·rw [show q7 x = inG x.side 1 2 by unfold q7; rw [hk]; rfl]; exact aB7 x w
 ·rw [show q7 x = inG x.of 2 13 by unfold q7; rw [hk]; rfl]; exact aC0 x w
 ·rw [show q7 x = true by unfold q7; rw [hk]; rfl]; exact a23 x w
 ·rw [show q7 x = inG x.of 2 3 by unfold q7; rw [hk]; rfl]; exact a90 x w
 ·rw [show q7 x = a1I x by unfold q7; rw [hk]; rfl]; exact a8Z x w
 ·rw [show q7 x = a1I x by unfold q7; rw [hk]; rfl]; exact a8Z x w
 ·rw [show q7 x = ((x.of == 0 || inG x.of 4 5) && inG x.side 0 2) by unfold q7; rw [hk]; rfl]; exact aC1 x w
theorem aj7 (x : Ng) (k : Nat) (h1 : 1 ≤ k) (h2 : k ≤ 16) (hk : x.kind = k) (w : World) : Calls Tryz.prog (a2N k) #[.agg x.cells.toArray] w fun e w' => e = .returned (.int .i64 (m4 x)) ∧ w.grownBy w' none := by
 rcases a1j h1 h2 with rfl | rfl | rfl | rfl | rfl | rfl | rfl | rfl | rfl | rfl | rfl | rfl | rfl | rfl | rfl | rfl
 ·rw [show m4 x = 0 by unfold m4; rw [hk]; rfl]; exact a18 x w
 ·rw [show m4 x = 0 by unfold m4; rw [hk]; rfl]; exact a18 x w
 ·rw [show m4 x = (if x.size = 1 ∨ x.size = 2 ∨ x.size = 4 then 0 else 124) by unfold m4; rw [hk]; rfl]; exact aj8 x w
 ·rw [show m4 x = 0 by unfold m4; rw [hk]; rfl]; exact a18 x w
 ·rw [show m4 x = 0 by unfold m4; rw [hk]; rfl]; exact a18 x w
 ·rw [show m4 x = 0 by unfold m4; rw [hk]; rfl]; exact a18 x w
 ·rw [show m4 x = 0 by unfold m4; rw [hk]; rfl]; exact a18 x w
 ·rw [show m4 x = 0 by unfold m4; rw [hk]; rfl]; exact a18 x w
 ·rw [show m4 x = 0 by unfold m4; rw [hk]; rfl]; exact a18 x w
 ·rw [show m4 x = 0 by unfold m4; rw [hk]; rfl]; exact a18 x w
 ·rw [show m4 x = 0 by unfold m4; rw [hk]; rfl]; exact a18 x w
 ·rw [show m4 x = (if x.n ≤ 65535 then 0 else 124) by unfold m4; rw [hk]; rfl]; exact ak2 x w
 ·rw [show m4 x = (if x.n ≤ 255 then 0 else 124) by unfold m4; rw [hk]; rfl]; exact ak0 x w
 ·rw [show m4 x = 0 by unfold m4; rw [hk]; rfl]; exact a18 x w
 ·exact aj9 x w hk
 ·rw [show m4 x = (if x.n ≤ x.m ∧ x.m ≤ 65535 then 0 else 124) by unfold m4; rw [hk]; rfl]; exact ak1 x w
theorem b05 (x : Ng) (ps : List Pt) (k : Nat) (h1 : 1 ≤ k) (h2 : k ≤ 16) (hk : x.kind = k) (ha : arG x.kind = some ps.length) (hf : U9 x = true) (hz : Z1 x ps = false) (hx : ps.all (·.fixed) = true) (hv : ∀ p ∈ ps, p.val ≤ 4294967295)
  (ao : Option Addr) (cap : Nat) (w : World) (C : CV w ao (r9 ptC ps)) : Calls Tryz.prog (a2G k) #[.agg x.cells.toArray, .slice ao ps.length cap] w fun e w' => e = .returned (a03 x ps) ∧ w.grownBy w' none := by
 rcases a1j h1 h2 with rfl | rfl | rfl | rfl | rfl | rfl | rfl | rfl | rfl | rfl | rfl | rfl | rfl | rfl | rfl | rfl
 ·exact ax1 x ps _ w hk
 ·exact a0F x ps _ w ⟨by omega, by omega, by omega⟩
 ·exact a0F x ps _ w ⟨by omega, by omega, by omega⟩
 ·rw [hk] at ha
  have hl : ps.length = 2 := (Option.some.inj ha).symm
  match ps, hl with
  | [p, q], _ =>
   have hm : q7 x = true := by unfold U9 at hf; simp only [Bool.and_eq_true] at hf; exact hf.2
   rw [show q7 x = inG x.op 1 10 by unfold q7; rw [hk]; rfl] at hm
   have ho : 1 ≤ x.op ∧ x.op ≤ 10 := by unfold inG at hm; simpa using hm
   refine aO2 x p q ao cap w C (hv p (by simp)) (hv q (by simp)) hk ho (fun hd h0 => ?_)
   have hq : q.fixed = true := by simp at hx; exact hx.2
   have : Z1 x [p, q] = true := by unfold Z1; rw [hk, hd]; simp [hq, h0]
   rw [this] at hz
   cases hz
 ·rw [hk] at ha
  have hl : ps.length = 1 := (Option.some.inj ha).symm
  match ps, hl with
  | [p], _ => exact aE7 x p ao cap w C (hv p (by simp)) hk
 ·exact a0F x ps _ w ⟨by omega, by omega, by omega⟩
 ·exact a0F x ps _ w ⟨by omega, by omega, by omega⟩
 ·exact a0F x ps _ w ⟨by omega, by omega, by omega⟩
 ·exact a0F x ps _ w ⟨by omega, by omega, by omega⟩
 ·exact a0F x ps _ w ⟨by omega, by omega, by omega⟩
 ·exact a0F x ps _ w ⟨by omega, by omega, by omega⟩
 ·exact a0F x ps _ w ⟨by omega, by omega, by omega⟩
 ·exact a0F x ps _ w ⟨by omega, by omega, by omega⟩
 ·exact a0F x ps _ w ⟨by omega, by omega, by omega⟩
 ·exact a0F x ps _ w ⟨by omega, by omega, by omega⟩
 ·exact a0F x ps _ w ⟨by omega, by omega, by omega⟩
theorem M8.wone {R : RT} {w : World} (h : M8 R w) {k : Nat} (h1 : 1 ≤ k) (h2 : k ≤ 16) : (R.wv k).oneCell' = true := by
 by_cases h3 : k = 14 ∨ k = 15
 ·obtain ⟨b, c, e, -⟩ := h.wg2 k h3
  rw [e]; rfl
 ·obtain ⟨b, e, -⟩ := h.wgt k h1 h2 (by omega) (by omega)
  rw [e]; rfl
theorem a6w {R : RT} {w : World} (h : M8 R w) {k : Nat} (h1 : 1 ≤ k) (h2 : k ≤ 16) : (x0 R k).toArray.all (·.oneCell') = true := by
 have h0 := h.wone h1 h2
 have h3 : (a3P R k).oneCell' = true := by
  unfold a3P
  repeat' split
  all_goals rfl
 rw [List.all_toArray, List.all_eq_true]
 intro u hu
 simp only [x0, List.mem_cons, List.not_mem_nil, or_false] at hu
 rcases hu with rfl | rfl | rfl | rfl | rfl | rfl | rfl
 ·exact h3
 ·rfl
 ·exact h0
 ·rfl
 ·rfl
 ·rfl
 ·rfl
theorem a1k : (Tryz.prog.info? 77).map (·.size) = some 7 := by kernel_rfl
def I8 : List Value := [.slice none 0 0, .int .i64 0, .nilFunc, .nilFunc, .nilFunc, .nilFunc, .nilFunc]
theorem a4I : I8.toArray.all (·.oneCell') = true := by simp [I8, Value.oneCell']
theorem a9H (R : RT) (x : Int) (hx : arG x = none) (w : World) : Calls Tryz.prog 35 #[.slice (some ⟨R.g, 0, none⟩) 17 17, .int .i64 x] w fun e w' => e = .returned (.tuple #[.agg I8.toArray, .bool false]) ∧ w.grownBy w' none := by
 have hn := a7j.1 hx
 have V := VAt.alloc w 77 I8.toArray
 have G := World.grownBy_alloc w (.cells I8.toArray 77) none
 have hge : Hid (w.heap.size ≤ w.heap.size) := Nat.le_refl _
 have HBD : ∀ W : World, (Instr.build 77 #[]).run Tryz.prog W = .ok (.agg I8.toArray) W := fun W => by kernel_rfl
 by_cases h1 : x < 1
 ·have e1 : decide (x < 1) = true := decide_eq_true h1
  clear hn h1 hx
  go_enter Tryz.func35, Tryz.ntmps35
  go_upto_region 1 with fail
  rw [show (#[.slice none 0 0, .int .i64 0, .nilFunc, .nilFunc, .nilFunc, .nilFunc, .nilFunc] : Array Value) = I8.toArray from rfl]
  generalize w.alloc (.cells I8.toArray 77) = w1 at *
  obtain ⟨B, hB⟩ : ∃ B, w.heap.size = B := ⟨_, rfl⟩
  have HG : Hid (w.grownBy (w1.setRow B I8.toArray) none) := x5 G B _ (.inr (by omega))
  rw [hB] at V ⊢
  clear hB hge G
  go_wp2_with (refine wpList_store_row rfl 77 (.tmp 4) (.tmp 14) rfl B I8.toArray rfl rfl 77 _ V a1k rfl a4I ?_)
  refine bodyPost_ret (W8 rfl _ _ B I8.toArray _ rfl (V.setRow _) Tryz.underlying77 rfl a1k) rfl ?_
  exact ⟨rfl, HG.out⟩
 ·have e1 : decide (x < 1) = false := decide_eq_false h1
  have e2 : decide ((17 : Int) ≤ x) = true := decide_eq_true (by omega)
  clear hn h1 hx
  go_enter Tryz.func35, Tryz.ntmps35
  go_upto_region 1 with fail
  rw [show (#[.slice none 0 0, .int .i64 0, .nilFunc, .nilFunc, .nilFunc, .nilFunc, .nilFunc] : Array Value) = I8.toArray from rfl]
  generalize w.alloc (.cells I8.toArray 77) = w1 at *
  obtain ⟨B, hB⟩ : ∃ B, w.heap.size = B := ⟨_, rfl⟩
  have HG : Hid (w.grownBy (w1.setRow B I8.toArray) none) := x5 G B _ (.inr (by omega))
  rw [hB] at V ⊢
  clear hB hge G
  go_wp2_with (refine wpList_store_row rfl 77 (.tmp 4) (.tmp 14) rfl B I8.toArray rfl rfl 77 _ V a1k rfl a4I ?_)
  refine bodyPost_ret (W8 rfl _ _ B I8.toArray _ rfl (V.setRow _) Tryz.underlying77 rfl a1k) rfl ?_
  exact ⟨rfl, HG.out⟩
theorem a9I (R : RT) (k : Nat) (h1 : 1 ≤ k) (h2 : k ≤ 16) (w : World) (T : M8 R w) : Calls Tryz.prog 35 #[.slice (some ⟨R.g, 0, none⟩) 17 17, .int .i64 (k : Int)] w fun e w' => e = .returned (.tuple #[.agg (x0 R k).toArray, .bool true]) ∧ w.grownBy w' none := by
 have V := VAt.alloc w 77 I8.toArray
 have G := World.grownBy_alloc w (.cells I8.toArray 77) none
 have HR : Hid ((w.alloc (.cells I8.toArray 77)).rangeAt R.g (k * 7) (x0 R k)) := (T.kept G).rows k h1 h2
 have HC : Hid ((Tryz.prog.info? 77).map (·.size) = some (x0 R k).length ∧ (Tryz.prog.info? 77).map (·.size) = some (x0 R k).toArray.size ∧ I8.toArray.size = (x0 R k).toArray.size ∧ (x0 R k).toArray.all (·.oneCell') = true) := ⟨a1k, a1k, rfl, a6w T h1 h2⟩
 obtain ⟨cs, hcs⟩ : ∃ cs, x0 R k = cs := ⟨_, rfl⟩
 rw [hcs] at HR HC ⊢
 have e1 : decide ((k : Int) < 1) = false := decide_eq_false (by omega)
 have e2 : decide ((17 : Int) ≤ (k : Int)) = false := decide_eq_false (by omega)
 have z0 : (0 : Int) ≤ (k : Int) := by omega
 have z1 : (k : Int) < 17 := by omega
 clear hcs T h1 h2
 go_enter Tryz.func35, Tryz.ntmps35
 go_upto_region 1 with fail
 rw [show (#[.slice none 0 0, .int .i64 0, .nilFunc, .nilFunc, .nilFunc, .nilFunc, .nilFunc] : Array Value) = I8.toArray from rfl]
 generalize w.alloc (.cells I8.toArray 77) = w1 at *
 obtain ⟨B, hB⟩ : ∃ B, w.heap.size = B := ⟨_, rfl⟩
 have HG : Hid (w.grownBy (w1.setRow B cs.toArray) none) := x5 G B _ (.inr (by omega))
 rw [hB] at V ⊢
 clear hB G
 go_wp2_with (first | refine wpList_load_mid rfl 77 (.tmp 17) rfl R.g (k * 7) (by simp [Act.eval]) cs _ HR.out Tryz.underlying77 rfl HC.out.1 ?_ | refine wpList_store_row rfl 77 (.tmp 4) (.tmp 18) rfl B cs.toArray rfl rfl 77 _ V HC.out.2.1 HC.out.2.2.1 HC.out.2.2.2 ?_)
 refine bodyPost_ret (W8 rfl _ _ B cs.toArray _ rfl (V.setRow _) Tryz.underlying77 rfl HC.out.2.1) rfl ?_
 exact ⟨rfl, HG.out⟩
theorem b0n (x : Ng) (b : Nat) (c : Int) (w : World) (hc : w.cell? ⟨b, 0, none⟩ = some (.int .i64 c)) : Calls Tryz.prog 106 #[.agg x.cells.toArray, .pointer (some ⟨b, 0, none⟩)] w fun e w' => e = .returned (.int .i64 c) ∧ w.grownBy w' none := by
 have HBX := s8 x
 have h3 := World.grownBy_alloc w (.cells x.cells.toArray 43) none
 have c1 := h3.cell hc (by simp)
 obtain ⟨X, hX⟩ : ∃ X, x.cells.toArray = X := ⟨_, rfl⟩
 rw [hX] at HBX ⊢
 go_enter Tryz.func106, Tryz.ntmps106
 go_upto_region 1 with fail
 rw [← hX] at *
 generalize w.alloc (.cells x.cells.toArray 43) = w1 at *
 generalize w.heap.size = B at *
 clear HBX hX X hc
 go_wp2
 go_ret
 exact ⟨rfl, h3⟩
theorem b0o (x : Ng) (b g : Nat) (c d : Int) (w : World) (hc : w.cell? ⟨b, 0, none⟩ = some (.int .i64 c)) (hd : w.cell? ⟨g, 0, none⟩ = some (.int .i64 d)) : Calls Tryz.prog 111 #[.agg x.cells.toArray, .pointer (some ⟨g, 0, none⟩), .pointer (some ⟨b, 0, none⟩)] w fun e w' => e = .returned (.int .i64 (if x.of = 3 then d else c)) ∧ w.grownBy w' none := by
 obtain ⟨E, hE⟩ : ∃ E : Int, (if x.of = 3 then d else c) = E := ⟨_, rfl⟩
 rw [hE]
 have HE : Hid ((if x.of = 3 then d else c) = E) := hE
 clear hE
 have HBX := s8 x
 have h1 := NB.alloc w x
 have h3 := World.grownBy_alloc w (.cells x.cells.toArray 43) none
 have c1 := h3.cell hc (by simp)
 have c2 := h3.cell hd (by simp)
 have c5 := h1.of
 obtain ⟨X, hX⟩ : ∃ X, x.cells.toArray = X := ⟨_, rfl⟩
 rw [hX] at HBX ⊢
 by_cases q : x.of = 3
 ·have HQ : Hid (x.of = 3) := q
  have e1 : (x.of == 3) = true := by simpa using q
  clear q
  go_enter Tryz.func111, Tryz.ntmps111
  go_upto_region 1 with fail
  rw [← hX] at *
  generalize w.alloc (.cells x.cells.toArray 43) = w1 at *
  generalize w.heap.size = B at *
  clear HBX hX X hc hd h1
  go_wp2
  go_ret
  exact ⟨L5 (by rw [← HE.out, if_pos HQ.out]), h3⟩
 ·have HQ : Hid (¬ x.of = 3) := q
  have e1 : (x.of == 3) = false := by simpa using q
  clear q
  go_enter Tryz.func111, Tryz.ntmps111
  go_upto_region 1 with fail
  rw [← hX] at *
  generalize w.alloc (.cells x.cells.toArray 43) = w1 at *
  generalize w.heap.size = B at *
  clear HBX hX X hc hd h1
  go_wp2
  go_ret
  exact ⟨L5 (by rw [← HE.out, if_neg HQ.out]), h3⟩
theorem b0p (x : Ng) {R : RT} {w : World} (T : M8 R w) (k : Nat) (h1 : 1 ≤ k) (h2 : k ≤ 16) (hk : x.kind = k) : ∃ fn lb, R.wv k = .func (.func fn) #[] lb ∧ (∀ args w, (callFunc fn args).run Tryz.prog w = .ok (.enter fn args) w) ∧
  ∀ W : World, w.grownBy W none → Calls Tryz.prog fn (#[.agg x.cells.toArray] ++ lb) W fun e w' => e = .returned (.int .i64 (E0 x : Int)) ∧ W.grownBy w' none := by
 by_cases h3 : k = 14 ∨ k = 15
 ·obtain ⟨b, g, e, c1, c2⟩ := T.wg2 k h3
  refine ⟨_, _, e, enters_of Tryz.func111 (by kernel_rfl) rfl, fun W K => ?_⟩
  refine (b0o x b g (a3m k) (a3m k + 48) W (K.cell c1 (by simp)) (K.cell c2 (by simp))).mono ?_
  rintro e' w' ⟨rfl, K'⟩
  refine ⟨L5 ?_, K'⟩
  unfold E0
  rcases h3 with rfl | rfl
  ·rw [hk]
   by_cases ho : x.of = 3
   ·rw [if_pos ho]; simp [ho]; rfl
   ·rw [if_neg ho]; simp [ho]; rfl
  ·rw [hk]
   by_cases ho : x.of = 3
   ·rw [if_pos ho]; simp [ho]; rfl
   ·rw [if_neg ho]; simp [ho]; rfl
 ·obtain ⟨b, e, c1⟩ := T.wgt k h1 h2 (by omega) (by omega)
  refine ⟨_, _, e, enters_of Tryz.func106 (by kernel_rfl) rfl, fun W K => ?_⟩
  refine (b0n x b (a3m k) W (K.cell c1 (by simp))).mono ?_
  rintro e' w' ⟨rfl, K'⟩
  refine ⟨L5 ?_, K'⟩
  unfold E0
  rw [hk]
  rcases a1j h1 h2 with rfl | rfl | rfl | rfl | rfl | rfl | rfl | rfl | rfl | rfl | rfl | rfl | rfl | rfl | rfl | rfl
  all_goals first | rfl | omega
theorem b0l {x : Ng} (h : arG x.kind = none) : E0 x = 0 := by
 have := a7j.1 h
 unfold E0
 rw [if_neg (by omega), if_neg (by omega), if_neg (by omega), if_neg (by omega), if_neg (by omega), if_neg (by omega), if_neg (by omega), if_neg (by omega), if_neg (by omega), if_neg (by omega)]
theorem b0j (x : Ng) : E0 x ≤ 80 := by
 unfold E0
 repeat' split
 all_goals omega
theorem b0m (x : Ng) (R : RT) (w : World) (T : M8 R w) : Calls Tryz.prog 80 #[.slice (some ⟨R.g, 0, none⟩) 17 17, .agg x.cells.toArray] w fun e w' => e = .returned (.int .i64 (E0 x : Int)) ∧ w.grownBy w' none := by
 have HBX := s8 x
 have V1 := VAt.alloc w 43 x.cells.toArray
 have c0 := (NB.alloc w x).kind
 have G1 := World.grownBy_alloc w (.cells x.cells.toArray 43) none
 have HT : Hid (M8 R w) := T
 have HZ : Hid ((Tryz.prog.info? 43).map (·.size) = some x.cells.toArray.size) := E8 x
 cases ha : arG x.kind with
 | none =>
  rw [b0l ha]
  have CR := fun W => a9H R x.kind ha W
  obtain ⟨X, hX⟩ : ∃ X, x.cells.toArray = X := ⟨_, rfl⟩
  rw [hX] at HBX V1 c0 G1 ⊢
  clear ha T
  go_enter Tryz.func80, Tryz.ntmps80
  go_upto_region 1 with fail
  generalize w.alloc (.cells X 43) = w1 at *
  generalize w.heap.size = B at V1 c0 ⊢
  clear HBX hX
  go_wp2_with fail
  refine (CR _).mono ?_
  rintro e w2 ⟨rfl, K2⟩
  have G2 := d3 G1 K2
  have K3 := World.grownBy_alloc w2 (.cells I8.toArray 77) none
  clear CR
  go_upto_region 2 with (refine wpList_store_row rfl 77 (.tmp 5) (.tmp 12) rfl w2.heap.size I8.toArray rfl rfl 77 _ (heap_alloc_new w2 _) a1k rfl a4I ?_)
  rw [World.setRow_alloc_new]
  have G3 := d3 G2 K3
  generalize w2.alloc (.cells I8.toArray 77) = w3 at *
  generalize w2.heap.size = C at *
  go_wp2
  go_ret
  exact ⟨rfl, G3⟩
 | some a =>
  have hin := a3q ha
  obtain ⟨k, hk⟩ : ∃ k : Nat, x.kind = k := Int.eq_ofNat_of_zero_le (by omega)
  have h1 : 1 ≤ k := by omega
  have h2 : k ≤ 16 := by omega
  obtain ⟨fn, lb, hwv, he, CW⟩ := b0p x T k h1 h2 hk
  have CR : Hid (∀ W, M8 R W → Calls Tryz.prog 35 #[.slice (some ⟨R.g, 0, none⟩) 17 17, .int .i64 (k : Int)] W fun e w' => e = .returned (.tuple #[.agg (x0 R k).toArray, .bool true]) ∧ W.grownBy w' none) := fun W TW => a9I R k h1 h2 W TW
  rw [hk] at c0
  have HC : Hid ((Tryz.prog.info? 77).map (·.size) = some (x0 R k).toArray.size ∧ 7 = (x0 R k).toArray.size ∧ (x0 R k).toArray.all (·.oneCell') = true) := ⟨a1k, rfl, a6w T h1 h2⟩
  have HF : Hid ((x0 R k).toArray[2]? = some (.func (.func fn) #[] lb)) := by
   show (x0 R k).toArray[2]? = _
   rw [← hwv]; rfl
  have HCW : Hid _ := CW
  obtain ⟨cs, hcs⟩ : ∃ cs, (x0 R k).toArray = cs := ⟨_, rfl⟩
  rw [hcs] at CR HC HF
  obtain ⟨wt, hwt⟩ : ∃ wt, E0 x = wt := ⟨_, rfl⟩
  rw [hwt] at HCW ⊢
  obtain ⟨X, hX⟩ : ∃ X, x.cells.toArray = X := ⟨_, rfl⟩
  rw [hX] at HBX V1 c0 G1 HZ HCW ⊢
  clear T ha hcs hwt hwv CW hk hin
  go_enter Tryz.func80, Tryz.ntmps80
  go_upto_region 1 with fail
  generalize w.alloc (.cells X 43) = w1 at *
  generalize w.heap.size = B at V1 c0 ⊢
  clear HBX hX
  go_wp2_with fail
  refine (CR.out _ (HT.out.kept G1)).mono ?_
  rintro e w2 ⟨rfl, K2⟩
  have G2 := d3 G1 K2
  have K3 := World.grownBy_alloc w2 (.cells cs 77) none
  have V3 := (V1.kept K2).kept K3
  have C3 := VAt.alloc w2 77 cs
  clear CR V1 c0 K2 G1
  go_upto_region 2 with (refine wpList_store_row rfl 77 (.tmp 5) (.tmp 12) rfl w2.heap.size cs rfl rfl 77 _ (heap_alloc_new w2 _) HC.out.1 HC.out.2.1 HC.out.2.2 ?_)
  rw [World.setRow_alloc_new]
  have G3 := d3 G2 K3
  have CF := HCW.out
  generalize w2.alloc (.cells cs 77) = w3 at *
  generalize w2.heap.size = C at *
  have c2 : w3.cell? ⟨C, 2, none⟩ = some (.func (.func fn) #[] lb) := by rw [C3.cell 2]; exact HF.out
  have CX := CF w3 G3
  clear CF HCW G2 K3 C3
  go_wp2_with (first | refine wpList_load_row rfl 43 (.tmp 3) rfl B rfl 43 X (0, 0) _ V3 Tryz.underlying43 rfl HZ.out ?_ | (go_at_fn fn; refine CX.mono ?_; rintro e w4 ⟨rfl, K4⟩))
  go_ret
  exact ⟨rfl, d3 G3 K4⟩
theorem a1M (x : Ng) : (Tryz.prog.info? 43).map (·.size) = some x.cells.length := a3d
def a3x (o : Option Nat) : Value := match o with
 | some k => .tuple #[.int .i64 (k : Int), .bool true]
 | none => .tuple #[.int .i64 0, .bool false]
theorem at9 (ao : Option Addr) (cap : Nat) (t : List Ng) (R : RT) (w : World) (T : M8 R w) (C : CV w ao (p9 t)) (hm : t.length * 72 ≤ 140737488355328) : Calls Tryz.prog 30 #[.slice (some ⟨R.g, 0, none⟩) 17 17, .slice ao t.length cap] w fun e w' => e = .returned (a3x (S9 0 0 t)) ∧ w.grownBy w' none := by
 have HC : Hid (CV w ao (p9 t)) := C
 have HT : Hid (M8 R w) := T
 clear C T
 obtain ⟨E, hE⟩ : ∃ E, a3x (S9 0 0 t) = E := ⟨_, rfl⟩
 rw [hE]
 have HE : Hid (a3x (S9 0 0 t) = E) := hE
 clear hE
 go_enter Tryz.func30, Tryz.ntmps30
 go_wp2
 go_loopw [6, 11] (fun s i wr => ∃ k q : Nat, k ≤ t.length ∧ q ≤ 3000 ∧ s = .int .i64 (q : Int) ∧ i = .int .i64 k ∧ Hid (S9 0 0 t = S9 q k (t.drop k)) ∧ w.grownBy wr none) (fun _ i _ => t.length - (intOf i).toNat)
 case atStart => exact ⟨0, 0, Nat.zero_le _, Nat.zero_le _, rfl, rfl, rfl, World.grownBy.refl _ _⟩
 case round =>
  obtain ⟨k, q, hk, hq, rfl, rfl, HH, G⟩ := hrel
  by_cases hlt : k < t.length
  ·obtain ⟨b, o, rfl, hc⟩ := (HC.out.keptNone G).ngs hlt
   have HR : Hid (wr.rangeAt b (o + k * 24) t[k].cells) := hc k hlt
   have HW : Hid (∀ W : World, M8 R W → Calls Tryz.prog 80 #[.slice (some ⟨R.g, 0, none⟩) 17 17, .agg t[k].cells.toArray] W fun e w' => e = .returned (.int .i64 (E0 t[k] : Int)) ∧ W.grownBy w' none) := fun W TW => b0m t[k] R W TW
   have HZ : Hid ((Tryz.prog.info? 43).map (·.size) = some t[k].cells.length ∧ (Tryz.prog.info? 43).map (·.size) = some t[k].cells.toArray.size ∧ 24 = t[k].cells.toArray.size ∧ t[k].cells.toArray.all (·.oneCell') = true) := ⟨a1M _, E8 _, rfl, V6 _⟩
   have hb2 := b0j t[k]
   have HN : Hid (S9 0 0 t = if 3000 < q + E0 t[k] then some k else S9 (q + E0 t[k]) (k + 1) (t.drop (k + 1))) := by
    have := HH.out
    rw [List.drop_eq_getElem_cons hlt] at this
    exact this
   have hwr : IntKind.i64.wrap ((q : Int) + (E0 t[k] : Int)) = (q : Int) + (E0 t[k] : Int) := by rw [IntKind.wrap_i64]; omega
   generalize E0 t[k] = s1 at *
   generalize t[k].cells = cs at *
   have hl : (k : Int) < (t.length : Int) := by omega
   have z0 : (0 : Int) ≤ (k : Int) := by omega
   have w3 : IntKind.i64.wrap ((k : Int) + 1) = (k : Int) + 1 := by rw [IntKind.wrap_i64]; omega
   clear hc HH
   go_upto_region 5 with (first | refine wpList_load_mid rfl 43 (.tmp 14) rfl b (o + k * 24) (by simp [Act.eval]) cs _ HR.out Tryz.underlying43 rfl HZ.out.1 ?_ | refine wpList_store_row rfl 43 (.tmp 8) (.tmp 15) rfl wr.heap.size cs.toArray rfl rfl 43 _ (heap_alloc_new wr _) HZ.out.2.1 HZ.out.2.2.1 HZ.out.2.2.2 ?_)
   rw [World.setRow_alloc_new]
   have V := VAt.alloc wr 43 cs.toArray
   have G2 := d3 G (World.grownBy_alloc wr (.cells cs.toArray 43) none)
   generalize wr.alloc (.cells cs.toArray 43) = w2 at *
   generalize wr.heap.size = B at *
   clear HR G
   go_wp2_with (refine wpList_load_row rfl 43 (.tmp 8) rfl B rfl 43 cs.toArray (0, 0) _ V Tryz.underlying43 rfl HZ.out.2.1 ?_)
   refine (HW.out _ (HT.out.kept G2)).mono ?_
   rintro e w4 ⟨rfl, K4⟩
   have G4 := d3 G2 K4
   clear K4 G2 V HW
   by_cases hov : 3000 < q + s1
   ·have HF : Hid (S9 0 0 t = some k) := by show _ = _; rw [HN.out, if_pos hov]
    have e1 : decide ((3000 : Int) < (q : Int) + (s1 : Int)) = true := decide_eq_true (by omega)
    clear hov HN
    go_wp2
    go_ret2
    exact ⟨by rw [← HE.out, HF.out]; rfl, G4⟩
   ·have HF : Hid (S9 0 0 t = S9 (q + s1) (k + 1) (t.drop (k + 1))) := by show _ = _; rw [HN.out, if_neg hov]
    have e1 : decide ((3000 : Int) < (q : Int) + (s1 : Int)) = false := decide_eq_false (by omega)
    have hq2 : q + s1 ≤ 3000 := by omega
    clear hov HN
    go_wp2
    go_roundw
    case rel => exact ⟨k + 1, q + s1, by omega, hq2, by simp, by go_num, HF, G4⟩
    case measure => simp [intOf]; omega
  ·have HF : Hid (S9 0 0 t = none) := by
    have := HH.out
    rw [List.drop_eq_nil_of_le (by omega)] at this
    exact this
   go_wp2
   go_ret2
   exact ⟨by rw [← HE.out, HF.out]; rfl, G⟩
def s9 (n : Nat) : List Ng → Option Nat
 | [] => some n
 | x :: r => match arG x.kind with
  | none => none
  | some a => if n < a then none else s9 (n - a + 1) r
theorem a6F : ∀ (l : List Ng) (ss : List Nat) (k : Nat), (a0C ss k l).map List.length = s9 ss.length l
 | [], ss, k => rfl
 | x :: r, ss, k => by
  simp only [a0C, s9]
  cases arG x.kind with
  | none => rfl
  | some a =>
   simp only
   by_cases h : ss.length < a
   ·rw [if_pos h, if_pos h]; rfl
   ·rw [if_neg h, if_neg h]
    by_cases h0 : a = 0
    ·rw [if_pos h0, a6F r, List.length_append, h0]; rfl
    ·rw [if_neg h0, a6F r, List.length_take, Nat.min_eq_left (by omega)]

end Go.Proofs.YtklipelnjgpnjaaGreatDoor
