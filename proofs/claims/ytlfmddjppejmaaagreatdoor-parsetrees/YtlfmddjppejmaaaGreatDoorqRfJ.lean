import Derived.Test.YtlfmddjppejmaaaGreatDoorqLotQ19
set_option maxHeartbeats 64000000
set_option maxRecDepth 100000
namespace Go.Proofs.YtlfmddjppejmaaaGreatDoor
open Go.RowKit

section
variable {c : PC} {w : World} {i bud : Nat} {vt vp : Value} {s : Rt}
theorem d6 (x : List UInt8) (b : Bool) (hb : s.is x = b) : Hid (∀ (W : World) (i1 : Nat) (vt1 vp1 : Value) (bd : Nat), RS c W i1 vt1 vp1 s bd → Calls Tryz.prog 21 #[.pointer (some ⟨c.g, 0, none⟩), str x] W fun e w' => e = .returned (.bool b) ∧ W.grownBy w' none) :=
 fun W i1 vt1 vp1 bd H => by have := a0U H x; rw [hb] at this; exact this
theorem a1e {w5 : World} {i3 b : Nat} {vt3 vp3 : Value} {s3 : Rt} (R : RS c w5 i3 vt3 vp3 s3 b) (D0 : 0 ≤ s3.nest) (D1 : s3.er = none → 1 ≤ s3.nest) :
  w5.cell? ⟨c.g, 4, none⟩ = some (.int .i64 s3.nest) ∧ w5.frozen? ⟨c.g, 4, none⟩ = false ∧ s3.nest ≤ 200 ∧ IntKind.i64.wrap (s3.nest - 1) = s3.nest - 1 ∧ Hid (RS c (w5.setCell ⟨c.g, 4, none⟩ (.int .i64 (s3.nest - 1))) i3 vt3 vp3 s3.down b ∧ GB w5 (w5.setCell ⟨c.g, 4, none⟩ (.int .i64 (s3.nest - 1))) (d3 c.g vt3 vp3)) := by
 have h1 := R.hi
 exact ⟨R.mem.blk.cell 4, R.mem.blk.free 4, h1, by rw [IntKind.wrap_i64]; omega, ⟨R.down D0 D1, GB.set w5 vt3 vp3 c.g 4 _⟩⟩
theorem a9w (h : RS c w i vt vp s (bud + 1)) (of at' : Nat) (b0 : s.is [91] = false) (ho : of ≠ 1 ∧ of ≠ 2 ∧ of ≠ 3 ∧ of ≠ 4 ∧ of ≠ 5) :
  d4 c 44 #[.pointer (some ⟨c.g, 0, none⟩), .int .i64 (of : Int), .int .i64 (at' : Int)] w vt vp (s.lay ({ ndK 11 with of := of } : Nd) at') bud := by
 have HX0 : Hid (∀ x, ∀ z, c8 c w vt vp x bud z → c8 c w vt vp x bud z) := fun x z R2 => R2
 have HY0 : Hid (RS c w i vt vp s (bud + 1)) := h
 have HI0 := d6 (c := c) [91] false b0
 have HL : Hid (∀ (W : World) (i1 : Nat) (vt1 vp1 : Value), RS c W i1 vt1 vp1 s (bud + 1) → d4 c 23 #[.pointer (some ⟨c.g, 0, none⟩), .agg ({ ndK 11 with of := of } : Nd).cells.toArray, .int .i64 (at' : Int)] W vt1 vp1 (s.lay ({ ndK 11 with of := of } : Nd) at') bud) := fun W i1 vt1 vp1 H => B9 H ({ ndK 11 with of := of } : Nd) at'
 have e1 : ((of : Int) == 1) = false := by simp only [beq_eq_false_iff_ne]; omega
 have e2 : ((of : Int) == 2) = false := by simp only [beq_eq_false_iff_ne]; omega
 have e3 : ((of : Int) == 3) = false := by simp only [beq_eq_false_iff_ne]; omega
 have e4 : ((of : Int) == 4) = false := by simp only [beq_eq_false_iff_ne]; omega
 have e5 : ((of : Int) == 5) = false := by simp only [beq_eq_false_iff_ne]; omega
 unfold d4 at *
 clear h b0 ho
 go_enter Tryz.func44, Tryz.ntmps44
 have HC0 := HI0.out _ _ _ _ _ HY0.out
 go_wp2_with fail
 refine HC0.mono ?_
 rintro e w1 ⟨rfl, G⟩
 have HY1 : Hid (RS c w1 i vt vp s (bud + 1)) := HY0.out.keep G
 have HX1 : Hid (∀ x, ∀ z, c8 c w1 vt vp x bud z → c8 c w vt vp x bud z) := fun x z R2 => HX0.out x z (c8.of (GB.non G) (fun _ _ k => k) R2)
 clear HC0 G HY0 HX0
 have HC := HL.out _ _ _ _ HY1.out
 go_wp2_with fail
 refine HC.mono ?_
 rintro e w2 ⟨rfl, R2⟩
 have HR := HX1.out _ _ R2
 clear HC R2 HX1 HY1 HL
 go_wp2
 exact bodyPost_end (results_none rfl _ _ _) rfl ⟨rfl, HR⟩
theorem a9t (h : RS c w i vt vp s (bud + 1)) (at' : Nat) (b0 : s.is [91] = true) :
  d4 c 44 #[.pointer (some ⟨c.g, 0, none⟩), .int .i64 13, .int .i64 (at' : Int)] w vt vp (s.lay ({ ndK 11 with of := 13 } : Nd) at') bud := by
 have HX0 : Hid (∀ x, ∀ z, c8 c w vt vp x bud z → c8 c w vt vp x bud z) := fun x z R2 => R2
 have HY0 : Hid (RS c w i vt vp s (bud + 1)) := h
 have HI0 := d6 (c := c) [91] true b0
 have HL : Hid (∀ (W : World) (i1 : Nat) (vt1 vp1 : Value), RS c W i1 vt1 vp1 s (bud + 1) → d4 c 23 #[.pointer (some ⟨c.g, 0, none⟩), .agg ({ ndK 11 with of := 13 } : Nd).cells.toArray, .int .i64 (at' : Int)] W vt1 vp1 (s.lay ({ ndK 11 with of := 13 } : Nd) at') bud) := fun W i1 vt1 vp1 H => B9 H ({ ndK 11 with of := 13 } : Nd) at'
 unfold d4 at *
 clear h b0
 go_enter Tryz.func44, Tryz.ntmps44
 have HC0 := HI0.out _ _ _ _ _ HY0.out
 go_wp2_with fail
 refine HC0.mono ?_
 rintro e w1 ⟨rfl, G⟩
 have HY1 : Hid (RS c w1 i vt vp s (bud + 1)) := HY0.out.keep G
 have HX1 : Hid (∀ x, ∀ z, c8 c w1 vt vp x bud z → c8 c w vt vp x bud z) := fun x z R2 => HX0.out x z (c8.of (GB.non G) (fun _ _ k => k) R2)
 clear HC0 G HY0 HX0
 have HC := HL.out _ _ _ _ HY1.out
 go_wp2_with fail
 refine HC.mono ?_
 rintro e w2 ⟨rfl, R2⟩
 have HR := HX1.out _ _ R2
 clear HC R2 HX1 HY1 HL
 go_wp2
 exact bodyPost_end (results_none rfl _ _ _) rfl ⟨rfl, HR⟩
theorem a9p (h : RS c w i vt vp s (bud + 1)) (at' : Nat) (b0 : s.is [91] = false) (b1 : s.is q7 = false) :
  d4 c 44 #[.pointer (some ⟨c.g, 0, none⟩), .int .i64 2, .int .i64 (at' : Int)] w vt vp (s.lay ({ ndK 11 with of := 2 } : Nd) at') bud := by
 have HX0 : Hid (∀ x, ∀ z, c8 c w vt vp x bud z → c8 c w vt vp x bud z) := fun x z R2 => R2
 have HY0 : Hid (RS c w i vt vp s (bud + 1)) := h
 have HI0 := d6 (c := c) [91] false b0
 have HI1 := d6 (c := c) q7 false b1
 have HL : Hid (∀ (W : World) (i1 : Nat) (vt1 vp1 : Value), RS c W i1 vt1 vp1 s (bud + 1) → d4 c 23 #[.pointer (some ⟨c.g, 0, none⟩), .agg ({ ndK 11 with of := 2 } : Nd).cells.toArray, .int .i64 (at' : Int)] W vt1 vp1 (s.lay ({ ndK 11 with of := 2 } : Nd) at') bud) := fun W i1 vt1 vp1 H => B9 H ({ ndK 11 with of := 2 } : Nd) at'
 unfold d4 at *
 clear h b0 b1
 go_enter Tryz.func44, Tryz.ntmps44
 have HC0 := HI0.out _ _ _ _ _ HY0.out
 go_wp2_with fail
 refine HC0.mono ?_
 rintro e w1 ⟨rfl, G⟩
 have HY1 : Hid (RS c w1 i vt vp s (bud + 1)) := HY0.out.keep G
 have HX1 : Hid (∀ x, ∀ z, c8 c w1 vt vp x bud z → c8 c w vt vp x bud z) := fun x z R2 => HX0.out x z (c8.of (GB.non G) (fun _ _ k => k) R2)
 clear HC0 G HY0 HX0
 have HC1 := HI1.out _ _ _ _ _ HY1.out
 go_wp2_with fail
 refine HC1.mono ?_
 rintro e w2 ⟨rfl, G⟩
 have HY2 : Hid (RS c w2 i vt vp s (bud + 1)) := HY1.out.keep G
 have HX2 : Hid (∀ x, ∀ z, c8 c w2 vt vp x bud z → c8 c w vt vp x bud z) := fun x z R2 => HX1.out x z (c8.of (GB.non G) (fun _ _ k => k) R2)
 clear HC1 G HY1 HX1
 have HC := HL.out _ _ _ _ HY2.out
 go_wp2_with fail
 refine HC.mono ?_
 rintro e w3 ⟨rfl, R2⟩
 have HR := HX2.out _ _ R2
 clear HC R2 HX2 HY2 HL
 go_wp2
 exact bodyPost_end (results_none rfl _ _ _) rfl ⟨rfl, HR⟩
theorem a9q (h : RS c w i vt vp s (bud + 1)) (at' : Nat) (b0 : s.is [91] = false) (b1 : s.is q7 = false) :
  d4 c 44 #[.pointer (some ⟨c.g, 0, none⟩), .int .i64 3, .int .i64 (at' : Int)] w vt vp (s.lay ({ ndK 11 with of := 3 } : Nd) at') bud := by
 have HX0 : Hid (∀ x, ∀ z, c8 c w vt vp x bud z → c8 c w vt vp x bud z) := fun x z R2 => R2
 have HY0 : Hid (RS c w i vt vp s (bud + 1)) := h
 have HI0 := d6 (c := c) [91] false b0
 have HI1 := d6 (c := c) q7 false b1
 have HL : Hid (∀ (W : World) (i1 : Nat) (vt1 vp1 : Value), RS c W i1 vt1 vp1 s (bud + 1) → d4 c 23 #[.pointer (some ⟨c.g, 0, none⟩), .agg ({ ndK 11 with of := 3 } : Nd).cells.toArray, .int .i64 (at' : Int)] W vt1 vp1 (s.lay ({ ndK 11 with of := 3 } : Nd) at') bud) := fun W i1 vt1 vp1 H => B9 H ({ ndK 11 with of := 3 } : Nd) at'
 unfold d4 at *
 clear h b0 b1
 go_enter Tryz.func44, Tryz.ntmps44
 have HC0 := HI0.out _ _ _ _ _ HY0.out
 go_wp2_with fail
 refine HC0.mono ?_
 rintro e w1 ⟨rfl, G⟩
 have HY1 : Hid (RS c w1 i vt vp s (bud + 1)) := HY0.out.keep G
 have HX1 : Hid (∀ x, ∀ z, c8 c w1 vt vp x bud z → c8 c w vt vp x bud z) := fun x z R2 => HX0.out x z (c8.of (GB.non G) (fun _ _ k => k) R2)
 clear HC0 G HY0 HX0
 have HC1 := HI1.out _ _ _ _ _ HY1.out
 go_wp2_with fail
 refine HC1.mono ?_
 rintro e w2 ⟨rfl, G⟩
 have HY2 : Hid (RS c w2 i vt vp s (bud + 1)) := HY1.out.keep G
 have HX2 : Hid (∀ x, ∀ z, c8 c w2 vt vp x bud z → c8 c w vt vp x bud z) := fun x z R2 => HX1.out x z (c8.of (GB.non G) (fun _ _ k => k) R2)
 clear HC1 G HY1 HX1
 have HC := HL.out _ _ _ _ HY2.out
 go_wp2_with fail
 refine HC.mono ?_
 rintro e w3 ⟨rfl, R2⟩
 have HR := HX2.out _ _ R2
 clear HC R2 HX2 HY2 HL
 go_wp2
 exact bodyPost_end (results_none rfl _ _ _) rfl ⟨rfl, HR⟩
theorem a9G (h : RS c w i vt vp s (bud + 1)) (at' : Nat) (b0 : s.is [91] = false) (b1 : s.is g9 = false) (b2 : s.is j5 = false) (b3 : s.is j1 = false) (b4 : s.is j4 = false) :
  d4 c 44 #[.pointer (some ⟨c.g, 0, none⟩), .int .i64 4, .int .i64 (at' : Int)] w vt vp (s.lay ({ ndK 11 with of := 4 } : Nd) at') bud := by
 have HX0 : Hid (∀ x, ∀ z, c8 c w vt vp x bud z → c8 c w vt vp x bud z) := fun x z R2 => R2
 have HY0 : Hid (RS c w i vt vp s (bud + 1)) := h
 have HI0 := d6 (c := c) [91] false b0
 have HI1 := d6 (c := c) g9 false b1
 have HI2 := d6 (c := c) j5 false b2
 have HI3 := d6 (c := c) j1 false b3
 have HI4 := d6 (c := c) j4 false b4
 have HL : Hid (∀ (W : World) (i1 : Nat) (vt1 vp1 : Value), RS c W i1 vt1 vp1 s (bud + 1) → d4 c 23 #[.pointer (some ⟨c.g, 0, none⟩), .agg ({ ndK 11 with of := 4 } : Nd).cells.toArray, .int .i64 (at' : Int)] W vt1 vp1 (s.lay ({ ndK 11 with of := 4 } : Nd) at') bud) := fun W i1 vt1 vp1 H => B9 H ({ ndK 11 with of := 4 } : Nd) at'
 unfold d4 at *
 clear h b0 b1 b2 b3 b4
 go_enter Tryz.func44, Tryz.ntmps44
 have HC0 := HI0.out _ _ _ _ _ HY0.out
 go_wp2_with fail
 refine HC0.mono ?_
 rintro e w1 ⟨rfl, G⟩
 have HY1 : Hid (RS c w1 i vt vp s (bud + 1)) := HY0.out.keep G
 have HX1 : Hid (∀ x, ∀ z, c8 c w1 vt vp x bud z → c8 c w vt vp x bud z) := fun x z R2 => HX0.out x z (c8.of (GB.non G) (fun _ _ k => k) R2)
 clear HC0 G HY0 HX0
 have HC1 := HI1.out _ _ _ _ _ HY1.out
 go_wp2_with fail
 refine HC1.mono ?_
 rintro e w2 ⟨rfl, G⟩
 have HY2 : Hid (RS c w2 i vt vp s (bud + 1)) := HY1.out.keep G
 have HX2 : Hid (∀ x, ∀ z, c8 c w2 vt vp x bud z → c8 c w vt vp x bud z) := fun x z R2 => HX1.out x z (c8.of (GB.non G) (fun _ _ k => k) R2)
 clear HC1 G HY1 HX1
 have HC2 := HI2.out _ _ _ _ _ HY2.out
 go_wp2_with fail
 refine HC2.mono ?_
 rintro e w3 ⟨rfl, G⟩
 have HY3 : Hid (RS c w3 i vt vp s (bud + 1)) := HY2.out.keep G
 have HX3 : Hid (∀ x, ∀ z, c8 c w3 vt vp x bud z → c8 c w vt vp x bud z) := fun x z R2 => HX2.out x z (c8.of (GB.non G) (fun _ _ k => k) R2)
 clear HC2 G HY2 HX2
 have HC3 := HI3.out _ _ _ _ _ HY3.out
 go_wp2_with fail
 refine HC3.mono ?_
 rintro e w4 ⟨rfl, G⟩
 have HY4 : Hid (RS c w4 i vt vp s (bud + 1)) := HY3.out.keep G
 have HX4 : Hid (∀ x, ∀ z, c8 c w4 vt vp x bud z → c8 c w vt vp x bud z) := fun x z R2 => HX3.out x z (c8.of (GB.non G) (fun _ _ k => k) R2)
 clear HC3 G HY3 HX3
 have HC4 := HI4.out _ _ _ _ _ HY4.out
 go_wp2_with fail
 refine HC4.mono ?_
 rintro e w5 ⟨rfl, G⟩
 have HY5 : Hid (RS c w5 i vt vp s (bud + 1)) := HY4.out.keep G
 have HX5 : Hid (∀ x, ∀ z, c8 c w5 vt vp x bud z → c8 c w vt vp x bud z) := fun x z R2 => HX4.out x z (c8.of (GB.non G) (fun _ _ k => k) R2)
 clear HC4 G HY4 HX4
 have HC := HL.out _ _ _ _ HY5.out
 go_wp2_with fail
 refine HC.mono ?_
 rintro e w6 ⟨rfl, R2⟩
 have HR := HX5.out _ _ R2
 clear HC R2 HX5 HY5 HL
 go_wp2
 exact bodyPost_end (results_none rfl _ _ _) rfl ⟨rfl, HR⟩
theorem a9H (h : RS c w i vt vp s (bud + 1)) (at' : Nat) (b0 : s.is [91] = false) (b1 : s.is g9 = false) (b2 : s.is j5 = false) (b3 : s.is j1 = false) (b4 : s.is j4 = false) :
  d4 c 44 #[.pointer (some ⟨c.g, 0, none⟩), .int .i64 5, .int .i64 (at' : Int)] w vt vp (s.lay ({ ndK 11 with of := 5 } : Nd) at') bud := by
 have HX0 : Hid (∀ x, ∀ z, c8 c w vt vp x bud z → c8 c w vt vp x bud z) := fun x z R2 => R2
 have HY0 : Hid (RS c w i vt vp s (bud + 1)) := h
 have HI0 := d6 (c := c) [91] false b0
 have HI1 := d6 (c := c) g9 false b1
 have HI2 := d6 (c := c) j5 false b2
 have HI3 := d6 (c := c) j1 false b3
 have HI4 := d6 (c := c) j4 false b4
 have HL : Hid (∀ (W : World) (i1 : Nat) (vt1 vp1 : Value), RS c W i1 vt1 vp1 s (bud + 1) → d4 c 23 #[.pointer (some ⟨c.g, 0, none⟩), .agg ({ ndK 11 with of := 5 } : Nd).cells.toArray, .int .i64 (at' : Int)] W vt1 vp1 (s.lay ({ ndK 11 with of := 5 } : Nd) at') bud) := fun W i1 vt1 vp1 H => B9 H ({ ndK 11 with of := 5 } : Nd) at'
 unfold d4 at *
 clear h b0 b1 b2 b3 b4
 go_enter Tryz.func44, Tryz.ntmps44
 have HC0 := HI0.out _ _ _ _ _ HY0.out
 go_wp2_with fail
 refine HC0.mono ?_
 rintro e w1 ⟨rfl, G⟩
 have HY1 : Hid (RS c w1 i vt vp s (bud + 1)) := HY0.out.keep G
 have HX1 : Hid (∀ x, ∀ z, c8 c w1 vt vp x bud z → c8 c w vt vp x bud z) := fun x z R2 => HX0.out x z (c8.of (GB.non G) (fun _ _ k => k) R2)
 clear HC0 G HY0 HX0
 have HC1 := HI1.out _ _ _ _ _ HY1.out
 go_wp2_with fail
 refine HC1.mono ?_
 rintro e w2 ⟨rfl, G⟩
 have HY2 : Hid (RS c w2 i vt vp s (bud + 1)) := HY1.out.keep G
 have HX2 : Hid (∀ x, ∀ z, c8 c w2 vt vp x bud z → c8 c w vt vp x bud z) := fun x z R2 => HX1.out x z (c8.of (GB.non G) (fun _ _ k => k) R2)
 clear HC1 G HY1 HX1
 have HC2 := HI2.out _ _ _ _ _ HY2.out
 go_wp2_with fail
 refine HC2.mono ?_
 rintro e w3 ⟨rfl, G⟩
 have HY3 : Hid (RS c w3 i vt vp s (bud + 1)) := HY2.out.keep G
 have HX3 : Hid (∀ x, ∀ z, c8 c w3 vt vp x bud z → c8 c w vt vp x bud z) := fun x z R2 => HX2.out x z (c8.of (GB.non G) (fun _ _ k => k) R2)
 clear HC2 G HY2 HX2
 have HC3 := HI3.out _ _ _ _ _ HY3.out
 go_wp2_with fail
 refine HC3.mono ?_
 rintro e w4 ⟨rfl, G⟩
 have HY4 : Hid (RS c w4 i vt vp s (bud + 1)) := HY3.out.keep G
 have HX4 : Hid (∀ x, ∀ z, c8 c w4 vt vp x bud z → c8 c w vt vp x bud z) := fun x z R2 => HX3.out x z (c8.of (GB.non G) (fun _ _ k => k) R2)
 clear HC3 G HY3 HX3
 have HC4 := HI4.out _ _ _ _ _ HY4.out
 go_wp2_with fail
 refine HC4.mono ?_
 rintro e w5 ⟨rfl, G⟩
 have HY5 : Hid (RS c w5 i vt vp s (bud + 1)) := HY4.out.keep G
 have HX5 : Hid (∀ x, ∀ z, c8 c w5 vt vp x bud z → c8 c w vt vp x bud z) := fun x z R2 => HX4.out x z (c8.of (GB.non G) (fun _ _ k => k) R2)
 clear HC4 G HY4 HX4
 have HC := HL.out _ _ _ _ HY5.out
 go_wp2_with fail
 refine HC.mono ?_
 rintro e w6 ⟨rfl, R2⟩
 have HR := HX5.out _ _ R2
 clear HC R2 HX5 HY5 HL
 go_wp2
 exact bodyPost_end (results_none rfl _ _ _) rfl ⟨rfl, HR⟩
theorem a9x (h : RS c w i vt vp s (bud + 1)) (at' : Nat) (b0 : s.is [91] = false) :
  d4 c 44 #[.pointer (some ⟨c.g, 0, none⟩), .int .i64 1, .int .i64 (at' : Int)] w vt vp (s.fail 111) bud := by
 have HX0 : Hid (∀ x, ∀ z, c8 c w vt vp x bud z → c8 c w vt vp x bud z) := fun x z R2 => R2
 have HY0 : Hid (RS c w i vt vp s (bud + 1)) := h
 have HI0 := d6 (c := c) [91] false b0
 have HL : Hid (∀ (W : World) (i1 : Nat) (vt1 vp1 : Value), RS c W i1 vt1 vp1 s (bud + 1) → d4 c 14 #[.pointer (some ⟨c.g, 0, none⟩), .int .i64 111] W vt1 vp1 (s.fail 111) bud) := fun W i1 vt1 vp1 H => (M2 H _ (by decide) (by decide)).mono fun _ _ ⟨x, y⟩ => ⟨x, y.less (Nat.le_succ bud)⟩
 unfold d4 at *
 clear h b0
 go_enter Tryz.func44, Tryz.ntmps44
 have HC0 := HI0.out _ _ _ _ _ HY0.out
 go_wp2_with fail
 refine HC0.mono ?_
 rintro e w1 ⟨rfl, G⟩
 have HY1 : Hid (RS c w1 i vt vp s (bud + 1)) := HY0.out.keep G
 have HX1 : Hid (∀ x, ∀ z, c8 c w1 vt vp x bud z → c8 c w vt vp x bud z) := fun x z R2 => HX0.out x z (c8.of (GB.non G) (fun _ _ k => k) R2)
 clear HC0 G HY0 HX0
 have HC := HL.out _ _ _ _ HY1.out
 go_wp2_with fail
 refine HC.mono ?_
 rintro e w2 ⟨rfl, R2⟩
 have HR := HX1.out _ _ R2
 clear HC R2 HX1 HY1 HL
 go_wp2
 exact bodyPost_end (results_none rfl _ _ _) rfl ⟨rfl, HR⟩
theorem a9u (h : RS c w i vt vp s (bud + 1)) (at' : Nat) (b0 : s.is [91] = false) (b1 : s.is q7 = true) :
  d4 c 44 #[.pointer (some ⟨c.g, 0, none⟩), .int .i64 2, .int .i64 (at' : Int)] w vt vp (s.next.number.lay ({ ndK 13 with of := 2, n := s.next.num } : Nd) at') bud := by
 have HX0 : Hid (∀ x, ∀ z, c8 c w vt vp x bud z → c8 c w vt vp x bud z) := fun x z R2 => R2
 have HY0 : Hid (RS c w i vt vp s (bud + 1)) := h
 have HI0 := d6 (c := c) [91] false b0
 have HI1 := d6 (c := c) q7 true b1
 have HN : Hid (∀ (W : World) (i1 : Nat) (vt1 vp1 : Value), RS c W i1 vt1 vp1 s (bud + 1) → d4 c 27 #[.pointer (some ⟨c.g, 0, none⟩)] W vt1 vp1 s.next (bud + 1)) := fun W i1 vt1 vp1 H => (q8 H (fun _ => (k8 b1).2)).mono fun _ _ ⟨x, y⟩ => ⟨x, y.less (Nat.le_succ _)⟩
 have HM : Hid (∀ (W : World) (i1 : Nat) (vt1 vp1 : Value), RS c W i1 vt1 vp1 s.next (bud + 1) → Calls Tryz.prog 58 #[.pointer (some ⟨c.g, 0, none⟩)] W fun e w' => e = .returned (.int .u32 (s.next.num : Int)) ∧ c8 c W vt1 vp1 s.next.number (bud + 1) w') := fun W i1 vt1 vp1 H => N0 H
 have HL : Hid (∀ (W : World) (i1 : Nat) (vt1 vp1 : Value), RS c W i1 vt1 vp1 s.next.number (bud + 1) → d4 c 23 #[.pointer (some ⟨c.g, 0, none⟩), .agg ({ ndK 13 with of := 2, n := s.next.num } : Nd).cells.toArray, .int .i64 (at' : Int)] W vt1 vp1 (s.next.number.lay ({ ndK 13 with of := 2, n := s.next.num } : Nd) at') bud) := fun W i1 vt1 vp1 H => B9 H ({ ndK 13 with of := 2, n := s.next.num } : Nd) at'
 generalize s.next.num = m at *
 generalize s.next.number = s2 at *
 generalize s.next = s1 at *
 unfold d4 at *
 clear h b0 b1
 go_enter Tryz.func44, Tryz.ntmps44
 have HC0 := HI0.out _ _ _ _ _ HY0.out
 go_wp2_with fail
 refine HC0.mono ?_
 rintro e w1 ⟨rfl, G⟩
 have HY1 : Hid (RS c w1 i vt vp s (bud + 1)) := HY0.out.keep G
 have HX1 : Hid (∀ x, ∀ z, c8 c w1 vt vp x bud z → c8 c w vt vp x bud z) := fun x z R2 => HX0.out x z (c8.of (GB.non G) (fun _ _ k => k) R2)
 clear HC0 G HY0 HX0
 have HC1 := HI1.out _ _ _ _ _ HY1.out
 go_wp2_with fail
 refine HC1.mono ?_
 rintro e w2 ⟨rfl, G⟩
 have HY2 : Hid (RS c w2 i vt vp s (bud + 1)) := HY1.out.keep G
 have HX2 : Hid (∀ x, ∀ z, c8 c w2 vt vp x bud z → c8 c w vt vp x bud z) := fun x z R2 => HX1.out x z (c8.of (GB.non G) (fun _ _ k => k) R2)
 clear HC1 G HY1 HX1
 have HC2 := HN.out _ _ _ _ HY2.out
 go_wp2_with fail
 refine HC2.mono ?_
 rintro e w3 ⟨rfl, i3, vt3, vp3, R, G, hf⟩
 have HY3 : Hid (RS c w3 i3 vt3 vp3 s1 (bud + 1)) := R
 have HX3 : Hid (∀ x, ∀ z, c8 c w3 vt3 vp3 x bud z → c8 c w vt vp x bud z) := fun x z R2 => HX2.out x z (c8.of G hf R2)
 clear HC2 G R hf HY2 HX2 HN
 have HC3 := HM.out _ _ _ _ HY3.out
 go_wp2_with fail
 refine HC3.mono ?_
 rintro e w4 ⟨rfl, i4, vt4, vp4, R, G, hf⟩
 have HY4 : Hid (RS c w4 i4 vt4 vp4 s2 (bud + 1)) := R
 have HX4 : Hid (∀ x, ∀ z, c8 c w4 vt4 vp4 x bud z → c8 c w vt vp x bud z) := fun x z R2 => HX3.out x z (c8.of G hf R2)
 clear HC3 G R hf HY3 HX3 HM
 have HC := HL.out _ _ _ _ HY4.out
 go_wp2_with fail
 refine HC.mono ?_
 rintro e w5 ⟨rfl, R2⟩
 have HR := HX4.out _ _ R2
 clear HC R2 HX4 HY4 HL
 go_wp2
 exact bodyPost_end (results_none rfl _ _ _) rfl ⟨rfl, HR⟩
theorem a9v (h : RS c w i vt vp s (bud + 1)) (at' : Nat) (b0 : s.is [91] = false) (b1 : s.is q7 = true) :
  d4 c 44 #[.pointer (some ⟨c.g, 0, none⟩), .int .i64 3, .int .i64 (at' : Int)] w vt vp (s.next.number.lay ({ ndK 13 with of := 3, n := s.next.num } : Nd) at') bud := by
 have HX0 : Hid (∀ x, ∀ z, c8 c w vt vp x bud z → c8 c w vt vp x bud z) := fun x z R2 => R2
 have HY0 : Hid (RS c w i vt vp s (bud + 1)) := h
 have HI0 := d6 (c := c) [91] false b0
 have HI1 := d6 (c := c) q7 true b1
 have HN : Hid (∀ (W : World) (i1 : Nat) (vt1 vp1 : Value), RS c W i1 vt1 vp1 s (bud + 1) → d4 c 27 #[.pointer (some ⟨c.g, 0, none⟩)] W vt1 vp1 s.next (bud + 1)) := fun W i1 vt1 vp1 H => (q8 H (fun _ => (k8 b1).2)).mono fun _ _ ⟨x, y⟩ => ⟨x, y.less (Nat.le_succ _)⟩
 have HM : Hid (∀ (W : World) (i1 : Nat) (vt1 vp1 : Value), RS c W i1 vt1 vp1 s.next (bud + 1) → Calls Tryz.prog 58 #[.pointer (some ⟨c.g, 0, none⟩)] W fun e w' => e = .returned (.int .u32 (s.next.num : Int)) ∧ c8 c W vt1 vp1 s.next.number (bud + 1) w') := fun W i1 vt1 vp1 H => N0 H
 have HL : Hid (∀ (W : World) (i1 : Nat) (vt1 vp1 : Value), RS c W i1 vt1 vp1 s.next.number (bud + 1) → d4 c 23 #[.pointer (some ⟨c.g, 0, none⟩), .agg ({ ndK 13 with of := 3, n := s.next.num } : Nd).cells.toArray, .int .i64 (at' : Int)] W vt1 vp1 (s.next.number.lay ({ ndK 13 with of := 3, n := s.next.num } : Nd) at') bud) := fun W i1 vt1 vp1 H => B9 H ({ ndK 13 with of := 3, n := s.next.num } : Nd) at'
 generalize s.next.num = m at *
 generalize s.next.number = s2 at *
 generalize s.next = s1 at *
 unfold d4 at *
 clear h b0 b1
 go_enter Tryz.func44, Tryz.ntmps44
 have HC0 := HI0.out _ _ _ _ _ HY0.out
 go_wp2_with fail
 refine HC0.mono ?_
 rintro e w1 ⟨rfl, G⟩
 have HY1 : Hid (RS c w1 i vt vp s (bud + 1)) := HY0.out.keep G
 have HX1 : Hid (∀ x, ∀ z, c8 c w1 vt vp x bud z → c8 c w vt vp x bud z) := fun x z R2 => HX0.out x z (c8.of (GB.non G) (fun _ _ k => k) R2)
 clear HC0 G HY0 HX0
 have HC1 := HI1.out _ _ _ _ _ HY1.out
 go_wp2_with fail
 refine HC1.mono ?_
 rintro e w2 ⟨rfl, G⟩
 have HY2 : Hid (RS c w2 i vt vp s (bud + 1)) := HY1.out.keep G
 have HX2 : Hid (∀ x, ∀ z, c8 c w2 vt vp x bud z → c8 c w vt vp x bud z) := fun x z R2 => HX1.out x z (c8.of (GB.non G) (fun _ _ k => k) R2)
 clear HC1 G HY1 HX1
 have HC2 := HN.out _ _ _ _ HY2.out
 go_wp2_with fail
 refine HC2.mono ?_
 rintro e w3 ⟨rfl, i3, vt3, vp3, R, G, hf⟩
 have HY3 : Hid (RS c w3 i3 vt3 vp3 s1 (bud + 1)) := R
 have HX3 : Hid (∀ x, ∀ z, c8 c w3 vt3 vp3 x bud z → c8 c w vt vp x bud z) := fun x z R2 => HX2.out x z (c8.of G hf R2)
 clear HC2 G R hf HY2 HX2 HN
 have HC3 := HM.out _ _ _ _ HY3.out
 go_wp2_with fail
 refine HC3.mono ?_
 rintro e w4 ⟨rfl, i4, vt4, vp4, R, G, hf⟩
 have HY4 : Hid (RS c w4 i4 vt4 vp4 s2 (bud + 1)) := R
 have HX4 : Hid (∀ x, ∀ z, c8 c w4 vt4 vp4 x bud z → c8 c w vt vp x bud z) := fun x z R2 => HX3.out x z (c8.of G hf R2)
 clear HC3 G R hf HY3 HX3 HM
 have HC := HL.out _ _ _ _ HY4.out
 go_wp2_with fail
 refine HC.mono ?_
 rintro e w5 ⟨rfl, R2⟩
 have HR := HX4.out _ _ R2
 clear HC R2 HX4 HY4 HL
 go_wp2
 exact bodyPost_end (results_none rfl _ _ _) rfl ⟨rfl, HR⟩
theorem a9y (hs : I9 c) (h : RS c w i vt vp s (bud + 1)) (at' : Nat) (b0 : s.is [91] = false) (b1 : s.is g9 = true) :
  d4 c 44 #[.pointer (some ⟨c.g, 0, none⟩), .int .i64 4, .int .i64 (at' : Int)] w vt vp (s.sided 4 at') bud := by
 have HX0 : Hid (∀ x, ∀ z, c8 c w vt vp x bud z → c8 c w vt vp x bud z) := fun x z R2 => R2
 have HY0 : Hid (RS c w i vt vp s (bud + 1)) := h
 have HI0 := d6 (c := c) [91] false b0
 have HI1 := d6 (c := c) g9 true b1
 have he := (k8 b1).1
 have HL : Hid (∀ (W : World) (i1 : Nat) (vt1 vp1 : Value), RS c W i1 vt1 vp1 s (bud + 1) → d4 c 59 #[.pointer (some ⟨c.g, 0, none⟩), .int .i64 4, .int .i64 (at' : Int)] W vt1 vp1 (s.sided 4 at') bud) := fun W i1 vt1 vp1 H => (hs W i1 vt1 vp1 s (bud + 1) 4 at' H he).mono fun _ _ ⟨x, y⟩ => ⟨x, y.less (Nat.le_succ bud)⟩
 unfold d4 at *
 clear h b0 b1 hs he
 go_enter Tryz.func44, Tryz.ntmps44
 have HC0 := HI0.out _ _ _ _ _ HY0.out
 go_wp2_with fail
 refine HC0.mono ?_
 rintro e w1 ⟨rfl, G⟩
 have HY1 : Hid (RS c w1 i vt vp s (bud + 1)) := HY0.out.keep G
 have HX1 : Hid (∀ x, ∀ z, c8 c w1 vt vp x bud z → c8 c w vt vp x bud z) := fun x z R2 => HX0.out x z (c8.of (GB.non G) (fun _ _ k => k) R2)
 clear HC0 G HY0 HX0
 have HC1 := HI1.out _ _ _ _ _ HY1.out
 go_wp2_with fail
 refine HC1.mono ?_
 rintro e w2 ⟨rfl, G⟩
 have HY2 : Hid (RS c w2 i vt vp s (bud + 1)) := HY1.out.keep G
 have HX2 : Hid (∀ x, ∀ z, c8 c w2 vt vp x bud z → c8 c w vt vp x bud z) := fun x z R2 => HX1.out x z (c8.of (GB.non G) (fun _ _ k => k) R2)
 clear HC1 G HY1 HX1
 have HC := HL.out _ _ _ _ HY2.out
 go_wp2_with fail
 refine HC.mono ?_
 rintro e w3 ⟨rfl, R2⟩
 have HR := HX2.out _ _ R2
 clear HC R2 HX2 HY2 HL
 go_wp2
 exact bodyPost_end (results_none rfl _ _ _) rfl ⟨rfl, HR⟩
theorem a9z (hs : I9 c) (h : RS c w i vt vp s (bud + 1)) (at' : Nat) (b0 : s.is [91] = false) (b1 : s.is g9 = false) (b2 : s.is j5 = true) :
  d4 c 44 #[.pointer (some ⟨c.g, 0, none⟩), .int .i64 4, .int .i64 (at' : Int)] w vt vp (s.sided 4 at') bud := by
 have HX0 : Hid (∀ x, ∀ z, c8 c w vt vp x bud z → c8 c w vt vp x bud z) := fun x z R2 => R2
 have HY0 : Hid (RS c w i vt vp s (bud + 1)) := h
 have HI0 := d6 (c := c) [91] false b0
 have HI1 := d6 (c := c) g9 false b1
 have HI2 := d6 (c := c) j5 true b2
 have he := (k8 b2).1
 have HL : Hid (∀ (W : World) (i1 : Nat) (vt1 vp1 : Value), RS c W i1 vt1 vp1 s (bud + 1) → d4 c 59 #[.pointer (some ⟨c.g, 0, none⟩), .int .i64 4, .int .i64 (at' : Int)] W vt1 vp1 (s.sided 4 at') bud) := fun W i1 vt1 vp1 H => (hs W i1 vt1 vp1 s (bud + 1) 4 at' H he).mono fun _ _ ⟨x, y⟩ => ⟨x, y.less (Nat.le_succ bud)⟩
 unfold d4 at *
 clear h b0 b1 b2 hs he
 go_enter Tryz.func44, Tryz.ntmps44
 have HC0 := HI0.out _ _ _ _ _ HY0.out
 go_wp2_with fail
 refine HC0.mono ?_
 rintro e w1 ⟨rfl, G⟩
 have HY1 : Hid (RS c w1 i vt vp s (bud + 1)) := HY0.out.keep G
 have HX1 : Hid (∀ x, ∀ z, c8 c w1 vt vp x bud z → c8 c w vt vp x bud z) := fun x z R2 => HX0.out x z (c8.of (GB.non G) (fun _ _ k => k) R2)
 clear HC0 G HY0 HX0
 have HC1 := HI1.out _ _ _ _ _ HY1.out
 go_wp2_with fail
 refine HC1.mono ?_
 rintro e w2 ⟨rfl, G⟩
 have HY2 : Hid (RS c w2 i vt vp s (bud + 1)) := HY1.out.keep G
 have HX2 : Hid (∀ x, ∀ z, c8 c w2 vt vp x bud z → c8 c w vt vp x bud z) := fun x z R2 => HX1.out x z (c8.of (GB.non G) (fun _ _ k => k) R2)
 clear HC1 G HY1 HX1
 have HC2 := HI2.out _ _ _ _ _ HY2.out
 go_wp2_with fail
 refine HC2.mono ?_
 rintro e w3 ⟨rfl, G⟩
 have HY3 : Hid (RS c w3 i vt vp s (bud + 1)) := HY2.out.keep G
 have HX3 : Hid (∀ x, ∀ z, c8 c w3 vt vp x bud z → c8 c w vt vp x bud z) := fun x z R2 => HX2.out x z (c8.of (GB.non G) (fun _ _ k => k) R2)
 clear HC2 G HY2 HX2
 have HC := HL.out _ _ _ _ HY3.out
 go_wp2_with fail
 refine HC.mono ?_
 rintro e w4 ⟨rfl, R2⟩
 have HR := HX3.out _ _ R2
 clear HC R2 HX3 HY3 HL
 go_wp2
 exact bodyPost_end (results_none rfl _ _ _) rfl ⟨rfl, HR⟩
theorem a9A (hs : I9 c) (h : RS c w i vt vp s (bud + 1)) (at' : Nat) (b0 : s.is [91] = false) (b1 : s.is g9 = false) (b2 : s.is j5 = false) (b3 : s.is j1 = true) :
  d4 c 44 #[.pointer (some ⟨c.g, 0, none⟩), .int .i64 4, .int .i64 (at' : Int)] w vt vp (s.sided 4 at') bud := by
 have HX0 : Hid (∀ x, ∀ z, c8 c w vt vp x bud z → c8 c w vt vp x bud z) := fun x z R2 => R2
 have HY0 : Hid (RS c w i vt vp s (bud + 1)) := h
 have HI0 := d6 (c := c) [91] false b0
 have HI1 := d6 (c := c) g9 false b1
 have HI2 := d6 (c := c) j5 false b2
 have HI3 := d6 (c := c) j1 true b3
 have he := (k8 b3).1
 have HL : Hid (∀ (W : World) (i1 : Nat) (vt1 vp1 : Value), RS c W i1 vt1 vp1 s (bud + 1) → d4 c 59 #[.pointer (some ⟨c.g, 0, none⟩), .int .i64 4, .int .i64 (at' : Int)] W vt1 vp1 (s.sided 4 at') bud) := fun W i1 vt1 vp1 H => (hs W i1 vt1 vp1 s (bud + 1) 4 at' H he).mono fun _ _ ⟨x, y⟩ => ⟨x, y.less (Nat.le_succ bud)⟩
 unfold d4 at *
 clear h b0 b1 b2 b3 hs he
 go_enter Tryz.func44, Tryz.ntmps44
 have HC0 := HI0.out _ _ _ _ _ HY0.out
 go_wp2_with fail
 refine HC0.mono ?_
 rintro e w1 ⟨rfl, G⟩
 have HY1 : Hid (RS c w1 i vt vp s (bud + 1)) := HY0.out.keep G
 have HX1 : Hid (∀ x, ∀ z, c8 c w1 vt vp x bud z → c8 c w vt vp x bud z) := fun x z R2 => HX0.out x z (c8.of (GB.non G) (fun _ _ k => k) R2)
 clear HC0 G HY0 HX0
 have HC1 := HI1.out _ _ _ _ _ HY1.out
 go_wp2_with fail
 refine HC1.mono ?_
 rintro e w2 ⟨rfl, G⟩
 have HY2 : Hid (RS c w2 i vt vp s (bud + 1)) := HY1.out.keep G
 have HX2 : Hid (∀ x, ∀ z, c8 c w2 vt vp x bud z → c8 c w vt vp x bud z) := fun x z R2 => HX1.out x z (c8.of (GB.non G) (fun _ _ k => k) R2)
 clear HC1 G HY1 HX1
 have HC2 := HI2.out _ _ _ _ _ HY2.out
 go_wp2_with fail
 refine HC2.mono ?_
 rintro e w3 ⟨rfl, G⟩
 have HY3 : Hid (RS c w3 i vt vp s (bud + 1)) := HY2.out.keep G
 have HX3 : Hid (∀ x, ∀ z, c8 c w3 vt vp x bud z → c8 c w vt vp x bud z) := fun x z R2 => HX2.out x z (c8.of (GB.non G) (fun _ _ k => k) R2)
 clear HC2 G HY2 HX2
 have HC3 := HI3.out _ _ _ _ _ HY3.out
 go_wp2_with fail
 refine HC3.mono ?_
 rintro e w4 ⟨rfl, G⟩
 have HY4 : Hid (RS c w4 i vt vp s (bud + 1)) := HY3.out.keep G
 have HX4 : Hid (∀ x, ∀ z, c8 c w4 vt vp x bud z → c8 c w vt vp x bud z) := fun x z R2 => HX3.out x z (c8.of (GB.non G) (fun _ _ k => k) R2)
 clear HC3 G HY3 HX3
 have HC := HL.out _ _ _ _ HY4.out
 go_wp2_with fail
 refine HC.mono ?_
 rintro e w5 ⟨rfl, R2⟩
 have HR := HX4.out _ _ R2
 clear HC R2 HX4 HY4 HL
 go_wp2
 exact bodyPost_end (results_none rfl _ _ _) rfl ⟨rfl, HR⟩
theorem a9B (hs : I9 c) (h : RS c w i vt vp s (bud + 1)) (at' : Nat) (b0 : s.is [91] = false) (b1 : s.is g9 = false) (b2 : s.is j5 = false) (b3 : s.is j1 = false) (b4 : s.is j4 = true) :
  d4 c 44 #[.pointer (some ⟨c.g, 0, none⟩), .int .i64 4, .int .i64 (at' : Int)] w vt vp (s.sided 4 at') bud := by
 have HX0 : Hid (∀ x, ∀ z, c8 c w vt vp x bud z → c8 c w vt vp x bud z) := fun x z R2 => R2
 have HY0 : Hid (RS c w i vt vp s (bud + 1)) := h
 have HI0 := d6 (c := c) [91] false b0
 have HI1 := d6 (c := c) g9 false b1
 have HI2 := d6 (c := c) j5 false b2
 have HI3 := d6 (c := c) j1 false b3
 have HI4 := d6 (c := c) j4 true b4
 have he := (k8 b4).1
 have HL : Hid (∀ (W : World) (i1 : Nat) (vt1 vp1 : Value), RS c W i1 vt1 vp1 s (bud + 1) → d4 c 59 #[.pointer (some ⟨c.g, 0, none⟩), .int .i64 4, .int .i64 (at' : Int)] W vt1 vp1 (s.sided 4 at') bud) := fun W i1 vt1 vp1 H => (hs W i1 vt1 vp1 s (bud + 1) 4 at' H he).mono fun _ _ ⟨x, y⟩ => ⟨x, y.less (Nat.le_succ bud)⟩
 unfold d4 at *
 clear h b0 b1 b2 b3 b4 hs he
 go_enter Tryz.func44, Tryz.ntmps44
 have HC0 := HI0.out _ _ _ _ _ HY0.out
 go_wp2_with fail
 refine HC0.mono ?_
 rintro e w1 ⟨rfl, G⟩
 have HY1 : Hid (RS c w1 i vt vp s (bud + 1)) := HY0.out.keep G
 have HX1 : Hid (∀ x, ∀ z, c8 c w1 vt vp x bud z → c8 c w vt vp x bud z) := fun x z R2 => HX0.out x z (c8.of (GB.non G) (fun _ _ k => k) R2)
 clear HC0 G HY0 HX0
 have HC1 := HI1.out _ _ _ _ _ HY1.out
 go_wp2_with fail
 refine HC1.mono ?_
 rintro e w2 ⟨rfl, G⟩
 have HY2 : Hid (RS c w2 i vt vp s (bud + 1)) := HY1.out.keep G
 have HX2 : Hid (∀ x, ∀ z, c8 c w2 vt vp x bud z → c8 c w vt vp x bud z) := fun x z R2 => HX1.out x z (c8.of (GB.non G) (fun _ _ k => k) R2)
 clear HC1 G HY1 HX1
 have HC2 := HI2.out _ _ _ _ _ HY2.out
 go_wp2_with fail
 refine HC2.mono ?_
 rintro e w3 ⟨rfl, G⟩
 have HY3 : Hid (RS c w3 i vt vp s (bud + 1)) := HY2.out.keep G
 have HX3 : Hid (∀ x, ∀ z, c8 c w3 vt vp x bud z → c8 c w vt vp x bud z) := fun x z R2 => HX2.out x z (c8.of (GB.non G) (fun _ _ k => k) R2)
 clear HC2 G HY2 HX2
 have HC3 := HI3.out _ _ _ _ _ HY3.out
 go_wp2_with fail
 refine HC3.mono ?_
 rintro e w4 ⟨rfl, G⟩
 have HY4 : Hid (RS c w4 i vt vp s (bud + 1)) := HY3.out.keep G
 have HX4 : Hid (∀ x, ∀ z, c8 c w4 vt vp x bud z → c8 c w vt vp x bud z) := fun x z R2 => HX3.out x z (c8.of (GB.non G) (fun _ _ k => k) R2)
 clear HC3 G HY3 HX3
 have HC4 := HI4.out _ _ _ _ _ HY4.out
 go_wp2_with fail
 refine HC4.mono ?_
 rintro e w5 ⟨rfl, G⟩
 have HY5 : Hid (RS c w5 i vt vp s (bud + 1)) := HY4.out.keep G
 have HX5 : Hid (∀ x, ∀ z, c8 c w5 vt vp x bud z → c8 c w vt vp x bud z) := fun x z R2 => HX4.out x z (c8.of (GB.non G) (fun _ _ k => k) R2)
 clear HC4 G HY4 HX4
 have HC := HL.out _ _ _ _ HY5.out
 go_wp2_with fail
 refine HC.mono ?_
 rintro e w6 ⟨rfl, R2⟩
 have HR := HX5.out _ _ R2
 clear HC R2 HX5 HY5 HL
 go_wp2
 exact bodyPost_end (results_none rfl _ _ _) rfl ⟨rfl, HR⟩
theorem a9C (hs : I9 c) (h : RS c w i vt vp s (bud + 1)) (at' : Nat) (b0 : s.is [91] = false) (b1 : s.is g9 = true) :
  d4 c 44 #[.pointer (some ⟨c.g, 0, none⟩), .int .i64 5, .int .i64 (at' : Int)] w vt vp (s.sided 5 at') bud := by
 have HX0 : Hid (∀ x, ∀ z, c8 c w vt vp x bud z → c8 c w vt vp x bud z) := fun x z R2 => R2
 have HY0 : Hid (RS c w i vt vp s (bud + 1)) := h
 have HI0 := d6 (c := c) [91] false b0
 have HI1 := d6 (c := c) g9 true b1
 have he := (k8 b1).1
 have HL : Hid (∀ (W : World) (i1 : Nat) (vt1 vp1 : Value), RS c W i1 vt1 vp1 s (bud + 1) → d4 c 59 #[.pointer (some ⟨c.g, 0, none⟩), .int .i64 5, .int .i64 (at' : Int)] W vt1 vp1 (s.sided 5 at') bud) := fun W i1 vt1 vp1 H => (hs W i1 vt1 vp1 s (bud + 1) 5 at' H he).mono fun _ _ ⟨x, y⟩ => ⟨x, y.less (Nat.le_succ bud)⟩
 unfold d4 at *
 clear h b0 b1 hs he
 go_enter Tryz.func44, Tryz.ntmps44
 have HC0 := HI0.out _ _ _ _ _ HY0.out
 go_wp2_with fail
 refine HC0.mono ?_
 rintro e w1 ⟨rfl, G⟩
 have HY1 : Hid (RS c w1 i vt vp s (bud + 1)) := HY0.out.keep G
 have HX1 : Hid (∀ x, ∀ z, c8 c w1 vt vp x bud z → c8 c w vt vp x bud z) := fun x z R2 => HX0.out x z (c8.of (GB.non G) (fun _ _ k => k) R2)
 clear HC0 G HY0 HX0
 have HC1 := HI1.out _ _ _ _ _ HY1.out
 go_wp2_with fail
 refine HC1.mono ?_
 rintro e w2 ⟨rfl, G⟩
 have HY2 : Hid (RS c w2 i vt vp s (bud + 1)) := HY1.out.keep G
 have HX2 : Hid (∀ x, ∀ z, c8 c w2 vt vp x bud z → c8 c w vt vp x bud z) := fun x z R2 => HX1.out x z (c8.of (GB.non G) (fun _ _ k => k) R2)
 clear HC1 G HY1 HX1
 have HC := HL.out _ _ _ _ HY2.out
 go_wp2_with fail
 refine HC.mono ?_
 rintro e w3 ⟨rfl, R2⟩
 have HR := HX2.out _ _ R2
 clear HC R2 HX2 HY2 HL
 go_wp2
 exact bodyPost_end (results_none rfl _ _ _) rfl ⟨rfl, HR⟩
theorem a9D (hs : I9 c) (h : RS c w i vt vp s (bud + 1)) (at' : Nat) (b0 : s.is [91] = false) (b1 : s.is g9 = false) (b2 : s.is j5 = true) :
  d4 c 44 #[.pointer (some ⟨c.g, 0, none⟩), .int .i64 5, .int .i64 (at' : Int)] w vt vp (s.sided 5 at') bud := by
 have HX0 : Hid (∀ x, ∀ z, c8 c w vt vp x bud z → c8 c w vt vp x bud z) := fun x z R2 => R2
 have HY0 : Hid (RS c w i vt vp s (bud + 1)) := h
 have HI0 := d6 (c := c) [91] false b0
 have HI1 := d6 (c := c) g9 false b1
 have HI2 := d6 (c := c) j5 true b2
 have he := (k8 b2).1
 have HL : Hid (∀ (W : World) (i1 : Nat) (vt1 vp1 : Value), RS c W i1 vt1 vp1 s (bud + 1) → d4 c 59 #[.pointer (some ⟨c.g, 0, none⟩), .int .i64 5, .int .i64 (at' : Int)] W vt1 vp1 (s.sided 5 at') bud) := fun W i1 vt1 vp1 H => (hs W i1 vt1 vp1 s (bud + 1) 5 at' H he).mono fun _ _ ⟨x, y⟩ => ⟨x, y.less (Nat.le_succ bud)⟩
 unfold d4 at *
 clear h b0 b1 b2 hs he
 go_enter Tryz.func44, Tryz.ntmps44
 have HC0 := HI0.out _ _ _ _ _ HY0.out
 go_wp2_with fail
 refine HC0.mono ?_
 rintro e w1 ⟨rfl, G⟩
 have HY1 : Hid (RS c w1 i vt vp s (bud + 1)) := HY0.out.keep G
 have HX1 : Hid (∀ x, ∀ z, c8 c w1 vt vp x bud z → c8 c w vt vp x bud z) := fun x z R2 => HX0.out x z (c8.of (GB.non G) (fun _ _ k => k) R2)
 clear HC0 G HY0 HX0
 have HC1 := HI1.out _ _ _ _ _ HY1.out
 go_wp2_with fail
 refine HC1.mono ?_
 rintro e w2 ⟨rfl, G⟩
 have HY2 : Hid (RS c w2 i vt vp s (bud + 1)) := HY1.out.keep G
 have HX2 : Hid (∀ x, ∀ z, c8 c w2 vt vp x bud z → c8 c w vt vp x bud z) := fun x z R2 => HX1.out x z (c8.of (GB.non G) (fun _ _ k => k) R2)
 clear HC1 G HY1 HX1
 have HC2 := HI2.out _ _ _ _ _ HY2.out
 go_wp2_with fail
 refine HC2.mono ?_
 rintro e w3 ⟨rfl, G⟩
 have HY3 : Hid (RS c w3 i vt vp s (bud + 1)) := HY2.out.keep G
 have HX3 : Hid (∀ x, ∀ z, c8 c w3 vt vp x bud z → c8 c w vt vp x bud z) := fun x z R2 => HX2.out x z (c8.of (GB.non G) (fun _ _ k => k) R2)
 clear HC2 G HY2 HX2
 have HC := HL.out _ _ _ _ HY3.out
 go_wp2_with fail
 refine HC.mono ?_
 rintro e w4 ⟨rfl, R2⟩
 have HR := HX3.out _ _ R2
 clear HC R2 HX3 HY3 HL
 go_wp2
 exact bodyPost_end (results_none rfl _ _ _) rfl ⟨rfl, HR⟩
theorem a9E (hs : I9 c) (h : RS c w i vt vp s (bud + 1)) (at' : Nat) (b0 : s.is [91] = false) (b1 : s.is g9 = false) (b2 : s.is j5 = false) (b3 : s.is j1 = true) :
  d4 c 44 #[.pointer (some ⟨c.g, 0, none⟩), .int .i64 5, .int .i64 (at' : Int)] w vt vp (s.sided 5 at') bud := by
 have HX0 : Hid (∀ x, ∀ z, c8 c w vt vp x bud z → c8 c w vt vp x bud z) := fun x z R2 => R2
 have HY0 : Hid (RS c w i vt vp s (bud + 1)) := h
 have HI0 := d6 (c := c) [91] false b0
 have HI1 := d6 (c := c) g9 false b1
 have HI2 := d6 (c := c) j5 false b2
 have HI3 := d6 (c := c) j1 true b3
 have he := (k8 b3).1
 have HL : Hid (∀ (W : World) (i1 : Nat) (vt1 vp1 : Value), RS c W i1 vt1 vp1 s (bud + 1) → d4 c 59 #[.pointer (some ⟨c.g, 0, none⟩), .int .i64 5, .int .i64 (at' : Int)] W vt1 vp1 (s.sided 5 at') bud) := fun W i1 vt1 vp1 H => (hs W i1 vt1 vp1 s (bud + 1) 5 at' H he).mono fun _ _ ⟨x, y⟩ => ⟨x, y.less (Nat.le_succ bud)⟩
 unfold d4 at *
 clear h b0 b1 b2 b3 hs he
 go_enter Tryz.func44, Tryz.ntmps44
 have HC0 := HI0.out _ _ _ _ _ HY0.out
 go_wp2_with fail
 refine HC0.mono ?_
 rintro e w1 ⟨rfl, G⟩
 have HY1 : Hid (RS c w1 i vt vp s (bud + 1)) := HY0.out.keep G
 have HX1 : Hid (∀ x, ∀ z, c8 c w1 vt vp x bud z → c8 c w vt vp x bud z) := fun x z R2 => HX0.out x z (c8.of (GB.non G) (fun _ _ k => k) R2)
 clear HC0 G HY0 HX0
 have HC1 := HI1.out _ _ _ _ _ HY1.out
 go_wp2_with fail
 refine HC1.mono ?_
 rintro e w2 ⟨rfl, G⟩
 have HY2 : Hid (RS c w2 i vt vp s (bud + 1)) := HY1.out.keep G
 have HX2 : Hid (∀ x, ∀ z, c8 c w2 vt vp x bud z → c8 c w vt vp x bud z) := fun x z R2 => HX1.out x z (c8.of (GB.non G) (fun _ _ k => k) R2)
 clear HC1 G HY1 HX1
 have HC2 := HI2.out _ _ _ _ _ HY2.out
 go_wp2_with fail
 refine HC2.mono ?_
 rintro e w3 ⟨rfl, G⟩
 have HY3 : Hid (RS c w3 i vt vp s (bud + 1)) := HY2.out.keep G
 have HX3 : Hid (∀ x, ∀ z, c8 c w3 vt vp x bud z → c8 c w vt vp x bud z) := fun x z R2 => HX2.out x z (c8.of (GB.non G) (fun _ _ k => k) R2)
 clear HC2 G HY2 HX2
 have HC3 := HI3.out _ _ _ _ _ HY3.out
 go_wp2_with fail
 refine HC3.mono ?_
 rintro e w4 ⟨rfl, G⟩
 have HY4 : Hid (RS c w4 i vt vp s (bud + 1)) := HY3.out.keep G
 have HX4 : Hid (∀ x, ∀ z, c8 c w4 vt vp x bud z → c8 c w vt vp x bud z) := fun x z R2 => HX3.out x z (c8.of (GB.non G) (fun _ _ k => k) R2)
 clear HC3 G HY3 HX3
 have HC := HL.out _ _ _ _ HY4.out
 go_wp2_with fail
 refine HC.mono ?_
 rintro e w5 ⟨rfl, R2⟩
 have HR := HX4.out _ _ R2
 clear HC R2 HX4 HY4 HL
 go_wp2
 exact bodyPost_end (results_none rfl _ _ _) rfl ⟨rfl, HR⟩
theorem a9F (hs : I9 c) (h : RS c w i vt vp s (bud + 1)) (at' : Nat) (b0 : s.is [91] = false) (b1 : s.is g9 = false) (b2 : s.is j5 = false) (b3 : s.is j1 = false) (b4 : s.is j4 = true) :
  d4 c 44 #[.pointer (some ⟨c.g, 0, none⟩), .int .i64 5, .int .i64 (at' : Int)] w vt vp (s.sided 5 at') bud := by
 have HX0 : Hid (∀ x, ∀ z, c8 c w vt vp x bud z → c8 c w vt vp x bud z) := fun x z R2 => R2
 have HY0 : Hid (RS c w i vt vp s (bud + 1)) := h
 have HI0 := d6 (c := c) [91] false b0
 have HI1 := d6 (c := c) g9 false b1
 have HI2 := d6 (c := c) j5 false b2
 have HI3 := d6 (c := c) j1 false b3
 have HI4 := d6 (c := c) j4 true b4
 have he := (k8 b4).1
 have HL : Hid (∀ (W : World) (i1 : Nat) (vt1 vp1 : Value), RS c W i1 vt1 vp1 s (bud + 1) → d4 c 59 #[.pointer (some ⟨c.g, 0, none⟩), .int .i64 5, .int .i64 (at' : Int)] W vt1 vp1 (s.sided 5 at') bud) := fun W i1 vt1 vp1 H => (hs W i1 vt1 vp1 s (bud + 1) 5 at' H he).mono fun _ _ ⟨x, y⟩ => ⟨x, y.less (Nat.le_succ bud)⟩
 unfold d4 at *
 clear h b0 b1 b2 b3 b4 hs he
 go_enter Tryz.func44, Tryz.ntmps44
 have HC0 := HI0.out _ _ _ _ _ HY0.out
 go_wp2_with fail
 refine HC0.mono ?_
 rintro e w1 ⟨rfl, G⟩
 have HY1 : Hid (RS c w1 i vt vp s (bud + 1)) := HY0.out.keep G
 have HX1 : Hid (∀ x, ∀ z, c8 c w1 vt vp x bud z → c8 c w vt vp x bud z) := fun x z R2 => HX0.out x z (c8.of (GB.non G) (fun _ _ k => k) R2)
 clear HC0 G HY0 HX0
 have HC1 := HI1.out _ _ _ _ _ HY1.out
 go_wp2_with fail
 refine HC1.mono ?_
 rintro e w2 ⟨rfl, G⟩
 have HY2 : Hid (RS c w2 i vt vp s (bud + 1)) := HY1.out.keep G
 have HX2 : Hid (∀ x, ∀ z, c8 c w2 vt vp x bud z → c8 c w vt vp x bud z) := fun x z R2 => HX1.out x z (c8.of (GB.non G) (fun _ _ k => k) R2)
 clear HC1 G HY1 HX1
 have HC2 := HI2.out _ _ _ _ _ HY2.out
 go_wp2_with fail
 refine HC2.mono ?_
 rintro e w3 ⟨rfl, G⟩
 have HY3 : Hid (RS c w3 i vt vp s (bud + 1)) := HY2.out.keep G
 have HX3 : Hid (∀ x, ∀ z, c8 c w3 vt vp x bud z → c8 c w vt vp x bud z) := fun x z R2 => HX2.out x z (c8.of (GB.non G) (fun _ _ k => k) R2)
 clear HC2 G HY2 HX2
 have HC3 := HI3.out _ _ _ _ _ HY3.out
 go_wp2_with fail
 refine HC3.mono ?_
 rintro e w4 ⟨rfl, G⟩
 have HY4 : Hid (RS c w4 i vt vp s (bud + 1)) := HY3.out.keep G
 have HX4 : Hid (∀ x, ∀ z, c8 c w4 vt vp x bud z → c8 c w vt vp x bud z) := fun x z R2 => HX3.out x z (c8.of (GB.non G) (fun _ _ k => k) R2)
 clear HC3 G HY3 HX3
 have HC4 := HI4.out _ _ _ _ _ HY4.out
 go_wp2_with fail
 refine HC4.mono ?_
 rintro e w5 ⟨rfl, G⟩
 have HY5 : Hid (RS c w5 i vt vp s (bud + 1)) := HY4.out.keep G
 have HX5 : Hid (∀ x, ∀ z, c8 c w5 vt vp x bud z → c8 c w vt vp x bud z) := fun x z R2 => HX4.out x z (c8.of (GB.non G) (fun _ _ k => k) R2)
 clear HC4 G HY4 HX4
 have HC := HL.out _ _ _ _ HY5.out
 go_wp2_with fail
 refine HC.mono ?_
 rintro e w6 ⟨rfl, R2⟩
 have HR := HX5.out _ _ R2
 clear HC R2 HX5 HY5 HL
 go_wp2
 exact bodyPost_end (results_none rfl _ _ _) rfl ⟨rfl, HR⟩
theorem a9r (h : RS c w i vt vp s (bud + 1)) (of at' : Nat) (ho : of ≠ 13) (b0 : s.is [91] = true) (s2 : Rt) (b1 : s2.is [58] = false)
  (HR : ∀ (W : World) (i1 : Nat) (vt1 vp1 : Value), RS c W i1 vt1 vp1 s.opn (bud + 1) → d4 c 12 #[.pointer (some ⟨c.g, 0, none⟩), .int .i64 1] W vt1 vp1 s2 (bud + 1))
  (D0 : 0 ≤ (s2.must [93]).nest) (D1 : (s2.must [93]).er = none → 1 ≤ (s2.must [93]).nest) :
  d4 c 44 #[.pointer (some ⟨c.g, 0, none⟩), .int .i64 (of : Int), .int .i64 (at' : Int)] w vt vp ((s2.must [93]).down.lay ({ ndK 3 with of := of, size := 1 } : Nd) at') bud := by
 have HX0 : Hid (∀ x, ∀ z, c8 c w vt vp x bud z → c8 c w vt vp x bud z) := fun x z R2 => R2
 have HY0 : Hid (RS c w i vt vp s (bud + 1)) := h
 have HI0 := d6 (c := c) [91] true b0
 have HI1 := d6 (c := c) [58] false b1
 have e13 : ((of : Int) == 13) = false := by simp only [beq_eq_false_iff_ne]; omega
 have n13 : ((of : Int) != 13) = true := by simp only [bne_iff_ne]; omega
 have HO : Hid (∀ (W : World) (i1 : Nat) (vt1 vp1 : Value), RS c W i1 vt1 vp1 s (bud + 1) → d4 c 22 #[.pointer (some ⟨c.g, 0, none⟩)] W vt1 vp1 s.opn (bud + 1)) := fun W i1 vt1 vp1 H => (a0V H (k8 b0).1 (k8 b0).2).mono fun _ _ ⟨x, y⟩ => ⟨x, y.less (Nat.le_succ _)⟩
 have HRr : Hid (∀ (W : World) (i1 : Nat) (vt1 vp1 : Value), RS c W i1 vt1 vp1 s.opn (bud + 1) → d4 c 12 #[.pointer (some ⟨c.g, 0, none⟩), .int .i64 1] W vt1 vp1 s2 (bud + 1)) := fun W i1 vt1 vp1 H => HR W i1 vt1 vp1 H
 have HU : Hid (∀ (W : World) (i1 : Nat) (vt1 vp1 : Value), RS c W i1 vt1 vp1 s2 (bud + 1) → d4 c 42 #[.pointer (some ⟨c.g, 0, none⟩), str [93]] W vt1 vp1 (s2.must [93]) (bud + 1)) := fun W i1 vt1 vp1 H => Z8 H [93]
 have HD : Hid (0 ≤ (s2.must [93]).nest ∧ ((s2.must [93]).er = none → 1 ≤ (s2.must [93]).nest)) := ⟨D0, D1⟩
 have HL : Hid (∀ (W : World) (i1 : Nat) (vt1 vp1 : Value), RS c W i1 vt1 vp1 (s2.must [93]).down (bud + 1) → d4 c 23 #[.pointer (some ⟨c.g, 0, none⟩), .agg ({ ndK 3 with of := of, size := 1 } : Nd).cells.toArray, .int .i64 (at' : Int)] W vt1 vp1 ((s2.must [93]).down.lay ({ ndK 3 with of := of, size := 1 } : Nd) at') bud) := fun W i1 vt1 vp1 H => B9 H ({ ndK 3 with of := of, size := 1 } : Nd) at'
 generalize s2.must [93] = s5 at *
 generalize s.opn = s1 at *
 unfold d4 at *
 clear h b0 b1 HR D0 D1 ho
 go_enter Tryz.func44, Tryz.ntmps44
 have HC0 := HI0.out _ _ _ _ _ HY0.out
 go_wp2_with fail
 refine HC0.mono ?_
 rintro e w1 ⟨rfl, G⟩
 have HY1 : Hid (RS c w1 i vt vp s (bud + 1)) := HY0.out.keep G
 have HX1 : Hid (∀ x, ∀ z, c8 c w1 vt vp x bud z → c8 c w vt vp x bud z) := fun x z R2 => HX0.out x z (c8.of (GB.non G) (fun _ _ k => k) R2)
 clear HC0 G HY0 HX0
 have HC1 := HO.out _ _ _ _ HY1.out
 go_wp2_with fail
 refine HC1.mono ?_
 rintro e w2 ⟨rfl, i2, vt2, vp2, R, G, hf⟩
 have HY2 : Hid (RS c w2 i2 vt2 vp2 s1 (bud + 1)) := R
 have HX2 : Hid (∀ x, ∀ z, c8 c w2 vt2 vp2 x bud z → c8 c w vt vp x bud z) := fun x z R2 => HX1.out x z (c8.of G hf R2)
 clear HC1 G R hf HY1 HX1 HO
 have HC2 := HRr.out _ _ _ _ HY2.out
 go_wp2_with fail
 refine HC2.mono ?_
 rintro e w3 ⟨rfl, i3, vt3, vp3, R, G, hf⟩
 have HY3 : Hid (RS c w3 i3 vt3 vp3 s2 (bud + 1)) := R
 have HX3 : Hid (∀ x, ∀ z, c8 c w3 vt3 vp3 x bud z → c8 c w vt vp x bud z) := fun x z R2 => HX2.out x z (c8.of G hf R2)
 clear HC2 G R hf HY2 HX2 HRr
 have HC3 := HI1.out _ _ _ _ _ HY3.out
 go_wp2_with fail
 refine HC3.mono ?_
 rintro e w4 ⟨rfl, G⟩
 have HY4 : Hid (RS c w4 i3 vt3 vp3 s2 (bud + 1)) := HY3.out.keep G
 have HX4 : Hid (∀ x, ∀ z, c8 c w4 vt3 vp3 x bud z → c8 c w vt vp x bud z) := fun x z R2 => HX3.out x z (c8.of (GB.non G) (fun _ _ k => k) R2)
 clear HC3 G HY3 HX3
 have HC4 := HU.out _ _ _ _ HY4.out
 go_wp2_with fail
 refine HC4.mono ?_
 rintro e w5 ⟨rfl, i5, vt5, vp5, R, G, hf⟩
 have HY5 : Hid (RS c w5 i5 vt5 vp5 s5 (bud + 1)) := R
 have HX5 : Hid (∀ x, ∀ z, c8 c w5 vt5 vp5 x bud z → c8 c w vt vp x bud z) := fun x z R2 => HX4.out x z (c8.of G hf R2)
 clear HC4 G R hf HY4 HX4 HU
 obtain ⟨c4, f4, h1, hw, HDN⟩ := a1e HY5.out HD.out.1 HD.out.2
 have HY6 : Hid (RS c _ i5 vt5 vp5 s5.down (bud + 1)) := HDN.out.1
 have HX6 : Hid (∀ x, ∀ z, c8 c (w5.setCell ⟨c.g, 4, none⟩ (.int .i64 (s5.nest - 1))) vt5 vp5 x bud z → c8 c w vt vp x bud z) := fun x z R2 => HX5.out x z (c8.of HDN.out.2 (fun _ _ k => k) R2)
 clear HY5 HX5 HDN
 generalize s5.nest = nn at *
 have HC := HL.out _ _ _ _ HY6.out
 go_wp2_with fail
 refine HC.mono ?_
 rintro e w7 ⟨rfl, R2⟩
 have HR := HX6.out _ _ R2
 clear HC R2 HX6 HY6 HL
 go_wp2
 exact bodyPost_end (results_none rfl _ _ _) rfl ⟨rfl, HR⟩
theorem a9s (h : RS c w i vt vp s (bud + 1)) (of at' : Nat) (ho : of ≠ 13) (b0 : s.is [91] = true) (s2 : Rt) (b1 : s2.is [58] = true)
  (HR : ∀ (W : World) (i1 : Nat) (vt1 vp1 : Value), RS c W i1 vt1 vp1 s.opn (bud + 1) → d4 c 12 #[.pointer (some ⟨c.g, 0, none⟩), .int .i64 1] W vt1 vp1 s2 (bud + 1))
  (D0 : 0 ≤ (s2.next.number.must [93]).nest) (D1 : (s2.next.number.must [93]).er = none → 1 ≤ (s2.next.number.must [93]).nest) (hm : s2.next.num ≤ 4294967295) :
  d4 c 44 #[.pointer (some ⟨c.g, 0, none⟩), .int .i64 (of : Int), .int .i64 (at' : Int)] w vt vp ((s2.next.number.must [93]).down.lay ({ ndK 3 with of := of, size := s2.next.num } : Nd) at') bud := by
 have HX0 : Hid (∀ x, ∀ z, c8 c w vt vp x bud z → c8 c w vt vp x bud z) := fun x z R2 => R2
 have HY0 : Hid (RS c w i vt vp s (bud + 1)) := h
 have HI0 := d6 (c := c) [91] true b0
 have HI1 := d6 (c := c) [58] true b1
 have e13 : ((of : Int) == 13) = false := by simp only [beq_eq_false_iff_ne]; omega
 have n13 : ((of : Int) != 13) = true := by simp only [bne_iff_ne]; omega
 have HO : Hid (∀ (W : World) (i1 : Nat) (vt1 vp1 : Value), RS c W i1 vt1 vp1 s (bud + 1) → d4 c 22 #[.pointer (some ⟨c.g, 0, none⟩)] W vt1 vp1 s.opn (bud + 1)) := fun W i1 vt1 vp1 H => (a0V H (k8 b0).1 (k8 b0).2).mono fun _ _ ⟨x, y⟩ => ⟨x, y.less (Nat.le_succ _)⟩
 have HRr : Hid (∀ (W : World) (i1 : Nat) (vt1 vp1 : Value), RS c W i1 vt1 vp1 s.opn (bud + 1) → d4 c 12 #[.pointer (some ⟨c.g, 0, none⟩), .int .i64 1] W vt1 vp1 s2 (bud + 1)) := fun W i1 vt1 vp1 H => HR W i1 vt1 vp1 H
 have HN : Hid (∀ (W : World) (i1 : Nat) (vt1 vp1 : Value), RS c W i1 vt1 vp1 s2 (bud + 1) → d4 c 27 #[.pointer (some ⟨c.g, 0, none⟩)] W vt1 vp1 s2.next (bud + 1)) := fun W i1 vt1 vp1 H => (q8 H (fun _ => (k8 b1).2)).mono fun _ _ ⟨x, y⟩ => ⟨x, y.less (Nat.le_succ _)⟩
 have HM : Hid (∀ (W : World) (i1 : Nat) (vt1 vp1 : Value), RS c W i1 vt1 vp1 s2.next (bud + 1) → Calls Tryz.prog 58 #[.pointer (some ⟨c.g, 0, none⟩)] W fun e w' => e = .returned (.int .u32 (s2.next.num : Int)) ∧ c8 c W vt1 vp1 s2.next.number (bud + 1) w') := fun W i1 vt1 vp1 H => N0 H
 have HU : Hid (∀ (W : World) (i1 : Nat) (vt1 vp1 : Value), RS c W i1 vt1 vp1 s2.next.number (bud + 1) → d4 c 42 #[.pointer (some ⟨c.g, 0, none⟩), str [93]] W vt1 vp1 (s2.next.number.must [93]) (bud + 1)) := fun W i1 vt1 vp1 H => Z8 H [93]
 have HD : Hid (0 ≤ (s2.next.number.must [93]).nest ∧ ((s2.next.number.must [93]).er = none → 1 ≤ (s2.next.number.must [93]).nest)) := ⟨D0, D1⟩
 have HL : Hid (∀ (W : World) (i1 : Nat) (vt1 vp1 : Value), RS c W i1 vt1 vp1 (s2.next.number.must [93]).down (bud + 1) → d4 c 23 #[.pointer (some ⟨c.g, 0, none⟩), .agg ({ ndK 3 with of := of, size := s2.next.num } : Nd).cells.toArray, .int .i64 (at' : Int)] W vt1 vp1 ((s2.next.number.must [93]).down.lay ({ ndK 3 with of := of, size := s2.next.num } : Nd) at') bud) := fun W i1 vt1 vp1 H => B9 H ({ ndK 3 with of := of, size := s2.next.num } : Nd) at'
 generalize s2.next.number.must [93] = s5 at *
 generalize s2.next.num = m at *
 generalize s2.next.number = s4 at *
 generalize s2.next = s3 at *
 have hw2 : IntKind.i64.wrap (m : Int) = (m : Int) := by rw [IntKind.wrap_i64]; omega
 generalize s.opn = s1 at *
 unfold d4 at *
 clear h b0 b1 HR D0 D1 ho
 go_enter Tryz.func44, Tryz.ntmps44
 have HC0 := HI0.out _ _ _ _ _ HY0.out
 go_wp2_with fail
 refine HC0.mono ?_
 rintro e w1 ⟨rfl, G⟩
 have HY1 : Hid (RS c w1 i vt vp s (bud + 1)) := HY0.out.keep G
 have HX1 : Hid (∀ x, ∀ z, c8 c w1 vt vp x bud z → c8 c w vt vp x bud z) := fun x z R2 => HX0.out x z (c8.of (GB.non G) (fun _ _ k => k) R2)
 clear HC0 G HY0 HX0
 have HC1 := HO.out _ _ _ _ HY1.out
 go_wp2_with fail
 refine HC1.mono ?_
 rintro e w2 ⟨rfl, i2, vt2, vp2, R, G, hf⟩
 have HY2 : Hid (RS c w2 i2 vt2 vp2 s1 (bud + 1)) := R
 have HX2 : Hid (∀ x, ∀ z, c8 c w2 vt2 vp2 x bud z → c8 c w vt vp x bud z) := fun x z R2 => HX1.out x z (c8.of G hf R2)
 clear HC1 G R hf HY1 HX1 HO
 have HC2 := HRr.out _ _ _ _ HY2.out
 go_wp2_with fail
 refine HC2.mono ?_
 rintro e w3 ⟨rfl, i3, vt3, vp3, R, G, hf⟩
 have HY3 : Hid (RS c w3 i3 vt3 vp3 s2 (bud + 1)) := R
 have HX3 : Hid (∀ x, ∀ z, c8 c w3 vt3 vp3 x bud z → c8 c w vt vp x bud z) := fun x z R2 => HX2.out x z (c8.of G hf R2)
 clear HC2 G R hf HY2 HX2 HRr
 have HC3 := HI1.out _ _ _ _ _ HY3.out
 go_wp2_with fail
 refine HC3.mono ?_
 rintro e w4 ⟨rfl, G⟩
 have HY4 : Hid (RS c w4 i3 vt3 vp3 s2 (bud + 1)) := HY3.out.keep G
 have HX4 : Hid (∀ x, ∀ z, c8 c w4 vt3 vp3 x bud z → c8 c w vt vp x bud z) := fun x z R2 => HX3.out x z (c8.of (GB.non G) (fun _ _ k => k) R2)
 clear HC3 G HY3 HX3
 have HC4 := HN.out _ _ _ _ HY4.out
 go_wp2_with fail
 refine HC4.mono ?_
 rintro e w5 ⟨rfl, i5, vt5, vp5, R, G, hf⟩
 have HY5 : Hid (RS c w5 i5 vt5 vp5 s3 (bud + 1)) := R
 have HX5 : Hid (∀ x, ∀ z, c8 c w5 vt5 vp5 x bud z → c8 c w vt vp x bud z) := fun x z R2 => HX4.out x z (c8.of G hf R2)
 clear HC4 G R hf HY4 HX4 HN
 have HC5 := HM.out _ _ _ _ HY5.out
 go_wp2_with fail
 refine HC5.mono ?_
 rintro e w6 ⟨rfl, i6, vt6, vp6, R, G, hf⟩
 have HY6 : Hid (RS c w6 i6 vt6 vp6 s4 (bud + 1)) := R
 have HX6 : Hid (∀ x, ∀ z, c8 c w6 vt6 vp6 x bud z → c8 c w vt vp x bud z) := fun x z R2 => HX5.out x z (c8.of G hf R2)
 clear HC5 G R hf HY5 HX5 HM
 have HC6 := HU.out _ _ _ _ HY6.out
 go_wp2_with fail
 refine HC6.mono ?_
 rintro e w7 ⟨rfl, i7, vt7, vp7, R, G, hf⟩
 have HY7 : Hid (RS c w7 i7 vt7 vp7 s5 (bud + 1)) := R
 have HX7 : Hid (∀ x, ∀ z, c8 c w7 vt7 vp7 x bud z → c8 c w vt vp x bud z) := fun x z R2 => HX6.out x z (c8.of G hf R2)
 clear HC6 G R hf HY6 HX6 HU
 obtain ⟨c4, f4, h1, hw, HDN⟩ := a1e HY7.out HD.out.1 HD.out.2
 have HY8 : Hid (RS c _ i7 vt7 vp7 s5.down (bud + 1)) := HDN.out.1
 have HX8 : Hid (∀ x, ∀ z, c8 c (w7.setCell ⟨c.g, 4, none⟩ (.int .i64 (s5.nest - 1))) vt7 vp7 x bud z → c8 c w vt vp x bud z) := fun x z R2 => HX7.out x z (c8.of HDN.out.2 (fun _ _ k => k) R2)
 clear HY7 HX7 HDN
 generalize s5.nest = nn at *
 have HC := HL.out _ _ _ _ HY8.out
 go_wp2_with fail
 refine HC.mono ?_
 rintro e w9 ⟨rfl, R2⟩
 have HR := HX8.out _ _ R2
 clear HC R2 HX8 HY8 HL
 go_wp2
 exact bodyPost_end (results_none rfl _ _ _) rfl ⟨rfl, HR⟩

end

end Go.Proofs.YtlfmddjppejmaaaGreatDoor
