import Derived.Test.YtlfmddjppejmaaaGreatDoorqLotQ21
set_option maxHeartbeats 64000000
set_option maxRecDepth 100000
namespace Go.Proofs.YtlfmddjppejmaaaGreatDoor
open Go.RowKit

section
variable {c : PC} {w : World} {i bud : Nat} {vt vp : Value} {s : Rt}
theorem ab9 (h : RS c w i vt vp s bud) (of at' : Nat) (b0 : s.is g9 = false) (b1 : s.is j5 = false) (b2 : s.is j1 = true) :
  d4 c 59 #[.pointer (some ⟨c.g, 0, none⟩), .int .i64 (of : Int), .int .i64 (at' : Int)] w vt vp (s.next.number.lay ({ ndK 16 with of := of, side := 0, n := s.next.num, m := s.next.num } : Nd) at') bud := by
 have HX0 : Hid (∀ x, ∀ z, c8 c w vt vp x bud z → c8 c w vt vp x bud z) := fun x z R2 => R2
 have HY0 : Hid (RS c w i vt vp s bud) := h
 have HI0 := d6 (c := c) g9 false b0
 have HI1 := d6 (c := c) j5 false b1
 have HI2 := d6 (c := c) j1 true b2
 have HN : Hid (∀ (W : World) (i1 : Nat) (vt1 vp1 : Value), RS c W i1 vt1 vp1 s bud → d4 c 27 #[.pointer (some ⟨c.g, 0, none⟩)] W vt1 vp1 s.next (bud + 1)) := fun W i1 vt1 vp1 H => q8 H (fun _ => (k8 b2).2)
 have HM : Hid (∀ (W : World) (i1 : Nat) (vt1 vp1 : Value), RS c W i1 vt1 vp1 s.next (bud + 1) → Calls Tryz.prog 58 #[.pointer (some ⟨c.g, 0, none⟩)] W fun e w' => e = .returned (.int .u32 (s.next.num : Int)) ∧ c8 c W vt1 vp1 s.next.number (bud + 1) w') := fun W i1 vt1 vp1 H => N0 H
 have HL : Hid (∀ (W : World) (i1 : Nat) (vt1 vp1 : Value), RS c W i1 vt1 vp1 s.next.number (bud + 1) → d4 c 23 #[.pointer (some ⟨c.g, 0, none⟩), .agg ({ ndK 16 with of := of, side := 0, n := s.next.num, m := s.next.num } : Nd).cells.toArray, .int .i64 (at' : Int)] W vt1 vp1 (s.next.number.lay ({ ndK 16 with of := of, side := 0, n := s.next.num, m := s.next.num } : Nd) at') bud) := fun W i1 vt1 vp1 H => B9 H ({ ndK 16 with of := of, side := 0, n := s.next.num, m := s.next.num } : Nd) at'
 generalize s.next.num = m at *
 generalize s.next.number = s3 at *
 generalize s.next = s2 at *
 unfold d4 at *
 clear h b0 b1 b2
 go_enter Tryz.func59, Tryz.ntmps59
 have HC0 := HI0.out _ _ _ _ _ HY0.out
 go_wp2_with fail
 refine HC0.mono ?_
 rintro e w1 ⟨rfl, G⟩
 have HY1 : Hid (RS c w1 i vt vp s bud) := HY0.out.keep G
 have HX1 : Hid (∀ x, ∀ z, c8 c w1 vt vp x bud z → c8 c w vt vp x bud z) := fun x z R2 => HX0.out x z (c8.of (GB.non G) (fun _ _ k => k) R2)
 clear HC0 G HY0 HX0
 have HC1 := HI1.out _ _ _ _ _ HY1.out
 go_wp2_with fail
 refine HC1.mono ?_
 rintro e w2 ⟨rfl, G⟩
 have HY2 : Hid (RS c w2 i vt vp s bud) := HY1.out.keep G
 have HX2 : Hid (∀ x, ∀ z, c8 c w2 vt vp x bud z → c8 c w vt vp x bud z) := fun x z R2 => HX1.out x z (c8.of (GB.non G) (fun _ _ k => k) R2)
 clear HC1 G HY1 HX1
 have HC2 := HI2.out _ _ _ _ _ HY2.out
 go_wp2_with fail
 refine HC2.mono ?_
 rintro e w3 ⟨rfl, G⟩
 have HY3 : Hid (RS c w3 i vt vp s bud) := HY2.out.keep G
 have HX3 : Hid (∀ x, ∀ z, c8 c w3 vt vp x bud z → c8 c w vt vp x bud z) := fun x z R2 => HX2.out x z (c8.of (GB.non G) (fun _ _ k => k) R2)
 clear HC2 G HY2 HX2
 have HC3 := HN.out _ _ _ _ HY3.out
 go_wp2_with fail
 refine HC3.mono ?_
 rintro e w4 ⟨rfl, i4, vt4, vp4, R, G, hf⟩
 have HY4 : Hid (RS c w4 i4 vt4 vp4 s2 (bud + 1)) := R
 have HX4 : Hid (∀ x, ∀ z, c8 c w4 vt4 vp4 x bud z → c8 c w vt vp x bud z) := fun x z R2 => HX3.out x z (c8.of G hf R2)
 clear HC3 G R hf HY3 HX3 HN
 have HC4 := HM.out _ _ _ _ HY4.out
 go_wp2_with fail
 refine HC4.mono ?_
 rintro e w5 ⟨rfl, i5, vt5, vp5, R, G, hf⟩
 have HY5 : Hid (RS c w5 i5 vt5 vp5 s3 (bud + 1)) := R
 have HX5 : Hid (∀ x, ∀ z, c8 c w5 vt5 vp5 x bud z → c8 c w vt vp x bud z) := fun x z R2 => HX4.out x z (c8.of G hf R2)
 clear HC4 G R hf HY4 HX4 HM
 have HC := HL.out _ _ _ _ HY5.out
 go_wp2_with fail
 refine HC.mono ?_
 rintro e w6 ⟨rfl, R2⟩
 have HR := HX5.out _ _ R2
 clear HC R2 HX5 HY5 HL
 go_wp2
 exact bodyPost_end (results_none rfl _ _ _) rfl ⟨rfl, HR⟩
theorem ac0 (h : RS c w i vt vp s bud) (of at' : Nat) (b0 : s.is g9 = false) (b1 : s.is j5 = false) (b2 : s.is j1 = false) (b3 : s.is j4 = true) :
  d4 c 59 #[.pointer (some ⟨c.g, 0, none⟩), .int .i64 (of : Int), .int .i64 (at' : Int)] w vt vp ((s.next.number.must [45]).number.lay ({ ndK 16 with of := of, side := 0, n := s.next.num, m := (s.next.number.must [45]).num } : Nd) at') bud := by
 have HX0 : Hid (∀ x, ∀ z, c8 c w vt vp x bud z → c8 c w vt vp x bud z) := fun x z R2 => R2
 have HY0 : Hid (RS c w i vt vp s bud) := h
 have HI0 := d6 (c := c) g9 false b0
 have HI1 := d6 (c := c) j5 false b1
 have HI2 := d6 (c := c) j1 false b2
 have HI3 := d6 (c := c) j4 true b3
 have HN : Hid (∀ (W : World) (i1 : Nat) (vt1 vp1 : Value), RS c W i1 vt1 vp1 s bud → d4 c 27 #[.pointer (some ⟨c.g, 0, none⟩)] W vt1 vp1 s.next (bud + 1)) := fun W i1 vt1 vp1 H => q8 H (fun _ => (k8 b3).2)
 have HM : Hid (∀ (W : World) (i1 : Nat) (vt1 vp1 : Value), RS c W i1 vt1 vp1 s.next (bud + 1) → Calls Tryz.prog 58 #[.pointer (some ⟨c.g, 0, none⟩)] W fun e w' => e = .returned (.int .u32 (s.next.num : Int)) ∧ c8 c W vt1 vp1 s.next.number (bud + 1) w') := fun W i1 vt1 vp1 H => N0 H
 have HL : Hid (∀ (W : World) (i1 : Nat) (vt1 vp1 : Value), RS c W i1 vt1 vp1 (s.next.number.must [45]).number (bud + 1) → d4 c 23 #[.pointer (some ⟨c.g, 0, none⟩), .agg ({ ndK 16 with of := of, side := 0, n := s.next.num, m := (s.next.number.must [45]).num } : Nd).cells.toArray, .int .i64 (at' : Int)] W vt1 vp1 ((s.next.number.must [45]).number.lay ({ ndK 16 with of := of, side := 0, n := s.next.num, m := (s.next.number.must [45]).num } : Nd) at') bud) := fun W i1 vt1 vp1 H => B9 H ({ ndK 16 with of := of, side := 0, n := s.next.num, m := (s.next.number.must [45]).num } : Nd) at'
 have HU : Hid (∀ (W : World) (i1 : Nat) (vt1 vp1 : Value), RS c W i1 vt1 vp1 s.next.number (bud + 1) → d4 c 42 #[.pointer (some ⟨c.g, 0, none⟩), str [45]] W vt1 vp1 (s.next.number.must [45]) (bud + 1)) := fun W i1 vt1 vp1 H => Z8 H [45]
 have HM2 : Hid (∀ (W : World) (i1 : Nat) (vt1 vp1 : Value), RS c W i1 vt1 vp1 (s.next.number.must [45]) (bud + 1) → Calls Tryz.prog 58 #[.pointer (some ⟨c.g, 0, none⟩)] W fun e w' => e = .returned (.int .u32 ((s.next.number.must [45]).num : Int)) ∧ c8 c W vt1 vp1 (s.next.number.must [45]).number (bud + 1) w') := fun W i1 vt1 vp1 H => N0 H
 generalize (s.next.number.must [45]).num = m2 at *
 generalize (s.next.number.must [45]).number = s5 at *
 generalize s.next.number.must [45] = s4 at *
 generalize s.next.num = m at *
 generalize s.next.number = s3 at *
 generalize s.next = s2 at *
 unfold d4 at *
 clear h b0 b1 b2 b3
 go_enter Tryz.func59, Tryz.ntmps59
 have HC0 := HI0.out _ _ _ _ _ HY0.out
 go_wp2_with fail
 refine HC0.mono ?_
 rintro e w1 ⟨rfl, G⟩
 have HY1 : Hid (RS c w1 i vt vp s bud) := HY0.out.keep G
 have HX1 : Hid (∀ x, ∀ z, c8 c w1 vt vp x bud z → c8 c w vt vp x bud z) := fun x z R2 => HX0.out x z (c8.of (GB.non G) (fun _ _ k => k) R2)
 clear HC0 G HY0 HX0
 have HC1 := HI1.out _ _ _ _ _ HY1.out
 go_wp2_with fail
 refine HC1.mono ?_
 rintro e w2 ⟨rfl, G⟩
 have HY2 : Hid (RS c w2 i vt vp s bud) := HY1.out.keep G
 have HX2 : Hid (∀ x, ∀ z, c8 c w2 vt vp x bud z → c8 c w vt vp x bud z) := fun x z R2 => HX1.out x z (c8.of (GB.non G) (fun _ _ k => k) R2)
 clear HC1 G HY1 HX1
 have HC2 := HI2.out _ _ _ _ _ HY2.out
 go_wp2_with fail
 refine HC2.mono ?_
 rintro e w3 ⟨rfl, G⟩
 have HY3 : Hid (RS c w3 i vt vp s bud) := HY2.out.keep G
 have HX3 : Hid (∀ x, ∀ z, c8 c w3 vt vp x bud z → c8 c w vt vp x bud z) := fun x z R2 => HX2.out x z (c8.of (GB.non G) (fun _ _ k => k) R2)
 clear HC2 G HY2 HX2
 have HC3 := HI3.out _ _ _ _ _ HY3.out
 go_wp2_with fail
 refine HC3.mono ?_
 rintro e w4 ⟨rfl, G⟩
 have HY4 : Hid (RS c w4 i vt vp s bud) := HY3.out.keep G
 have HX4 : Hid (∀ x, ∀ z, c8 c w4 vt vp x bud z → c8 c w vt vp x bud z) := fun x z R2 => HX3.out x z (c8.of (GB.non G) (fun _ _ k => k) R2)
 clear HC3 G HY3 HX3
 have HC4 := HN.out _ _ _ _ HY4.out
 go_wp2_with fail
 refine HC4.mono ?_
 rintro e w5 ⟨rfl, i5, vt5, vp5, R, G, hf⟩
 have HY5 : Hid (RS c w5 i5 vt5 vp5 s2 (bud + 1)) := R
 have HX5 : Hid (∀ x, ∀ z, c8 c w5 vt5 vp5 x bud z → c8 c w vt vp x bud z) := fun x z R2 => HX4.out x z (c8.of G hf R2)
 clear HC4 G R hf HY4 HX4 HN
 have HC5 := HM.out _ _ _ _ HY5.out
 go_wp2_with fail
 refine HC5.mono ?_
 rintro e w6 ⟨rfl, i6, vt6, vp6, R, G, hf⟩
 have HY6 : Hid (RS c w6 i6 vt6 vp6 s3 (bud + 1)) := R
 have HX6 : Hid (∀ x, ∀ z, c8 c w6 vt6 vp6 x bud z → c8 c w vt vp x bud z) := fun x z R2 => HX5.out x z (c8.of G hf R2)
 clear HC5 G R hf HY5 HX5 HM
 have HC6 := HU.out _ _ _ _ HY6.out
 go_wp2_with fail
 refine HC6.mono ?_
 rintro e w7 ⟨rfl, i7, vt7, vp7, R, G, hf⟩
 have HY7 : Hid (RS c w7 i7 vt7 vp7 s4 (bud + 1)) := R
 have HX7 : Hid (∀ x, ∀ z, c8 c w7 vt7 vp7 x bud z → c8 c w vt vp x bud z) := fun x z R2 => HX6.out x z (c8.of G hf R2)
 clear HC6 G R hf HY6 HX6 HU
 have HC7 := HM2.out _ _ _ _ HY7.out
 go_wp2_with fail
 refine HC7.mono ?_
 rintro e w8 ⟨rfl, i8, vt8, vp8, R, G, hf⟩
 have HY8 : Hid (RS c w8 i8 vt8 vp8 s5 (bud + 1)) := R
 have HX8 : Hid (∀ x, ∀ z, c8 c w8 vt8 vp8 x bud z → c8 c w vt vp x bud z) := fun x z R2 => HX7.out x z (c8.of G hf R2)
 clear HC7 G R hf HY7 HX7 HM2
 have HC := HL.out _ _ _ _ HY8.out
 go_wp2_with fail
 refine HC.mono ?_
 rintro e w9 ⟨rfl, R2⟩
 have HR := HX8.out _ _ R2
 clear HC R2 HX8 HY8 HL
 go_wp2
 exact bodyPost_end (results_none rfl _ _ _) rfl ⟨rfl, HR⟩
theorem ab6 (h : RS c w i vt vp s bud) (at' : Nat) (b0 : s.is g9 = false) (b1 : s.is j5 = false) (b2 : s.is j1 = false) (b3 : s.is j4 = false) (b4 : s.is p9 = false) (b5 : s.is C9 = false) :
  d4 c 59 #[.pointer (some ⟨c.g, 0, none⟩), .int .i64 0, .int .i64 (at' : Int)] w vt vp (s.fail 111) bud := by
 have HX0 : Hid (∀ x, ∀ z, c8 c w vt vp x bud z → c8 c w vt vp x bud z) := fun x z R2 => R2
 have HY0 : Hid (RS c w i vt vp s bud) := h
 have HI0 := d6 (c := c) g9 false b0
 have HI1 := d6 (c := c) j5 false b1
 have HI2 := d6 (c := c) j1 false b2
 have HI3 := d6 (c := c) j4 false b3
 have HI4 := d6 (c := c) p9 false b4
 have HI5 := d6 (c := c) C9 false b5
 have HL : Hid (∀ (W : World) (i1 : Nat) (vt1 vp1 : Value), RS c W i1 vt1 vp1 s bud → d4 c 14 #[.pointer (some ⟨c.g, 0, none⟩), .int .i64 111] W vt1 vp1 (s.fail 111) bud) := fun W i1 vt1 vp1 H => M2 H _ (by decide) (by decide)
 unfold d4 at *
 clear h b0 b1 b2 b3 b4 b5
 go_enter Tryz.func59, Tryz.ntmps59
 have HC0 := HI0.out _ _ _ _ _ HY0.out
 go_wp2_with fail
 refine HC0.mono ?_
 rintro e w1 ⟨rfl, G⟩
 have HY1 : Hid (RS c w1 i vt vp s bud) := HY0.out.keep G
 have HX1 : Hid (∀ x, ∀ z, c8 c w1 vt vp x bud z → c8 c w vt vp x bud z) := fun x z R2 => HX0.out x z (c8.of (GB.non G) (fun _ _ k => k) R2)
 clear HC0 G HY0 HX0
 have HC1 := HI1.out _ _ _ _ _ HY1.out
 go_wp2_with fail
 refine HC1.mono ?_
 rintro e w2 ⟨rfl, G⟩
 have HY2 : Hid (RS c w2 i vt vp s bud) := HY1.out.keep G
 have HX2 : Hid (∀ x, ∀ z, c8 c w2 vt vp x bud z → c8 c w vt vp x bud z) := fun x z R2 => HX1.out x z (c8.of (GB.non G) (fun _ _ k => k) R2)
 clear HC1 G HY1 HX1
 have HC2 := HI2.out _ _ _ _ _ HY2.out
 go_wp2_with fail
 refine HC2.mono ?_
 rintro e w3 ⟨rfl, G⟩
 have HY3 : Hid (RS c w3 i vt vp s bud) := HY2.out.keep G
 have HX3 : Hid (∀ x, ∀ z, c8 c w3 vt vp x bud z → c8 c w vt vp x bud z) := fun x z R2 => HX2.out x z (c8.of (GB.non G) (fun _ _ k => k) R2)
 clear HC2 G HY2 HX2
 have HC3 := HI3.out _ _ _ _ _ HY3.out
 go_wp2_with fail
 refine HC3.mono ?_
 rintro e w4 ⟨rfl, G⟩
 have HY4 : Hid (RS c w4 i vt vp s bud) := HY3.out.keep G
 have HX4 : Hid (∀ x, ∀ z, c8 c w4 vt vp x bud z → c8 c w vt vp x bud z) := fun x z R2 => HX3.out x z (c8.of (GB.non G) (fun _ _ k => k) R2)
 clear HC3 G HY3 HX3
 have HC4 := HI4.out _ _ _ _ _ HY4.out
 go_wp2_with fail
 refine HC4.mono ?_
 rintro e w5 ⟨rfl, G⟩
 have HY5 : Hid (RS c w5 i vt vp s bud) := HY4.out.keep G
 have HX5 : Hid (∀ x, ∀ z, c8 c w5 vt vp x bud z → c8 c w vt vp x bud z) := fun x z R2 => HX4.out x z (c8.of (GB.non G) (fun _ _ k => k) R2)
 clear HC4 G HY4 HX4
 have HC5 := HI5.out _ _ _ _ _ HY5.out
 go_wp2_with fail
 refine HC5.mono ?_
 rintro e w6 ⟨rfl, G⟩
 have HY6 : Hid (RS c w6 i vt vp s bud) := HY5.out.keep G
 have HX6 : Hid (∀ x, ∀ z, c8 c w6 vt vp x bud z → c8 c w vt vp x bud z) := fun x z R2 => HX5.out x z (c8.of (GB.non G) (fun _ _ k => k) R2)
 clear HC5 G HY5 HX5
 have HC := HL.out _ _ _ _ HY6.out
 go_wp2_with fail
 refine HC.mono ?_
 rintro e w7 ⟨rfl, R2⟩
 have HR := HX6.out _ _ R2
 clear HC R2 HX6 HY6 HL
 go_wp2
 exact bodyPost_end (results_none rfl _ _ _) rfl ⟨rfl, HR⟩
theorem ab5 (h : RS c w i vt vp s bud) (of at' : Nat) (ho : of ≠ 0) (b0 : s.is g9 = false) (b1 : s.is j5 = false) (b2 : s.is j1 = false) (b3 : s.is j4 = false) :
  d4 c 59 #[.pointer (some ⟨c.g, 0, none⟩), .int .i64 (of : Int), .int .i64 (at' : Int)] w vt vp (s.fail 111) bud := by
 have HX0 : Hid (∀ x, ∀ z, c8 c w vt vp x bud z → c8 c w vt vp x bud z) := fun x z R2 => R2
 have HY0 : Hid (RS c w i vt vp s bud) := h
 have HI0 := d6 (c := c) g9 false b0
 have HI1 := d6 (c := c) j5 false b1
 have HI2 := d6 (c := c) j1 false b2
 have HI3 := d6 (c := c) j4 false b3
 have HL : Hid (∀ (W : World) (i1 : Nat) (vt1 vp1 : Value), RS c W i1 vt1 vp1 s bud → d4 c 14 #[.pointer (some ⟨c.g, 0, none⟩), .int .i64 111] W vt1 vp1 (s.fail 111) bud) := fun W i1 vt1 vp1 H => M2 H _ (by decide) (by decide)
 have e0 : ((of : Int) == 0) = false := by simp only [beq_eq_false_iff_ne]; omega
 unfold d4 at *
 clear h b0 b1 b2 b3 ho
 go_enter Tryz.func59, Tryz.ntmps59
 have HC0 := HI0.out _ _ _ _ _ HY0.out
 go_wp2_with fail
 refine HC0.mono ?_
 rintro e w1 ⟨rfl, G⟩
 have HY1 : Hid (RS c w1 i vt vp s bud) := HY0.out.keep G
 have HX1 : Hid (∀ x, ∀ z, c8 c w1 vt vp x bud z → c8 c w vt vp x bud z) := fun x z R2 => HX0.out x z (c8.of (GB.non G) (fun _ _ k => k) R2)
 clear HC0 G HY0 HX0
 have HC1 := HI1.out _ _ _ _ _ HY1.out
 go_wp2_with fail
 refine HC1.mono ?_
 rintro e w2 ⟨rfl, G⟩
 have HY2 : Hid (RS c w2 i vt vp s bud) := HY1.out.keep G
 have HX2 : Hid (∀ x, ∀ z, c8 c w2 vt vp x bud z → c8 c w vt vp x bud z) := fun x z R2 => HX1.out x z (c8.of (GB.non G) (fun _ _ k => k) R2)
 clear HC1 G HY1 HX1
 have HC2 := HI2.out _ _ _ _ _ HY2.out
 go_wp2_with fail
 refine HC2.mono ?_
 rintro e w3 ⟨rfl, G⟩
 have HY3 : Hid (RS c w3 i vt vp s bud) := HY2.out.keep G
 have HX3 : Hid (∀ x, ∀ z, c8 c w3 vt vp x bud z → c8 c w vt vp x bud z) := fun x z R2 => HX2.out x z (c8.of (GB.non G) (fun _ _ k => k) R2)
 clear HC2 G HY2 HX2
 have HC3 := HI3.out _ _ _ _ _ HY3.out
 go_wp2_with fail
 refine HC3.mono ?_
 rintro e w4 ⟨rfl, G⟩
 have HY4 : Hid (RS c w4 i vt vp s bud) := HY3.out.keep G
 have HX4 : Hid (∀ x, ∀ z, c8 c w4 vt vp x bud z → c8 c w vt vp x bud z) := fun x z R2 => HX3.out x z (c8.of (GB.non G) (fun _ _ k => k) R2)
 clear HC3 G HY3 HX3
 have HC := HL.out _ _ _ _ HY4.out
 go_wp2_with fail
 refine HC.mono ?_
 rintro e w5 ⟨rfl, R2⟩
 have HR := HX4.out _ _ R2
 clear HC R2 HX4 HY4 HL
 go_wp2
 exact bodyPost_end (results_none rfl _ _ _) rfl ⟨rfl, HR⟩
theorem ac5 (h : RS c w i vt vp s bud) (of at' : Nat) (b0 : s.is g9 = true) (b1 : s.next.is j1 = true) :
  d4 c 59 #[.pointer (some ⟨c.g, 0, none⟩), .int .i64 (of : Int), .int .i64 (at' : Int)] w vt vp (s.next.next.number.lay ({ ndK 16 with of := of, side := 1, n := s.next.next.num, m := s.next.next.num } : Nd) at') bud := by
 have HX0 : Hid (∀ x, ∀ z, c8 c w vt vp x bud z → c8 c w vt vp x bud z) := fun x z R2 => R2
 have HY0 : Hid (RS c w i vt vp s bud) := h
 have HI0 := d6 (c := c) g9 true b0
 have HI1 := d6 (c := c) j1 true b1
 have HP : Hid (∀ (W : World) (i1 : Nat) (vt1 vp1 : Value), RS c W i1 vt1 vp1 s bud → d4 c 27 #[.pointer (some ⟨c.g, 0, none⟩)] W vt1 vp1 s.next bud) := fun W i1 vt1 vp1 H => (q8 H (fun _ => (k8 b0).2)).mono fun _ _ ⟨x, y⟩ => ⟨x, y.less (Nat.le_succ _)⟩
 have HN : Hid (∀ (W : World) (i1 : Nat) (vt1 vp1 : Value), RS c W i1 vt1 vp1 s.next bud → d4 c 27 #[.pointer (some ⟨c.g, 0, none⟩)] W vt1 vp1 s.next.next (bud + 1)) := fun W i1 vt1 vp1 H => q8 H (fun _ => (k8 b1).2)
 have HM : Hid (∀ (W : World) (i1 : Nat) (vt1 vp1 : Value), RS c W i1 vt1 vp1 s.next.next (bud + 1) → Calls Tryz.prog 58 #[.pointer (some ⟨c.g, 0, none⟩)] W fun e w' => e = .returned (.int .u32 (s.next.next.num : Int)) ∧ c8 c W vt1 vp1 s.next.next.number (bud + 1) w') := fun W i1 vt1 vp1 H => N0 H
 have HL : Hid (∀ (W : World) (i1 : Nat) (vt1 vp1 : Value), RS c W i1 vt1 vp1 s.next.next.number (bud + 1) → d4 c 23 #[.pointer (some ⟨c.g, 0, none⟩), .agg ({ ndK 16 with of := of, side := 1, n := s.next.next.num, m := s.next.next.num } : Nd).cells.toArray, .int .i64 (at' : Int)] W vt1 vp1 (s.next.next.number.lay ({ ndK 16 with of := of, side := 1, n := s.next.next.num, m := s.next.next.num } : Nd) at') bud) := fun W i1 vt1 vp1 H => B9 H ({ ndK 16 with of := of, side := 1, n := s.next.next.num, m := s.next.next.num } : Nd) at'
 generalize s.next.next.num = m at *
 generalize s.next.next.number = s3 at *
 generalize s.next.next = s2 at *
 generalize s.next = s1 at *
 unfold d4 at *
 clear h b0 b1
 go_enter Tryz.func59, Tryz.ntmps59
 have HC0 := HI0.out _ _ _ _ _ HY0.out
 go_wp2_with fail
 refine HC0.mono ?_
 rintro e w1 ⟨rfl, G⟩
 have HY1 : Hid (RS c w1 i vt vp s bud) := HY0.out.keep G
 have HX1 : Hid (∀ x, ∀ z, c8 c w1 vt vp x bud z → c8 c w vt vp x bud z) := fun x z R2 => HX0.out x z (c8.of (GB.non G) (fun _ _ k => k) R2)
 clear HC0 G HY0 HX0
 have HC1 := HP.out _ _ _ _ HY1.out
 go_wp2_with fail
 refine HC1.mono ?_
 rintro e w2 ⟨rfl, i2, vt2, vp2, R, G, hf⟩
 have HY2 : Hid (RS c w2 i2 vt2 vp2 s1 bud) := R
 have HX2 : Hid (∀ x, ∀ z, c8 c w2 vt2 vp2 x bud z → c8 c w vt vp x bud z) := fun x z R2 => HX1.out x z (c8.of G hf R2)
 clear HC1 G R hf HY1 HX1 HP
 have HC2 := HI1.out _ _ _ _ _ HY2.out
 go_wp2_with fail
 refine HC2.mono ?_
 rintro e w3 ⟨rfl, G⟩
 have HY3 : Hid (RS c w3 i2 vt2 vp2 s1 bud) := HY2.out.keep G
 have HX3 : Hid (∀ x, ∀ z, c8 c w3 vt2 vp2 x bud z → c8 c w vt vp x bud z) := fun x z R2 => HX2.out x z (c8.of (GB.non G) (fun _ _ k => k) R2)
 clear HC2 G HY2 HX2
 have HC3 := HN.out _ _ _ _ HY3.out
 go_wp2_with fail
 refine HC3.mono ?_
 rintro e w4 ⟨rfl, i4, vt4, vp4, R, G, hf⟩
 have HY4 : Hid (RS c w4 i4 vt4 vp4 s2 (bud + 1)) := R
 have HX4 : Hid (∀ x, ∀ z, c8 c w4 vt4 vp4 x bud z → c8 c w vt vp x bud z) := fun x z R2 => HX3.out x z (c8.of G hf R2)
 clear HC3 G R hf HY3 HX3 HN
 have HC4 := HM.out _ _ _ _ HY4.out
 go_wp2_with fail
 refine HC4.mono ?_
 rintro e w5 ⟨rfl, i5, vt5, vp5, R, G, hf⟩
 have HY5 : Hid (RS c w5 i5 vt5 vp5 s3 (bud + 1)) := R
 have HX5 : Hid (∀ x, ∀ z, c8 c w5 vt5 vp5 x bud z → c8 c w vt vp x bud z) := fun x z R2 => HX4.out x z (c8.of G hf R2)
 clear HC4 G R hf HY4 HX4 HM
 have HC := HL.out _ _ _ _ HY5.out
 go_wp2_with fail
 refine HC.mono ?_
 rintro e w6 ⟨rfl, R2⟩
 have HR := HX5.out _ _ R2
 clear HC R2 HX5 HY5 HL
 go_wp2
 exact bodyPost_end (results_none rfl _ _ _) rfl ⟨rfl, HR⟩
theorem ac6 (h : RS c w i vt vp s bud) (of at' : Nat) (b0 : s.is g9 = true) (b1 : s.next.is j1 = false) (b2 : s.next.is j4 = true) :
  d4 c 59 #[.pointer (some ⟨c.g, 0, none⟩), .int .i64 (of : Int), .int .i64 (at' : Int)] w vt vp ((s.next.next.number.must [45]).number.lay ({ ndK 16 with of := of, side := 1, n := s.next.next.num, m := (s.next.next.number.must [45]).num } : Nd) at') bud := by
 have HX0 : Hid (∀ x, ∀ z, c8 c w vt vp x bud z → c8 c w vt vp x bud z) := fun x z R2 => R2
 have HY0 : Hid (RS c w i vt vp s bud) := h
 have HI0 := d6 (c := c) g9 true b0
 have HI1 := d6 (c := c) j1 false b1
 have HI2 := d6 (c := c) j4 true b2
 have HP : Hid (∀ (W : World) (i1 : Nat) (vt1 vp1 : Value), RS c W i1 vt1 vp1 s bud → d4 c 27 #[.pointer (some ⟨c.g, 0, none⟩)] W vt1 vp1 s.next bud) := fun W i1 vt1 vp1 H => (q8 H (fun _ => (k8 b0).2)).mono fun _ _ ⟨x, y⟩ => ⟨x, y.less (Nat.le_succ _)⟩
 have HN : Hid (∀ (W : World) (i1 : Nat) (vt1 vp1 : Value), RS c W i1 vt1 vp1 s.next bud → d4 c 27 #[.pointer (some ⟨c.g, 0, none⟩)] W vt1 vp1 s.next.next (bud + 1)) := fun W i1 vt1 vp1 H => q8 H (fun _ => (k8 b2).2)
 have HM : Hid (∀ (W : World) (i1 : Nat) (vt1 vp1 : Value), RS c W i1 vt1 vp1 s.next.next (bud + 1) → Calls Tryz.prog 58 #[.pointer (some ⟨c.g, 0, none⟩)] W fun e w' => e = .returned (.int .u32 (s.next.next.num : Int)) ∧ c8 c W vt1 vp1 s.next.next.number (bud + 1) w') := fun W i1 vt1 vp1 H => N0 H
 have HL : Hid (∀ (W : World) (i1 : Nat) (vt1 vp1 : Value), RS c W i1 vt1 vp1 (s.next.next.number.must [45]).number (bud + 1) → d4 c 23 #[.pointer (some ⟨c.g, 0, none⟩), .agg ({ ndK 16 with of := of, side := 1, n := s.next.next.num, m := (s.next.next.number.must [45]).num } : Nd).cells.toArray, .int .i64 (at' : Int)] W vt1 vp1 ((s.next.next.number.must [45]).number.lay ({ ndK 16 with of := of, side := 1, n := s.next.next.num, m := (s.next.next.number.must [45]).num } : Nd) at') bud) := fun W i1 vt1 vp1 H => B9 H ({ ndK 16 with of := of, side := 1, n := s.next.next.num, m := (s.next.next.number.must [45]).num } : Nd) at'
 have HU : Hid (∀ (W : World) (i1 : Nat) (vt1 vp1 : Value), RS c W i1 vt1 vp1 s.next.next.number (bud + 1) → d4 c 42 #[.pointer (some ⟨c.g, 0, none⟩), str [45]] W vt1 vp1 (s.next.next.number.must [45]) (bud + 1)) := fun W i1 vt1 vp1 H => Z8 H [45]
 have HM2 : Hid (∀ (W : World) (i1 : Nat) (vt1 vp1 : Value), RS c W i1 vt1 vp1 (s.next.next.number.must [45]) (bud + 1) → Calls Tryz.prog 58 #[.pointer (some ⟨c.g, 0, none⟩)] W fun e w' => e = .returned (.int .u32 ((s.next.next.number.must [45]).num : Int)) ∧ c8 c W vt1 vp1 (s.next.next.number.must [45]).number (bud + 1) w') := fun W i1 vt1 vp1 H => N0 H
 generalize (s.next.next.number.must [45]).num = m2 at *
 generalize (s.next.next.number.must [45]).number = s5 at *
 generalize s.next.next.number.must [45] = s4 at *
 generalize s.next.next.num = m at *
 generalize s.next.next.number = s3 at *
 generalize s.next.next = s2 at *
 generalize s.next = s1 at *
 unfold d4 at *
 clear h b0 b1 b2
 go_enter Tryz.func59, Tryz.ntmps59
 have HC0 := HI0.out _ _ _ _ _ HY0.out
 go_wp2_with fail
 refine HC0.mono ?_
 rintro e w1 ⟨rfl, G⟩
 have HY1 : Hid (RS c w1 i vt vp s bud) := HY0.out.keep G
 have HX1 : Hid (∀ x, ∀ z, c8 c w1 vt vp x bud z → c8 c w vt vp x bud z) := fun x z R2 => HX0.out x z (c8.of (GB.non G) (fun _ _ k => k) R2)
 clear HC0 G HY0 HX0
 have HC1 := HP.out _ _ _ _ HY1.out
 go_wp2_with fail
 refine HC1.mono ?_
 rintro e w2 ⟨rfl, i2, vt2, vp2, R, G, hf⟩
 have HY2 : Hid (RS c w2 i2 vt2 vp2 s1 bud) := R
 have HX2 : Hid (∀ x, ∀ z, c8 c w2 vt2 vp2 x bud z → c8 c w vt vp x bud z) := fun x z R2 => HX1.out x z (c8.of G hf R2)
 clear HC1 G R hf HY1 HX1 HP
 have HC2 := HI1.out _ _ _ _ _ HY2.out
 go_wp2_with fail
 refine HC2.mono ?_
 rintro e w3 ⟨rfl, G⟩
 have HY3 : Hid (RS c w3 i2 vt2 vp2 s1 bud) := HY2.out.keep G
 have HX3 : Hid (∀ x, ∀ z, c8 c w3 vt2 vp2 x bud z → c8 c w vt vp x bud z) := fun x z R2 => HX2.out x z (c8.of (GB.non G) (fun _ _ k => k) R2)
 clear HC2 G HY2 HX2
 have HC3 := HI2.out _ _ _ _ _ HY3.out
 go_wp2_with fail
 refine HC3.mono ?_
 rintro e w4 ⟨rfl, G⟩
 have HY4 : Hid (RS c w4 i2 vt2 vp2 s1 bud) := HY3.out.keep G
 have HX4 : Hid (∀ x, ∀ z, c8 c w4 vt2 vp2 x bud z → c8 c w vt vp x bud z) := fun x z R2 => HX3.out x z (c8.of (GB.non G) (fun _ _ k => k) R2)
 clear HC3 G HY3 HX3
 have HC4 := HN.out _ _ _ _ HY4.out
 go_wp2_with fail
 refine HC4.mono ?_
 rintro e w5 ⟨rfl, i5, vt5, vp5, R, G, hf⟩
 have HY5 : Hid (RS c w5 i5 vt5 vp5 s2 (bud + 1)) := R
 have HX5 : Hid (∀ x, ∀ z, c8 c w5 vt5 vp5 x bud z → c8 c w vt vp x bud z) := fun x z R2 => HX4.out x z (c8.of G hf R2)
 clear HC4 G R hf HY4 HX4 HN
 have HC5 := HM.out _ _ _ _ HY5.out
 go_wp2_with fail
 refine HC5.mono ?_
 rintro e w6 ⟨rfl, i6, vt6, vp6, R, G, hf⟩
 have HY6 : Hid (RS c w6 i6 vt6 vp6 s3 (bud + 1)) := R
 have HX6 : Hid (∀ x, ∀ z, c8 c w6 vt6 vp6 x bud z → c8 c w vt vp x bud z) := fun x z R2 => HX5.out x z (c8.of G hf R2)
 clear HC5 G R hf HY5 HX5 HM
 have HC6 := HU.out _ _ _ _ HY6.out
 go_wp2_with fail
 refine HC6.mono ?_
 rintro e w7 ⟨rfl, i7, vt7, vp7, R, G, hf⟩
 have HY7 : Hid (RS c w7 i7 vt7 vp7 s4 (bud + 1)) := R
 have HX7 : Hid (∀ x, ∀ z, c8 c w7 vt7 vp7 x bud z → c8 c w vt vp x bud z) := fun x z R2 => HX6.out x z (c8.of G hf R2)
 clear HC6 G R hf HY6 HX6 HU
 have HC7 := HM2.out _ _ _ _ HY7.out
 go_wp2_with fail
 refine HC7.mono ?_
 rintro e w8 ⟨rfl, i8, vt8, vp8, R, G, hf⟩
 have HY8 : Hid (RS c w8 i8 vt8 vp8 s5 (bud + 1)) := R
 have HX8 : Hid (∀ x, ∀ z, c8 c w8 vt8 vp8 x bud z → c8 c w vt vp x bud z) := fun x z R2 => HX7.out x z (c8.of G hf R2)
 clear HC7 G R hf HY7 HX7 HM2
 have HC := HL.out _ _ _ _ HY8.out
 go_wp2_with fail
 refine HC.mono ?_
 rintro e w9 ⟨rfl, R2⟩
 have HR := HX8.out _ _ R2
 clear HC R2 HX8 HY8 HL
 go_wp2
 exact bodyPost_end (results_none rfl _ _ _) rfl ⟨rfl, HR⟩
theorem ac2 (h : RS c w i vt vp s bud) (at' : Nat) (b0 : s.is g9 = true) (b1 : s.next.is j1 = false) (b2 : s.next.is j4 = false) (b3 : s.next.is p9 = false) (b4 : s.next.is C9 = false) :
  d4 c 59 #[.pointer (some ⟨c.g, 0, none⟩), .int .i64 0, .int .i64 (at' : Int)] w vt vp (s.next.fail 111) bud := by
 have HX0 : Hid (∀ x, ∀ z, c8 c w vt vp x bud z → c8 c w vt vp x bud z) := fun x z R2 => R2
 have HY0 : Hid (RS c w i vt vp s bud) := h
 have HI0 := d6 (c := c) g9 true b0
 have HI1 := d6 (c := c) j1 false b1
 have HI2 := d6 (c := c) j4 false b2
 have HI3 := d6 (c := c) p9 false b3
 have HI4 := d6 (c := c) C9 false b4
 have HP : Hid (∀ (W : World) (i1 : Nat) (vt1 vp1 : Value), RS c W i1 vt1 vp1 s bud → d4 c 27 #[.pointer (some ⟨c.g, 0, none⟩)] W vt1 vp1 s.next bud) := fun W i1 vt1 vp1 H => (q8 H (fun _ => (k8 b0).2)).mono fun _ _ ⟨x, y⟩ => ⟨x, y.less (Nat.le_succ _)⟩
 have HL : Hid (∀ (W : World) (i1 : Nat) (vt1 vp1 : Value), RS c W i1 vt1 vp1 s.next bud → d4 c 14 #[.pointer (some ⟨c.g, 0, none⟩), .int .i64 111] W vt1 vp1 (s.next.fail 111) bud) := fun W i1 vt1 vp1 H => M2 H _ (by decide) (by decide)
 generalize s.next = s1 at *
 unfold d4 at *
 clear h b0 b1 b2 b3 b4
 go_enter Tryz.func59, Tryz.ntmps59
 have HC0 := HI0.out _ _ _ _ _ HY0.out
 go_wp2_with fail
 refine HC0.mono ?_
 rintro e w1 ⟨rfl, G⟩
 have HY1 : Hid (RS c w1 i vt vp s bud) := HY0.out.keep G
 have HX1 : Hid (∀ x, ∀ z, c8 c w1 vt vp x bud z → c8 c w vt vp x bud z) := fun x z R2 => HX0.out x z (c8.of (GB.non G) (fun _ _ k => k) R2)
 clear HC0 G HY0 HX0
 have HC1 := HP.out _ _ _ _ HY1.out
 go_wp2_with fail
 refine HC1.mono ?_
 rintro e w2 ⟨rfl, i2, vt2, vp2, R, G, hf⟩
 have HY2 : Hid (RS c w2 i2 vt2 vp2 s1 bud) := R
 have HX2 : Hid (∀ x, ∀ z, c8 c w2 vt2 vp2 x bud z → c8 c w vt vp x bud z) := fun x z R2 => HX1.out x z (c8.of G hf R2)
 clear HC1 G R hf HY1 HX1 HP
 have HC2 := HI1.out _ _ _ _ _ HY2.out
 go_wp2_with fail
 refine HC2.mono ?_
 rintro e w3 ⟨rfl, G⟩
 have HY3 : Hid (RS c w3 i2 vt2 vp2 s1 bud) := HY2.out.keep G
 have HX3 : Hid (∀ x, ∀ z, c8 c w3 vt2 vp2 x bud z → c8 c w vt vp x bud z) := fun x z R2 => HX2.out x z (c8.of (GB.non G) (fun _ _ k => k) R2)
 clear HC2 G HY2 HX2
 have HC3 := HI2.out _ _ _ _ _ HY3.out
 go_wp2_with fail
 refine HC3.mono ?_
 rintro e w4 ⟨rfl, G⟩
 have HY4 : Hid (RS c w4 i2 vt2 vp2 s1 bud) := HY3.out.keep G
 have HX4 : Hid (∀ x, ∀ z, c8 c w4 vt2 vp2 x bud z → c8 c w vt vp x bud z) := fun x z R2 => HX3.out x z (c8.of (GB.non G) (fun _ _ k => k) R2)
 clear HC3 G HY3 HX3
 have HC4 := HI3.out _ _ _ _ _ HY4.out
 go_wp2_with fail
 refine HC4.mono ?_
 rintro e w5 ⟨rfl, G⟩
 have HY5 : Hid (RS c w5 i2 vt2 vp2 s1 bud) := HY4.out.keep G
 have HX5 : Hid (∀ x, ∀ z, c8 c w5 vt2 vp2 x bud z → c8 c w vt vp x bud z) := fun x z R2 => HX4.out x z (c8.of (GB.non G) (fun _ _ k => k) R2)
 clear HC4 G HY4 HX4
 have HC5 := HI4.out _ _ _ _ _ HY5.out
 go_wp2_with fail
 refine HC5.mono ?_
 rintro e w6 ⟨rfl, G⟩
 have HY6 : Hid (RS c w6 i2 vt2 vp2 s1 bud) := HY5.out.keep G
 have HX6 : Hid (∀ x, ∀ z, c8 c w6 vt2 vp2 x bud z → c8 c w vt vp x bud z) := fun x z R2 => HX5.out x z (c8.of (GB.non G) (fun _ _ k => k) R2)
 clear HC5 G HY5 HX5
 have HC := HL.out _ _ _ _ HY6.out
 go_wp2_with fail
 refine HC.mono ?_
 rintro e w7 ⟨rfl, R2⟩
 have HR := HX6.out _ _ R2
 clear HC R2 HX6 HY6 HL
 go_wp2
 exact bodyPost_end (results_none rfl _ _ _) rfl ⟨rfl, HR⟩
theorem ac1 (h : RS c w i vt vp s bud) (of at' : Nat) (ho : of ≠ 0) (b0 : s.is g9 = true) (b1 : s.next.is j1 = false) (b2 : s.next.is j4 = false) :
  d4 c 59 #[.pointer (some ⟨c.g, 0, none⟩), .int .i64 (of : Int), .int .i64 (at' : Int)] w vt vp (s.next.fail 111) bud := by
 have HX0 : Hid (∀ x, ∀ z, c8 c w vt vp x bud z → c8 c w vt vp x bud z) := fun x z R2 => R2
 have HY0 : Hid (RS c w i vt vp s bud) := h
 have HI0 := d6 (c := c) g9 true b0
 have HI1 := d6 (c := c) j1 false b1
 have HI2 := d6 (c := c) j4 false b2
 have HP : Hid (∀ (W : World) (i1 : Nat) (vt1 vp1 : Value), RS c W i1 vt1 vp1 s bud → d4 c 27 #[.pointer (some ⟨c.g, 0, none⟩)] W vt1 vp1 s.next bud) := fun W i1 vt1 vp1 H => (q8 H (fun _ => (k8 b0).2)).mono fun _ _ ⟨x, y⟩ => ⟨x, y.less (Nat.le_succ _)⟩
 have HL : Hid (∀ (W : World) (i1 : Nat) (vt1 vp1 : Value), RS c W i1 vt1 vp1 s.next bud → d4 c 14 #[.pointer (some ⟨c.g, 0, none⟩), .int .i64 111] W vt1 vp1 (s.next.fail 111) bud) := fun W i1 vt1 vp1 H => M2 H _ (by decide) (by decide)
 have e0 : ((of : Int) == 0) = false := by simp only [beq_eq_false_iff_ne]; omega
 generalize s.next = s1 at *
 unfold d4 at *
 clear h b0 b1 b2 ho
 go_enter Tryz.func59, Tryz.ntmps59
 have HC0 := HI0.out _ _ _ _ _ HY0.out
 go_wp2_with fail
 refine HC0.mono ?_
 rintro e w1 ⟨rfl, G⟩
 have HY1 : Hid (RS c w1 i vt vp s bud) := HY0.out.keep G
 have HX1 : Hid (∀ x, ∀ z, c8 c w1 vt vp x bud z → c8 c w vt vp x bud z) := fun x z R2 => HX0.out x z (c8.of (GB.non G) (fun _ _ k => k) R2)
 clear HC0 G HY0 HX0
 have HC1 := HP.out _ _ _ _ HY1.out
 go_wp2_with fail
 refine HC1.mono ?_
 rintro e w2 ⟨rfl, i2, vt2, vp2, R, G, hf⟩
 have HY2 : Hid (RS c w2 i2 vt2 vp2 s1 bud) := R
 have HX2 : Hid (∀ x, ∀ z, c8 c w2 vt2 vp2 x bud z → c8 c w vt vp x bud z) := fun x z R2 => HX1.out x z (c8.of G hf R2)
 clear HC1 G R hf HY1 HX1 HP
 have HC2 := HI1.out _ _ _ _ _ HY2.out
 go_wp2_with fail
 refine HC2.mono ?_
 rintro e w3 ⟨rfl, G⟩
 have HY3 : Hid (RS c w3 i2 vt2 vp2 s1 bud) := HY2.out.keep G
 have HX3 : Hid (∀ x, ∀ z, c8 c w3 vt2 vp2 x bud z → c8 c w vt vp x bud z) := fun x z R2 => HX2.out x z (c8.of (GB.non G) (fun _ _ k => k) R2)
 clear HC2 G HY2 HX2
 have HC3 := HI2.out _ _ _ _ _ HY3.out
 go_wp2_with fail
 refine HC3.mono ?_
 rintro e w4 ⟨rfl, G⟩
 have HY4 : Hid (RS c w4 i2 vt2 vp2 s1 bud) := HY3.out.keep G
 have HX4 : Hid (∀ x, ∀ z, c8 c w4 vt2 vp2 x bud z → c8 c w vt vp x bud z) := fun x z R2 => HX3.out x z (c8.of (GB.non G) (fun _ _ k => k) R2)
 clear HC3 G HY3 HX3
 have HC := HL.out _ _ _ _ HY4.out
 go_wp2_with fail
 refine HC.mono ?_
 rintro e w5 ⟨rfl, R2⟩
 have HR := HX4.out _ _ R2
 clear HC R2 HX4 HY4 HL
 go_wp2
 exact bodyPost_end (results_none rfl _ _ _) rfl ⟨rfl, HR⟩
theorem ab3 (h : RS c w i vt vp s bud) (of at' : Nat) (b0 : s.is g9 = false) (b1 : s.is j5 = true) (b2 : s.next.is j1 = true) :
  d4 c 59 #[.pointer (some ⟨c.g, 0, none⟩), .int .i64 (of : Int), .int .i64 (at' : Int)] w vt vp (s.next.next.number.lay ({ ndK 16 with of := of, side := 2, n := s.next.next.num, m := s.next.next.num } : Nd) at') bud := by
 have HX0 : Hid (∀ x, ∀ z, c8 c w vt vp x bud z → c8 c w vt vp x bud z) := fun x z R2 => R2
 have HY0 : Hid (RS c w i vt vp s bud) := h
 have HI0 := d6 (c := c) g9 false b0
 have HI1 := d6 (c := c) j5 true b1
 have HI2 := d6 (c := c) j1 true b2
 have HP : Hid (∀ (W : World) (i1 : Nat) (vt1 vp1 : Value), RS c W i1 vt1 vp1 s bud → d4 c 27 #[.pointer (some ⟨c.g, 0, none⟩)] W vt1 vp1 s.next bud) := fun W i1 vt1 vp1 H => (q8 H (fun _ => (k8 b1).2)).mono fun _ _ ⟨x, y⟩ => ⟨x, y.less (Nat.le_succ _)⟩
 have HN : Hid (∀ (W : World) (i1 : Nat) (vt1 vp1 : Value), RS c W i1 vt1 vp1 s.next bud → d4 c 27 #[.pointer (some ⟨c.g, 0, none⟩)] W vt1 vp1 s.next.next (bud + 1)) := fun W i1 vt1 vp1 H => q8 H (fun _ => (k8 b2).2)
 have HM : Hid (∀ (W : World) (i1 : Nat) (vt1 vp1 : Value), RS c W i1 vt1 vp1 s.next.next (bud + 1) → Calls Tryz.prog 58 #[.pointer (some ⟨c.g, 0, none⟩)] W fun e w' => e = .returned (.int .u32 (s.next.next.num : Int)) ∧ c8 c W vt1 vp1 s.next.next.number (bud + 1) w') := fun W i1 vt1 vp1 H => N0 H
 have HL : Hid (∀ (W : World) (i1 : Nat) (vt1 vp1 : Value), RS c W i1 vt1 vp1 s.next.next.number (bud + 1) → d4 c 23 #[.pointer (some ⟨c.g, 0, none⟩), .agg ({ ndK 16 with of := of, side := 2, n := s.next.next.num, m := s.next.next.num } : Nd).cells.toArray, .int .i64 (at' : Int)] W vt1 vp1 (s.next.next.number.lay ({ ndK 16 with of := of, side := 2, n := s.next.next.num, m := s.next.next.num } : Nd) at') bud) := fun W i1 vt1 vp1 H => B9 H ({ ndK 16 with of := of, side := 2, n := s.next.next.num, m := s.next.next.num } : Nd) at'
 generalize s.next.next.num = m at *
 generalize s.next.next.number = s3 at *
 generalize s.next.next = s2 at *
 generalize s.next = s1 at *
 unfold d4 at *
 clear h b0 b1 b2
 go_enter Tryz.func59, Tryz.ntmps59
 have HC0 := HI0.out _ _ _ _ _ HY0.out
 go_wp2_with fail
 refine HC0.mono ?_
 rintro e w1 ⟨rfl, G⟩
 have HY1 : Hid (RS c w1 i vt vp s bud) := HY0.out.keep G
 have HX1 : Hid (∀ x, ∀ z, c8 c w1 vt vp x bud z → c8 c w vt vp x bud z) := fun x z R2 => HX0.out x z (c8.of (GB.non G) (fun _ _ k => k) R2)
 clear HC0 G HY0 HX0
 have HC1 := HI1.out _ _ _ _ _ HY1.out
 go_wp2_with fail
 refine HC1.mono ?_
 rintro e w2 ⟨rfl, G⟩
 have HY2 : Hid (RS c w2 i vt vp s bud) := HY1.out.keep G
 have HX2 : Hid (∀ x, ∀ z, c8 c w2 vt vp x bud z → c8 c w vt vp x bud z) := fun x z R2 => HX1.out x z (c8.of (GB.non G) (fun _ _ k => k) R2)
 clear HC1 G HY1 HX1
 have HC2 := HP.out _ _ _ _ HY2.out
 go_wp2_with fail
 refine HC2.mono ?_
 rintro e w3 ⟨rfl, i3, vt3, vp3, R, G, hf⟩
 have HY3 : Hid (RS c w3 i3 vt3 vp3 s1 bud) := R
 have HX3 : Hid (∀ x, ∀ z, c8 c w3 vt3 vp3 x bud z → c8 c w vt vp x bud z) := fun x z R2 => HX2.out x z (c8.of G hf R2)
 clear HC2 G R hf HY2 HX2 HP
 have HC3 := HI2.out _ _ _ _ _ HY3.out
 go_wp2_with fail
 refine HC3.mono ?_
 rintro e w4 ⟨rfl, G⟩
 have HY4 : Hid (RS c w4 i3 vt3 vp3 s1 bud) := HY3.out.keep G
 have HX4 : Hid (∀ x, ∀ z, c8 c w4 vt3 vp3 x bud z → c8 c w vt vp x bud z) := fun x z R2 => HX3.out x z (c8.of (GB.non G) (fun _ _ k => k) R2)
 clear HC3 G HY3 HX3
 have HC4 := HN.out _ _ _ _ HY4.out
 go_wp2_with fail
 refine HC4.mono ?_
 rintro e w5 ⟨rfl, i5, vt5, vp5, R, G, hf⟩
 have HY5 : Hid (RS c w5 i5 vt5 vp5 s2 (bud + 1)) := R
 have HX5 : Hid (∀ x, ∀ z, c8 c w5 vt5 vp5 x bud z → c8 c w vt vp x bud z) := fun x z R2 => HX4.out x z (c8.of G hf R2)
 clear HC4 G R hf HY4 HX4 HN
 have HC5 := HM.out _ _ _ _ HY5.out
 go_wp2_with fail
 refine HC5.mono ?_
 rintro e w6 ⟨rfl, i6, vt6, vp6, R, G, hf⟩
 have HY6 : Hid (RS c w6 i6 vt6 vp6 s3 (bud + 1)) := R
 have HX6 : Hid (∀ x, ∀ z, c8 c w6 vt6 vp6 x bud z → c8 c w vt vp x bud z) := fun x z R2 => HX5.out x z (c8.of G hf R2)
 clear HC5 G R hf HY5 HX5 HM
 have HC := HL.out _ _ _ _ HY6.out
 go_wp2_with fail
 refine HC.mono ?_
 rintro e w7 ⟨rfl, R2⟩
 have HR := HX6.out _ _ R2
 clear HC R2 HX6 HY6 HL
 go_wp2
 exact bodyPost_end (results_none rfl _ _ _) rfl ⟨rfl, HR⟩
theorem ab4 (h : RS c w i vt vp s bud) (of at' : Nat) (b0 : s.is g9 = false) (b1 : s.is j5 = true) (b2 : s.next.is j1 = false) (b3 : s.next.is j4 = true) :
  d4 c 59 #[.pointer (some ⟨c.g, 0, none⟩), .int .i64 (of : Int), .int .i64 (at' : Int)] w vt vp ((s.next.next.number.must [45]).number.lay ({ ndK 16 with of := of, side := 2, n := s.next.next.num, m := (s.next.next.number.must [45]).num } : Nd) at') bud := by
 have HX0 : Hid (∀ x, ∀ z, c8 c w vt vp x bud z → c8 c w vt vp x bud z) := fun x z R2 => R2
 have HY0 : Hid (RS c w i vt vp s bud) := h
 have HI0 := d6 (c := c) g9 false b0
 have HI1 := d6 (c := c) j5 true b1
 have HI2 := d6 (c := c) j1 false b2
 have HI3 := d6 (c := c) j4 true b3
 have HP : Hid (∀ (W : World) (i1 : Nat) (vt1 vp1 : Value), RS c W i1 vt1 vp1 s bud → d4 c 27 #[.pointer (some ⟨c.g, 0, none⟩)] W vt1 vp1 s.next bud) := fun W i1 vt1 vp1 H => (q8 H (fun _ => (k8 b1).2)).mono fun _ _ ⟨x, y⟩ => ⟨x, y.less (Nat.le_succ _)⟩
 have HN : Hid (∀ (W : World) (i1 : Nat) (vt1 vp1 : Value), RS c W i1 vt1 vp1 s.next bud → d4 c 27 #[.pointer (some ⟨c.g, 0, none⟩)] W vt1 vp1 s.next.next (bud + 1)) := fun W i1 vt1 vp1 H => q8 H (fun _ => (k8 b3).2)
 have HM : Hid (∀ (W : World) (i1 : Nat) (vt1 vp1 : Value), RS c W i1 vt1 vp1 s.next.next (bud + 1) → Calls Tryz.prog 58 #[.pointer (some ⟨c.g, 0, none⟩)] W fun e w' => e = .returned (.int .u32 (s.next.next.num : Int)) ∧ c8 c W vt1 vp1 s.next.next.number (bud + 1) w') := fun W i1 vt1 vp1 H => N0 H
 have HL : Hid (∀ (W : World) (i1 : Nat) (vt1 vp1 : Value), RS c W i1 vt1 vp1 (s.next.next.number.must [45]).number (bud + 1) → d4 c 23 #[.pointer (some ⟨c.g, 0, none⟩), .agg ({ ndK 16 with of := of, side := 2, n := s.next.next.num, m := (s.next.next.number.must [45]).num } : Nd).cells.toArray, .int .i64 (at' : Int)] W vt1 vp1 ((s.next.next.number.must [45]).number.lay ({ ndK 16 with of := of, side := 2, n := s.next.next.num, m := (s.next.next.number.must [45]).num } : Nd) at') bud) := fun W i1 vt1 vp1 H => B9 H ({ ndK 16 with of := of, side := 2, n := s.next.next.num, m := (s.next.next.number.must [45]).num } : Nd) at'
 have HU : Hid (∀ (W : World) (i1 : Nat) (vt1 vp1 : Value), RS c W i1 vt1 vp1 s.next.next.number (bud + 1) → d4 c 42 #[.pointer (some ⟨c.g, 0, none⟩), str [45]] W vt1 vp1 (s.next.next.number.must [45]) (bud + 1)) := fun W i1 vt1 vp1 H => Z8 H [45]
 have HM2 : Hid (∀ (W : World) (i1 : Nat) (vt1 vp1 : Value), RS c W i1 vt1 vp1 (s.next.next.number.must [45]) (bud + 1) → Calls Tryz.prog 58 #[.pointer (some ⟨c.g, 0, none⟩)] W fun e w' => e = .returned (.int .u32 ((s.next.next.number.must [45]).num : Int)) ∧ c8 c W vt1 vp1 (s.next.next.number.must [45]).number (bud + 1) w') := fun W i1 vt1 vp1 H => N0 H
 generalize (s.next.next.number.must [45]).num = m2 at *
 generalize (s.next.next.number.must [45]).number = s5 at *
 generalize s.next.next.number.must [45] = s4 at *
 generalize s.next.next.num = m at *
 generalize s.next.next.number = s3 at *
 generalize s.next.next = s2 at *
 generalize s.next = s1 at *
 unfold d4 at *
 clear h b0 b1 b2 b3
 go_enter Tryz.func59, Tryz.ntmps59
 have HC0 := HI0.out _ _ _ _ _ HY0.out
 go_wp2_with fail
 refine HC0.mono ?_
 rintro e w1 ⟨rfl, G⟩
 have HY1 : Hid (RS c w1 i vt vp s bud) := HY0.out.keep G
 have HX1 : Hid (∀ x, ∀ z, c8 c w1 vt vp x bud z → c8 c w vt vp x bud z) := fun x z R2 => HX0.out x z (c8.of (GB.non G) (fun _ _ k => k) R2)
 clear HC0 G HY0 HX0
 have HC1 := HI1.out _ _ _ _ _ HY1.out
 go_wp2_with fail
 refine HC1.mono ?_
 rintro e w2 ⟨rfl, G⟩
 have HY2 : Hid (RS c w2 i vt vp s bud) := HY1.out.keep G
 have HX2 : Hid (∀ x, ∀ z, c8 c w2 vt vp x bud z → c8 c w vt vp x bud z) := fun x z R2 => HX1.out x z (c8.of (GB.non G) (fun _ _ k => k) R2)
 clear HC1 G HY1 HX1
 have HC2 := HP.out _ _ _ _ HY2.out
 go_wp2_with fail
 refine HC2.mono ?_
 rintro e w3 ⟨rfl, i3, vt3, vp3, R, G, hf⟩
 have HY3 : Hid (RS c w3 i3 vt3 vp3 s1 bud) := R
 have HX3 : Hid (∀ x, ∀ z, c8 c w3 vt3 vp3 x bud z → c8 c w vt vp x bud z) := fun x z R2 => HX2.out x z (c8.of G hf R2)
 clear HC2 G R hf HY2 HX2 HP
 have HC3 := HI2.out _ _ _ _ _ HY3.out
 go_wp2_with fail
 refine HC3.mono ?_
 rintro e w4 ⟨rfl, G⟩
 have HY4 : Hid (RS c w4 i3 vt3 vp3 s1 bud) := HY3.out.keep G
 have HX4 : Hid (∀ x, ∀ z, c8 c w4 vt3 vp3 x bud z → c8 c w vt vp x bud z) := fun x z R2 => HX3.out x z (c8.of (GB.non G) (fun _ _ k => k) R2)
 clear HC3 G HY3 HX3
 have HC4 := HI3.out _ _ _ _ _ HY4.out
 go_wp2_with fail
 refine HC4.mono ?_
 rintro e w5 ⟨rfl, G⟩
 have HY5 : Hid (RS c w5 i3 vt3 vp3 s1 bud) := HY4.out.keep G
 have HX5 : Hid (∀ x, ∀ z, c8 c w5 vt3 vp3 x bud z → c8 c w vt vp x bud z) := fun x z R2 => HX4.out x z (c8.of (GB.non G) (fun _ _ k => k) R2)
 clear HC4 G HY4 HX4
 have HC5 := HN.out _ _ _ _ HY5.out
 go_wp2_with fail
 refine HC5.mono ?_
 rintro e w6 ⟨rfl, i6, vt6, vp6, R, G, hf⟩
 have HY6 : Hid (RS c w6 i6 vt6 vp6 s2 (bud + 1)) := R
 have HX6 : Hid (∀ x, ∀ z, c8 c w6 vt6 vp6 x bud z → c8 c w vt vp x bud z) := fun x z R2 => HX5.out x z (c8.of G hf R2)
 clear HC5 G R hf HY5 HX5 HN
 have HC6 := HM.out _ _ _ _ HY6.out
 go_wp2_with fail
 refine HC6.mono ?_
 rintro e w7 ⟨rfl, i7, vt7, vp7, R, G, hf⟩
 have HY7 : Hid (RS c w7 i7 vt7 vp7 s3 (bud + 1)) := R
 have HX7 : Hid (∀ x, ∀ z, c8 c w7 vt7 vp7 x bud z → c8 c w vt vp x bud z) := fun x z R2 => HX6.out x z (c8.of G hf R2)
 clear HC6 G R hf HY6 HX6 HM
 have HC7 := HU.out _ _ _ _ HY7.out
 go_wp2_with fail
 refine HC7.mono ?_
 rintro e w8 ⟨rfl, i8, vt8, vp8, R, G, hf⟩
 have HY8 : Hid (RS c w8 i8 vt8 vp8 s4 (bud + 1)) := R
 have HX8 : Hid (∀ x, ∀ z, c8 c w8 vt8 vp8 x bud z → c8 c w vt vp x bud z) := fun x z R2 => HX7.out x z (c8.of G hf R2)
 clear HC7 G R hf HY7 HX7 HU
 have HC8 := HM2.out _ _ _ _ HY8.out
 go_wp2_with fail
 refine HC8.mono ?_
 rintro e w9 ⟨rfl, i9, vt9, vp9, R, G, hf⟩
 have HY9 : Hid (RS c w9 i9 vt9 vp9 s5 (bud + 1)) := R
 have HX9 : Hid (∀ x, ∀ z, c8 c w9 vt9 vp9 x bud z → c8 c w vt vp x bud z) := fun x z R2 => HX8.out x z (c8.of G hf R2)
 clear HC8 G R hf HY8 HX8 HM2
 have HC := HL.out _ _ _ _ HY9.out
 go_wp2_with fail
 refine HC.mono ?_
 rintro e w10 ⟨rfl, R2⟩
 have HR := HX9.out _ _ R2
 clear HC R2 HX9 HY9 HL
 go_wp2
 exact bodyPost_end (results_none rfl _ _ _) rfl ⟨rfl, HR⟩
theorem ab0 (h : RS c w i vt vp s bud) (at' : Nat) (b0 : s.is g9 = false) (b1 : s.is j5 = true) (b2 : s.next.is j1 = false) (b3 : s.next.is j4 = false) (b4 : s.next.is p9 = false) (b5 : s.next.is C9 = false) :
  d4 c 59 #[.pointer (some ⟨c.g, 0, none⟩), .int .i64 0, .int .i64 (at' : Int)] w vt vp (s.next.fail 111) bud := by
 have HX0 : Hid (∀ x, ∀ z, c8 c w vt vp x bud z → c8 c w vt vp x bud z) := fun x z R2 => R2
 have HY0 : Hid (RS c w i vt vp s bud) := h
 have HI0 := d6 (c := c) g9 false b0
 have HI1 := d6 (c := c) j5 true b1
 have HI2 := d6 (c := c) j1 false b2
 have HI3 := d6 (c := c) j4 false b3
 have HI4 := d6 (c := c) p9 false b4
 have HI5 := d6 (c := c) C9 false b5
 have HP : Hid (∀ (W : World) (i1 : Nat) (vt1 vp1 : Value), RS c W i1 vt1 vp1 s bud → d4 c 27 #[.pointer (some ⟨c.g, 0, none⟩)] W vt1 vp1 s.next bud) := fun W i1 vt1 vp1 H => (q8 H (fun _ => (k8 b1).2)).mono fun _ _ ⟨x, y⟩ => ⟨x, y.less (Nat.le_succ _)⟩
 have HL : Hid (∀ (W : World) (i1 : Nat) (vt1 vp1 : Value), RS c W i1 vt1 vp1 s.next bud → d4 c 14 #[.pointer (some ⟨c.g, 0, none⟩), .int .i64 111] W vt1 vp1 (s.next.fail 111) bud) := fun W i1 vt1 vp1 H => M2 H _ (by decide) (by decide)
 generalize s.next = s1 at *
 unfold d4 at *
 clear h b0 b1 b2 b3 b4 b5
 go_enter Tryz.func59, Tryz.ntmps59
 have HC0 := HI0.out _ _ _ _ _ HY0.out
 go_wp2_with fail
 refine HC0.mono ?_
 rintro e w1 ⟨rfl, G⟩
 have HY1 : Hid (RS c w1 i vt vp s bud) := HY0.out.keep G
 have HX1 : Hid (∀ x, ∀ z, c8 c w1 vt vp x bud z → c8 c w vt vp x bud z) := fun x z R2 => HX0.out x z (c8.of (GB.non G) (fun _ _ k => k) R2)
 clear HC0 G HY0 HX0
 have HC1 := HI1.out _ _ _ _ _ HY1.out
 go_wp2_with fail
 refine HC1.mono ?_
 rintro e w2 ⟨rfl, G⟩
 have HY2 : Hid (RS c w2 i vt vp s bud) := HY1.out.keep G
 have HX2 : Hid (∀ x, ∀ z, c8 c w2 vt vp x bud z → c8 c w vt vp x bud z) := fun x z R2 => HX1.out x z (c8.of (GB.non G) (fun _ _ k => k) R2)
 clear HC1 G HY1 HX1
 have HC2 := HP.out _ _ _ _ HY2.out
 go_wp2_with fail
 refine HC2.mono ?_
 rintro e w3 ⟨rfl, i3, vt3, vp3, R, G, hf⟩
 have HY3 : Hid (RS c w3 i3 vt3 vp3 s1 bud) := R
 have HX3 : Hid (∀ x, ∀ z, c8 c w3 vt3 vp3 x bud z → c8 c w vt vp x bud z) := fun x z R2 => HX2.out x z (c8.of G hf R2)
 clear HC2 G R hf HY2 HX2 HP
 have HC3 := HI2.out _ _ _ _ _ HY3.out
 go_wp2_with fail
 refine HC3.mono ?_
 rintro e w4 ⟨rfl, G⟩
 have HY4 : Hid (RS c w4 i3 vt3 vp3 s1 bud) := HY3.out.keep G
 have HX4 : Hid (∀ x, ∀ z, c8 c w4 vt3 vp3 x bud z → c8 c w vt vp x bud z) := fun x z R2 => HX3.out x z (c8.of (GB.non G) (fun _ _ k => k) R2)
 clear HC3 G HY3 HX3
 have HC4 := HI3.out _ _ _ _ _ HY4.out
 go_wp2_with fail
 refine HC4.mono ?_
 rintro e w5 ⟨rfl, G⟩
 have HY5 : Hid (RS c w5 i3 vt3 vp3 s1 bud) := HY4.out.keep G
 have HX5 : Hid (∀ x, ∀ z, c8 c w5 vt3 vp3 x bud z → c8 c w vt vp x bud z) := fun x z R2 => HX4.out x z (c8.of (GB.non G) (fun _ _ k => k) R2)
 clear HC4 G HY4 HX4
 have HC5 := HI4.out _ _ _ _ _ HY5.out
 go_wp2_with fail
 refine HC5.mono ?_
 rintro e w6 ⟨rfl, G⟩
 have HY6 : Hid (RS c w6 i3 vt3 vp3 s1 bud) := HY5.out.keep G
 have HX6 : Hid (∀ x, ∀ z, c8 c w6 vt3 vp3 x bud z → c8 c w vt vp x bud z) := fun x z R2 => HX5.out x z (c8.of (GB.non G) (fun _ _ k => k) R2)
 clear HC5 G HY5 HX5
 have HC6 := HI5.out _ _ _ _ _ HY6.out
 go_wp2_with fail
 refine HC6.mono ?_
 rintro e w7 ⟨rfl, G⟩
 have HY7 : Hid (RS c w7 i3 vt3 vp3 s1 bud) := HY6.out.keep G
 have HX7 : Hid (∀ x, ∀ z, c8 c w7 vt3 vp3 x bud z → c8 c w vt vp x bud z) := fun x z R2 => HX6.out x z (c8.of (GB.non G) (fun _ _ k => k) R2)
 clear HC6 G HY6 HX6
 have HC := HL.out _ _ _ _ HY7.out
 go_wp2_with fail
 refine HC.mono ?_
 rintro e w8 ⟨rfl, R2⟩
 have HR := HX7.out _ _ R2
 clear HC R2 HX7 HY7 HL
 go_wp2
 exact bodyPost_end (results_none rfl _ _ _) rfl ⟨rfl, HR⟩
theorem aa9 (h : RS c w i vt vp s bud) (of at' : Nat) (ho : of ≠ 0) (b0 : s.is g9 = false) (b1 : s.is j5 = true) (b2 : s.next.is j1 = false) (b3 : s.next.is j4 = false) :
  d4 c 59 #[.pointer (some ⟨c.g, 0, none⟩), .int .i64 (of : Int), .int .i64 (at' : Int)] w vt vp (s.next.fail 111) bud := by
 have HX0 : Hid (∀ x, ∀ z, c8 c w vt vp x bud z → c8 c w vt vp x bud z) := fun x z R2 => R2
 have HY0 : Hid (RS c w i vt vp s bud) := h
 have HI0 := d6 (c := c) g9 false b0
 have HI1 := d6 (c := c) j5 true b1
 have HI2 := d6 (c := c) j1 false b2
 have HI3 := d6 (c := c) j4 false b3
 have HP : Hid (∀ (W : World) (i1 : Nat) (vt1 vp1 : Value), RS c W i1 vt1 vp1 s bud → d4 c 27 #[.pointer (some ⟨c.g, 0, none⟩)] W vt1 vp1 s.next bud) := fun W i1 vt1 vp1 H => (q8 H (fun _ => (k8 b1).2)).mono fun _ _ ⟨x, y⟩ => ⟨x, y.less (Nat.le_succ _)⟩
 have HL : Hid (∀ (W : World) (i1 : Nat) (vt1 vp1 : Value), RS c W i1 vt1 vp1 s.next bud → d4 c 14 #[.pointer (some ⟨c.g, 0, none⟩), .int .i64 111] W vt1 vp1 (s.next.fail 111) bud) := fun W i1 vt1 vp1 H => M2 H _ (by decide) (by decide)
 have e0 : ((of : Int) == 0) = false := by simp only [beq_eq_false_iff_ne]; omega
 generalize s.next = s1 at *
 unfold d4 at *
 clear h b0 b1 b2 b3 ho
 go_enter Tryz.func59, Tryz.ntmps59
 have HC0 := HI0.out _ _ _ _ _ HY0.out
 go_wp2_with fail
 refine HC0.mono ?_
 rintro e w1 ⟨rfl, G⟩
 have HY1 : Hid (RS c w1 i vt vp s bud) := HY0.out.keep G
 have HX1 : Hid (∀ x, ∀ z, c8 c w1 vt vp x bud z → c8 c w vt vp x bud z) := fun x z R2 => HX0.out x z (c8.of (GB.non G) (fun _ _ k => k) R2)
 clear HC0 G HY0 HX0
 have HC1 := HI1.out _ _ _ _ _ HY1.out
 go_wp2_with fail
 refine HC1.mono ?_
 rintro e w2 ⟨rfl, G⟩
 have HY2 : Hid (RS c w2 i vt vp s bud) := HY1.out.keep G
 have HX2 : Hid (∀ x, ∀ z, c8 c w2 vt vp x bud z → c8 c w vt vp x bud z) := fun x z R2 => HX1.out x z (c8.of (GB.non G) (fun _ _ k => k) R2)
 clear HC1 G HY1 HX1
 have HC2 := HP.out _ _ _ _ HY2.out
 go_wp2_with fail
 refine HC2.mono ?_
 rintro e w3 ⟨rfl, i3, vt3, vp3, R, G, hf⟩
 have HY3 : Hid (RS c w3 i3 vt3 vp3 s1 bud) := R
 have HX3 : Hid (∀ x, ∀ z, c8 c w3 vt3 vp3 x bud z → c8 c w vt vp x bud z) := fun x z R2 => HX2.out x z (c8.of G hf R2)
 clear HC2 G R hf HY2 HX2 HP
 have HC3 := HI2.out _ _ _ _ _ HY3.out
 go_wp2_with fail
 refine HC3.mono ?_
 rintro e w4 ⟨rfl, G⟩
 have HY4 : Hid (RS c w4 i3 vt3 vp3 s1 bud) := HY3.out.keep G
 have HX4 : Hid (∀ x, ∀ z, c8 c w4 vt3 vp3 x bud z → c8 c w vt vp x bud z) := fun x z R2 => HX3.out x z (c8.of (GB.non G) (fun _ _ k => k) R2)
 clear HC3 G HY3 HX3
 have HC4 := HI3.out _ _ _ _ _ HY4.out
 go_wp2_with fail
 refine HC4.mono ?_
 rintro e w5 ⟨rfl, G⟩
 have HY5 : Hid (RS c w5 i3 vt3 vp3 s1 bud) := HY4.out.keep G
 have HX5 : Hid (∀ x, ∀ z, c8 c w5 vt3 vp3 x bud z → c8 c w vt vp x bud z) := fun x z R2 => HX4.out x z (c8.of (GB.non G) (fun _ _ k => k) R2)
 clear HC4 G HY4 HX4
 have HC := HL.out _ _ _ _ HY5.out
 go_wp2_with fail
 refine HC.mono ?_
 rintro e w6 ⟨rfl, R2⟩
 have HR := HX5.out _ _ R2
 clear HC R2 HX5 HY5 HL
 go_wp2
 exact bodyPost_end (results_none rfl _ _ _) rfl ⟨rfl, HR⟩

end

end Go.Proofs.YtlfmddjppejmaaaGreatDoor
