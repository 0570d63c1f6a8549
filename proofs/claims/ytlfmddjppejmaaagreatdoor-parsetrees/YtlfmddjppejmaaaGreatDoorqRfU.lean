import Derived.Test.YtlfmddjppejmaaaGreatDoorqRfN
import Derived.Test.YtlfmddjppejmaaaGreatDoorqRfT
import Derived.Test.YtlfmddjppejmaaaGreatDoorqLotQ21
set_option maxHeartbeats 64000000
set_option maxRecDepth 100000
namespace Go.Proofs.YtlfmddjppejmaaaGreatDoor
open Go.RowKit
structure SV (c : PC) (w : World) (vt vp : Value) (W : World) (i' : Nat) (v u : Value) (s' : Rt) (bud' B : Nat) (X : Array Value) : Prop where
 rs : RS c W i' v u s' bud'
 gb : GB w W (d3 c.g vt vp)
 sh : ∀ x, x < w.heap.size → d3 c.g v u x → d3 c.g vt vp x
 var : VAt W B 54 X
 fB : ¬ d3 c.g v u B
 lB : w.heap.size ≤ B
 tB : ¬ c.tv.ownBlock = some B
 cB : c.w0.heap.size ≤ B

section
variable {c : PC} {w : World} {i bud : Nat} {vt vp : Value} {s : Rt}
theorem SV.new (h : RS c w i vt vp s bud) (X : Array Value) : SV c w vt vp (w.alloc (.cells X 54)) i vt vp s bud w.heap.size X :=
 ⟨h.keep (World.grownBy_alloc w _ none), GB.non (World.grownBy_alloc w _ none), fun _ _ k => k, VAt.alloc w _ X, fun hf => by have := h.mem.lt hf; omega, Nat.le_refl _, fun e => by have := (h.mem.toks.lt _ e).2; omega, h.mem.grown.size⟩
theorem SV.step {W W2 : World} {i1 b1 b2 B : Nat} {v u : Value} {s1 s2 : Rt} {X : Array Value} (h : SV c w vt vp W i1 v u s1 b1 B X) (r : c8 c W v u s2 b2 W2) : ∃ i2 v2 u2, SV c w vt vp W2 i2 v2 u2 s2 b2 B X := by
 obtain ⟨i2, v2, u2, H, G, f⟩ := r
 exact ⟨i2, v2, u2, H, h.gb.trans G h.sh, fun x hx k => h.sh x hx (f x (Nat.lt_of_lt_of_le hx h.gb.size) k), G.vat h.var h.fB, fun hf => h.fB (f B h.var.lt hf), h.lB, h.tB, h.cB⟩
theorem SV.set {W : World} {i1 b1 B : Nat} {v u : Value} {s1 : Rt} {X : Array Value} (h : SV c w vt vp W i1 v u s1 b1 B X) (j : Nat) (val : Value) (X2 : Array Value) (e : X.setIfInBounds j val = X2) : SV c w vt vp (W.setCell ⟨B, j, none⟩ val) i1 v u s1 b1 B X2 :=
 { h with
  rs := h.rs.awayG (S := fun z => z = B) (GB.of (D3 W B j val) (fun z hz => by cases hz; rfl)) (fun z hz => by cases hz; exact ⟨h.fB, h.tB, h.cB⟩)
  gb := h.gb.trans (GB.of (S := fun z => z = B) (D3 W B j val) (fun z hz => by cases hz; rfl)) (fun z hz e => by have := h.lB; omega)
  var := by have := h.var.set j val; rw [e] at this; exact this }
theorem SV.out {W z : World} {i1 b1 B b : Nat} {v u : Value} {s1 x : Rt} {X : Array Value} (h : SV c w vt vp W i1 v u s1 b1 B X) (r : c8 c W v u x b z) : c8 c w vt vp x b z := c8.of h.gb h.sh r
theorem a2m (s : Rt) (e : Int) : (s.fail e).er ≠ none := by
 unfold Rt.fail
 split
 ·simp
 ·assumption
theorem a5N {k : Nat} {q : Rt} (h : j6 k q.now = none) : q.address.er ≠ none := by
 have h0 : (j6 0 q.now).isSome = false := by
  have : (j6 0 q.now).isSome = (j6 k q.now).isSome := by
   unfold j6
   split
   ·simp
   ·split
    ·simp
    ·rfl
  rw [this, h]
  rfl
 unfold Rt.address
 rw [if_neg (by rw [h0]; simp)]
 split
 ·exact a2m _ _
 ·exact a2m _ _
theorem a0D {k : Nat} {q s' : Rt} {x : Nd} (hx : ∀ y, j6 k q.now = some y → x = y) (f : Nd → Nd) (hs : q.address.er ≠ none → s'.er ≠ none) (p : Nat) : s'.lay (f x) p = s'.lay (f ((j6 k q.now).getD nd0)) p := by
 cases hh : j6 k q.now with
 | some y => rw [hx y hh]; rfl
 | none =>
  have := hs (a5N hh)
  unfold Rt.lay
  rw [if_neg this, if_neg this]
theorem a33 (h : RS c w i vt vp s bud) : s.num ≤ 4294967295 := by
 unfold Rt.num
 split
 ·cases he : s.er with
  | none => rw [E9 he]; exact h.good.hd.2.2.2.1
  | some x => rw [a1p he]; exact Nat.zero_le _
 ·exact Nat.zero_le _
theorem ab7 (h : RS c w i vt vp s bud) (at' : Nat) (b0 : s.is g9 = false) (b1 : s.is j5 = false) (b2 : s.is j1 = false) (b3 : s.is j4 = false) (b4 : s.is p9 = true) :
  d4 c 59 #[.pointer (some ⟨c.g, 0, none⟩), .int .i64 0, .int .i64 (at' : Int)] w vt vp (s.next.address.lay ({ ((j6 14 s.next.now).getD nd0) with side := 0 } : Nd) at') bud := by
 have HX0 : Hid (∀ x, ∀ z, c8 c w vt vp x bud z → c8 c w vt vp x bud z) := fun x z R2 => R2
 have HY0 : Hid (RS c w i vt vp s bud) := h
 have HI0 := d6 (c := c) g9 false b0
 have HI1 := d6 (c := c) j5 false b1
 have HI2 := d6 (c := c) j1 false b2
 have HI3 := d6 (c := c) j4 false b3
 have HI4 := d6 (c := c) p9 true b4
 have HN : Hid (∀ (W : World) (i1 : Nat) (vt1 vp1 : Value), RS c W i1 vt1 vp1 s bud → d4 c 27 #[.pointer (some ⟨c.g, 0, none⟩)] W vt1 vp1 s.next (bud + 1)) := fun W i1 vt1 vp1 H => q8 H (fun _ => (k8 b4).2)
 have HA : Hid (∀ (W : World) (i1 : Nat) (vt1 vp1 : Value), RS c W i1 vt1 vp1 s.next (bud + 1) → Calls Tryz.prog 70 #[.pointer (some ⟨c.g, 0, none⟩), .int .i64 14] W fun e w' => ∃ x : Nd, e = .returned (.agg x.cells.toArray) ∧ c8 c W vt1 vp1 s.next.address (bud + 1) w' ∧ ∀ y, j6 14 s.next.now = some y → x = y) := fun W i1 vt1 vp1 H => a0T H 14
 have HL : Hid (∀ (W : World) (i1 : Nat) (vt1 vp1 : Value) (x : Nd), RS c W i1 vt1 vp1 s.next.address (bud + 1) → (∀ y, j6 14 s.next.now = some y → x = y) → d4 c 23 #[.pointer (some ⟨c.g, 0, none⟩), .agg ({ x with side := 0 } : Nd).cells.toArray, .int .i64 (at' : Int)] W vt1 vp1 (s.next.address.lay ({ ((j6 14 s.next.now).getD nd0) with side := 0 } : Nd) at') bud) := fun W i1 vt1 vp1 x H hx => by
  have he : (s.next.address).lay ({ x with side := 0 } : Nd) at' = (s.next.address.lay ({ ((j6 14 s.next.now).getD nd0) with side := 0 } : Nd) at') := a0D hx (fun x => { x with side := 0 }) (fun e => e) at'
  rw [← he]
  exact B9 H ({ x with side := 0 } : Nd) at'
 generalize (s.next.address.lay ({ ((j6 14 s.next.now).getD nd0) with side := 0 } : Nd) at') = ans at *
 generalize j6 14 s.next.now = oa at *
 generalize s.next.address = s3 at *
 generalize s.next = s2 at *
 unfold d4 at *
 clear h b0 b1 b2 b3 b4
 go_enter Tryz.func59, Tryz.ntmps59
 have HC0 := HI0.out _ _ _ _ _ HY0.out
 go_wp2_with fail
 refine HC0.mono ?_
 rintro e w1 ⟨rfl, G⟩
 have HY1 : Hid (RS c w1 i vt vp s bud) := HY0.out.keep G
 have HX1 : Hid (∀ x, ∀ z, c8 c w1 vt vp x bud z → c8 c w vt vp x bud z) := fun x z R2 => HX0.out x z (c8.of (GB.non G) (fun _ _ k => k) R2)
 clear HC0 G HY0 HX0
 have HC1 := HI1.out _ _ _ _ _ HY1.out
 go_wp2_with fail
 refine HC1.mono ?_
 rintro e w2 ⟨rfl, G⟩
 have HY2 : Hid (RS c w2 i vt vp s bud) := HY1.out.keep G
 have HX2 : Hid (∀ x, ∀ z, c8 c w2 vt vp x bud z → c8 c w vt vp x bud z) := fun x z R2 => HX1.out x z (c8.of (GB.non G) (fun _ _ k => k) R2)
 clear HC1 G HY1 HX1
 have HC2 := HI2.out _ _ _ _ _ HY2.out
 go_wp2_with fail
 refine HC2.mono ?_
 rintro e w3 ⟨rfl, G⟩
 have HY3 : Hid (RS c w3 i vt vp s bud) := HY2.out.keep G
 have HX3 : Hid (∀ x, ∀ z, c8 c w3 vt vp x bud z → c8 c w vt vp x bud z) := fun x z R2 => HX2.out x z (c8.of (GB.non G) (fun _ _ k => k) R2)
 clear HC2 G HY2 HX2
 have HC3 := HI3.out _ _ _ _ _ HY3.out
 go_wp2_with fail
 refine HC3.mono ?_
 rintro e w4 ⟨rfl, G⟩
 have HY4 : Hid (RS c w4 i vt vp s bud) := HY3.out.keep G
 have HX4 : Hid (∀ x, ∀ z, c8 c w4 vt vp x bud z → c8 c w vt vp x bud z) := fun x z R2 => HX3.out x z (c8.of (GB.non G) (fun _ _ k => k) R2)
 clear HC3 G HY3 HX3
 have HC4 := HI4.out _ _ _ _ _ HY4.out
 go_wp2_with fail
 refine HC4.mono ?_
 rintro e w5 ⟨rfl, G⟩
 have HY5 : Hid (RS c w5 i vt vp s bud) := HY4.out.keep G
 have HX5 : Hid (∀ x, ∀ z, c8 c w5 vt vp x bud z → c8 c w vt vp x bud z) := fun x z R2 => HX4.out x z (c8.of (GB.non G) (fun _ _ k => k) R2)
 clear HC4 G HY4 HX4
 have HC5 := HN.out _ _ _ _ HY5.out
 go_wp2_with fail
 refine HC5.mono ?_
 rintro e w6 ⟨rfl, i6, vt6, vp6, R, G, hf⟩
 have HY6 : Hid (RS c w6 i6 vt6 vp6 s2 (bud + 1)) := R
 have HX6 : Hid (∀ x, ∀ z, c8 c w6 vt6 vp6 x bud z → c8 c w vt vp x bud z) := fun x z R2 => HX5.out x z (c8.of G hf R2)
 clear HC5 G R hf HY5 HX5 HN
 have HC6 := HA.out _ _ _ _ HY6.out
 go_wp2_with fail
 refine HC6.mono ?_
 rintro e w7 ⟨x, rfl, ⟨i7, vt7, vp7, R, G, hf⟩, hx⟩
 have HXn : Hid (∀ x, ∀ z, c8 c w7 vt7 vp7 x bud z → c8 c w vt vp x bud z) := fun x z R2 => HX6.out x z (c8.of G hf R2)
 have HXA : Hid (∀ y, oa = some y → x = y) := hx
 obtain ⟨X, hX⟩ : ∃ X, x.cells.toArray = X := ⟨_, rfl⟩
 have HXE : Hid (x.cells.toArray = X) := hX
 have HZ : Hid ((Tryz.prog.info? 54).map (·.size) = some X.size ∧ 24 = X.size ∧ X.all (·.oneCell') = true) := by rw [← hX]; exact ⟨g8 _, rfl, j3 _⟩
 have HS0 : Hid (SV c w7 vt7 vp7 (w7.alloc (.cells X 54)) i7 vt7 vp7 s3 (bud + 1) w7.heap.size X) := SV.new R X
 rw [hX]
 clear HC6 G R hf HY6 HX6 HA hx hX
 go_upto_region 21 with (refine wpList_store_row rfl 54 (.tmp 10) (.tmp 66) rfl w7.heap.size X rfl rfl 54 _ (heap_alloc_new w7 _) HZ.out.1 HZ.out.2.1 HZ.out.2.2 ?_)
 rw [World.setRow_alloc_new]
 generalize w7.alloc (.cells X 54) = wa at *
 generalize w7.heap.size = B at *
 have c6 : wa.cell? ⟨B, 6, none⟩ = some (.int .i64 (x.side : Int)) := by have := HS0.out.var.cell 6; rw [← HXE.out] at this; exact this
 have f6 := HS0.out.var.free 6
 have HS4 : Hid (SV c w7 vt7 vp7 (wa.setCell ⟨B, 6, none⟩ (.int .i64 0)) i7 vt7 vp7 s3 (bud + 1) B ({ x with side := 0 } : Nd).cells.toArray) := HS0.out.set 6 _ _ (by rw [← HXE.out]; rfl)
 clear HS0
 go_upto_region 22 with fail
 generalize wa.setCell ⟨B, 6, none⟩ (.int .i64 0) = wb at *
 clear c6 f6
 have HC := HL.out _ _ _ _ x HS4.out.rs HXA.out
 obtain ⟨X2, hX2⟩ : ∃ X2, ({ x with side := 0 } : Nd).cells.toArray = X2 := ⟨_, rfl⟩
 have HZ2 : Hid ((Tryz.prog.info? 54).map (·.size) = some X2.size) := by rw [← hX2]; exact g8 _
 rw [hX2] at HC HS4
 have VY := HS4.out.var
 clear HXA HXE HZ hX2 HL
 go_wp2_with (refine wpList_load_row rfl 54 (.tmp 10) rfl B rfl 54 X2 (0, 0) _ VY Tryz.underlying54 rfl HZ2.out ?_)
 refine HC.mono ?_
 rintro e wz ⟨rfl, R2⟩
 have HR := HXn.out _ _ (HS4.out.out R2)
 clear HC R2 HXn HS4 VY
 go_wp2
 exact bodyPost_end (results_none rfl _ _ _) rfl ⟨rfl, HR⟩
 
theorem ab8 (h : RS c w i vt vp s bud) (at' : Nat) (b0 : s.is g9 = false) (b1 : s.is j5 = false) (b2 : s.is j1 = false) (b3 : s.is j4 = false) (b4 : s.is p9 = false) (b5 : s.is C9 = true) :
  d4 c 59 #[.pointer (some ⟨c.g, 0, none⟩), .int .i64 0, .int .i64 (at' : Int)] w vt vp ((s.next.address.must [47]).number.lay ({ ((j6 15 s.next.now).getD nd0) with bits := (s.next.address.must [47]).num, side := 0 } : Nd) at') bud := by
 have HX0 : Hid (∀ x, ∀ z, c8 c w vt vp x bud z → c8 c w vt vp x bud z) := fun x z R2 => R2
 have HY0 : Hid (RS c w i vt vp s bud) := h
 have HI0 := d6 (c := c) g9 false b0
 have HI1 := d6 (c := c) j5 false b1
 have HI2 := d6 (c := c) j1 false b2
 have HI3 := d6 (c := c) j4 false b3
 have HI4 := d6 (c := c) p9 false b4
 have HI5 := d6 (c := c) C9 true b5
 have HN : Hid (∀ (W : World) (i1 : Nat) (vt1 vp1 : Value), RS c W i1 vt1 vp1 s bud → d4 c 27 #[.pointer (some ⟨c.g, 0, none⟩)] W vt1 vp1 s.next (bud + 1)) := fun W i1 vt1 vp1 H => q8 H (fun _ => (k8 b5).2)
 have HA : Hid (∀ (W : World) (i1 : Nat) (vt1 vp1 : Value), RS c W i1 vt1 vp1 s.next (bud + 1) → Calls Tryz.prog 70 #[.pointer (some ⟨c.g, 0, none⟩), .int .i64 15] W fun e w' => ∃ x : Nd, e = .returned (.agg x.cells.toArray) ∧ c8 c W vt1 vp1 s.next.address (bud + 1) w' ∧ ∀ y, j6 15 s.next.now = some y → x = y) := fun W i1 vt1 vp1 H => a0T H 15
 have HU : Hid (∀ (W : World) (i1 : Nat) (vt1 vp1 : Value), RS c W i1 vt1 vp1 s.next.address (bud + 1) → d4 c 42 #[.pointer (some ⟨c.g, 0, none⟩), str [47]] W vt1 vp1 (s.next.address.must [47]) (bud + 1)) := fun W i1 vt1 vp1 H => Z8 H [47]
 have HM : Hid (∀ (W : World) (i1 : Nat) (vt1 vp1 : Value), RS c W i1 vt1 vp1 (s.next.address.must [47]) (bud + 1) → Calls Tryz.prog 58 #[.pointer (some ⟨c.g, 0, none⟩)] W fun e w' => e = .returned (.int .u32 ((s.next.address.must [47]).num : Int)) ∧ c8 c W vt1 vp1 (s.next.address.must [47]).number (bud + 1) w') := fun W i1 vt1 vp1 H => N0 H
 have HML : Hid (∀ (W : World) (i1 : Nat) (vt1 vp1 : Value), RS c W i1 vt1 vp1 (s.next.address.must [47]) (bud + 1) → (s.next.address.must [47]).num ≤ 4294967295) := fun W i1 vt1 vp1 H => a33 H
 have HL : Hid (∀ (W : World) (i1 : Nat) (vt1 vp1 : Value) (x : Nd), RS c W i1 vt1 vp1 (s.next.address.must [47]).number (bud + 1) → (∀ y, j6 15 s.next.now = some y → x = y) → d4 c 23 #[.pointer (some ⟨c.g, 0, none⟩), .agg ({ x with bits := (s.next.address.must [47]).num, side := 0 } : Nd).cells.toArray, .int .i64 (at' : Int)] W vt1 vp1 ((s.next.address.must [47]).number.lay ({ ((j6 15 s.next.now).getD nd0) with bits := (s.next.address.must [47]).num, side := 0 } : Nd) at') bud) := fun W i1 vt1 vp1 x H hx => by
  have he : ((s.next.address.must [47]).number).lay ({ x with bits := (s.next.address.must [47]).num, side := 0 } : Nd) at' = ((s.next.address.must [47]).number.lay ({ ((j6 15 s.next.now).getD nd0) with bits := (s.next.address.must [47]).num, side := 0 } : Nd) at') := a0D hx (fun x => { x with bits := (s.next.address.must [47]).num, side := 0 }) (fun e => by have h1 := (Rk.must s.next.address [47]).stay e; rw [h1]; have h2 := (Rk.number s.next.address).stay e; rw [h2]; exact e) at'
  rw [← he]
  exact B9 H ({ x with bits := (s.next.address.must [47]).num, side := 0 } : Nd) at'
 generalize ((s.next.address.must [47]).number.lay ({ ((j6 15 s.next.now).getD nd0) with bits := (s.next.address.must [47]).num, side := 0 } : Nd) at') = ans at *
 generalize j6 15 s.next.now = oa at *
 generalize (s.next.address.must [47]).num = m at *
 generalize (s.next.address.must [47]).number = s5 at *
 generalize s.next.address.must [47] = s4 at *
 generalize s.next.address = s3 at *
 generalize s.next = s2 at *
 unfold d4 at *
 clear h b0 b1 b2 b3 b4 b5
 go_enter Tryz.func59, Tryz.ntmps59
 have HC0 := HI0.out _ _ _ _ _ HY0.out
 go_wp2_with fail
 refine HC0.mono ?_
 rintro e w1 ⟨rfl, G⟩
 have HY1 : Hid (RS c w1 i vt vp s bud) := HY0.out.keep G
 have HX1 : Hid (∀ x, ∀ z, c8 c w1 vt vp x bud z → c8 c w vt vp x bud z) := fun x z R2 => HX0.out x z (c8.of (GB.non G) (fun _ _ k => k) R2)
 clear HC0 G HY0 HX0
 have HC1 := HI1.out _ _ _ _ _ HY1.out
 go_wp2_with fail
 refine HC1.mono ?_
 rintro e w2 ⟨rfl, G⟩
 have HY2 : Hid (RS c w2 i vt vp s bud) := HY1.out.keep G
 have HX2 : Hid (∀ x, ∀ z, c8 c w2 vt vp x bud z → c8 c w vt vp x bud z) := fun x z R2 => HX1.out x z (c8.of (GB.non G) (fun _ _ k => k) R2)
 clear HC1 G HY1 HX1
 have HC2 := HI2.out _ _ _ _ _ HY2.out
 go_wp2_with fail
 refine HC2.mono ?_
 rintro e w3 ⟨rfl, G⟩
 have HY3 : Hid (RS c w3 i vt vp s bud) := HY2.out.keep G
 have HX3 : Hid (∀ x, ∀ z, c8 c w3 vt vp x bud z → c8 c w vt vp x bud z) := fun x z R2 => HX2.out x z (c8.of (GB.non G) (fun _ _ k => k) R2)
 clear HC2 G HY2 HX2
 have HC3 := HI3.out _ _ _ _ _ HY3.out
 go_wp2_with fail
 refine HC3.mono ?_
 rintro e w4 ⟨rfl, G⟩
 have HY4 : Hid (RS c w4 i vt vp s bud) := HY3.out.keep G
 have HX4 : Hid (∀ x, ∀ z, c8 c w4 vt vp x bud z → c8 c w vt vp x bud z) := fun x z R2 => HX3.out x z (c8.of (GB.non G) (fun _ _ k => k) R2)
 clear HC3 G HY3 HX3
 have HC4 := HI4.out _ _ _ _ _ HY4.out
 go_wp2_with fail
 refine HC4.mono ?_
 rintro e w5 ⟨rfl, G⟩
 have HY5 : Hid (RS c w5 i vt vp s bud) := HY4.out.keep G
 have HX5 : Hid (∀ x, ∀ z, c8 c w5 vt vp x bud z → c8 c w vt vp x bud z) := fun x z R2 => HX4.out x z (c8.of (GB.non G) (fun _ _ k => k) R2)
 clear HC4 G HY4 HX4
 have HC5 := HI5.out _ _ _ _ _ HY5.out
 go_wp2_with fail
 refine HC5.mono ?_
 rintro e w6 ⟨rfl, G⟩
 have HY6 : Hid (RS c w6 i vt vp s bud) := HY5.out.keep G
 have HX6 : Hid (∀ x, ∀ z, c8 c w6 vt vp x bud z → c8 c w vt vp x bud z) := fun x z R2 => HX5.out x z (c8.of (GB.non G) (fun _ _ k => k) R2)
 clear HC5 G HY5 HX5
 have HC6 := HN.out _ _ _ _ HY6.out
 go_wp2_with fail
 refine HC6.mono ?_
 rintro e w7 ⟨rfl, i7, vt7, vp7, R, G, hf⟩
 have HY7 : Hid (RS c w7 i7 vt7 vp7 s2 (bud + 1)) := R
 have HX7 : Hid (∀ x, ∀ z, c8 c w7 vt7 vp7 x bud z → c8 c w vt vp x bud z) := fun x z R2 => HX6.out x z (c8.of G hf R2)
 clear HC6 G R hf HY6 HX6 HN
 have HC7 := HA.out _ _ _ _ HY7.out
 go_wp2_with fail
 refine HC7.mono ?_
 rintro e w8 ⟨x, rfl, ⟨i8, vt8, vp8, R, G, hf⟩, hx⟩
 have HXn : Hid (∀ x, ∀ z, c8 c w8 vt8 vp8 x bud z → c8 c w vt vp x bud z) := fun x z R2 => HX7.out x z (c8.of G hf R2)
 have HXA : Hid (∀ y, oa = some y → x = y) := hx
 obtain ⟨X, hX⟩ : ∃ X, x.cells.toArray = X := ⟨_, rfl⟩
 have HXE : Hid (x.cells.toArray = X) := hX
 have HZ : Hid ((Tryz.prog.info? 54).map (·.size) = some X.size ∧ 24 = X.size ∧ X.all (·.oneCell') = true) := by rw [← hX]; exact ⟨g8 _, rfl, j3 _⟩
 have HS0 : Hid (SV c w8 vt8 vp8 (w8.alloc (.cells X 54)) i8 vt8 vp8 s3 (bud + 1) w8.heap.size X) := SV.new R X
 rw [hX]
 clear HC7 G R hf HY7 HX7 HA hx hX
 go_upto_region 26 with (refine wpList_store_row rfl 54 (.tmp 11) (.tmp 83) rfl w8.heap.size X rfl rfl 54 _ (heap_alloc_new w8 _) HZ.out.1 HZ.out.2.1 HZ.out.2.2 ?_)
 rw [World.setRow_alloc_new]
 generalize w8.alloc (.cells X 54) = wa at *
 generalize w8.heap.size = B at *
 have HCu := HU.out _ _ _ _ HS0.out.rs
 go_wp2_with fail
 refine HCu.mono ?_
 rintro e wm ⟨rfl, R⟩
 obtain ⟨im, vm, um, HSM⟩ := HS0.out.step R
 have HS1 : Hid (SV c w8 vt8 vp8 wm im vm um s4 (bud + 1) B X) := HSM
 have HCn := HM.out _ _ _ _ HS1.out.rs
 have hml := HML.out _ _ _ _ HS1.out.rs
 clear HCu HU R HSM HS0 HM HML
 go_wp2_with fail
 refine HCn.mono ?_
 rintro e wn ⟨rfl, R⟩
 obtain ⟨jn, vn, un, HSM⟩ := HS1.out.step R
 have HS2 : Hid (SV c w8 vt8 vp8 wn jn vn un s5 (bud + 1) B X) := HSM
 have hw : IntKind.i64.wrap (m : Int) = (m : Int) := by rw [IntKind.wrap_i64]; omega
 have c23 : wn.cell? ⟨B, 23, none⟩ = some (.int .i64 (x.bits : Int)) := by have := HS2.out.var.cell 23; rw [← HXE.out] at this; exact this
 have f23 := HS2.out.var.free 23
 have HS3 : Hid (SV c w8 vt8 vp8 (wn.setCell ⟨B, 23, none⟩ (.int .i64 (m : Int))) jn vn un s5 (bud + 1) B ({ x with bits := m } : Nd).cells.toArray) := HS2.out.set 23 _ _ (by rw [← HXE.out]; rfl)
 clear HCn R HSM HS1 HS2 hml
 go_upto_region 28 with fail
 generalize wn.setCell ⟨B, 23, none⟩ (.int .i64 (m : Int)) = wo at *
 clear c23 f23 hw
 have c6 : wo.cell? ⟨B, 6, none⟩ = some (.int .i64 (x.side : Int)) := HS3.out.var.cell 6
 have f6 := HS3.out.var.free 6
 have HS4 : Hid (SV c w8 vt8 vp8 (wo.setCell ⟨B, 6, none⟩ (.int .i64 0)) jn vn un s5 (bud + 1) B ({ x with bits := m, side := 0 } : Nd).cells.toArray) := HS3.out.set 6 _ _ rfl
 clear HS3
 go_upto_region 29 with fail
 generalize wo.setCell ⟨B, 6, none⟩ (.int .i64 0) = wb at *
 clear c6 f6
 have HC := HL.out _ _ _ _ x HS4.out.rs HXA.out
 obtain ⟨X2, hX2⟩ : ∃ X2, ({ x with bits := m, side := 0 } : Nd).cells.toArray = X2 := ⟨_, rfl⟩
 have HZ2 : Hid ((Tryz.prog.info? 54).map (·.size) = some X2.size) := by rw [← hX2]; exact g8 _
 rw [hX2] at HC HS4
 have VY := HS4.out.var
 clear HXA HXE HZ hX2 HL
 go_wp2_with (refine wpList_load_row rfl 54 (.tmp 11) rfl B rfl 54 X2 (0, 0) _ VY Tryz.underlying54 rfl HZ2.out ?_)
 refine HC.mono ?_
 rintro e wz ⟨rfl, R2⟩
 have HR := HXn.out _ _ (HS4.out.out R2)
 clear HC R2 HXn HS4 VY
 go_wp2
 exact bodyPost_end (results_none rfl _ _ _) rfl ⟨rfl, HR⟩
 
theorem ac3 (h : RS c w i vt vp s bud) (at' : Nat) (b0 : s.is g9 = true) (b1 : s.next.is j1 = false) (b2 : s.next.is j4 = false) (b3 : s.next.is p9 = true) :
  d4 c 59 #[.pointer (some ⟨c.g, 0, none⟩), .int .i64 0, .int .i64 (at' : Int)] w vt vp (s.next.next.address.lay ({ ((j6 14 s.next.next.now).getD nd0) with side := 1 } : Nd) at') bud := by
 have HX0 : Hid (∀ x, ∀ z, c8 c w vt vp x bud z → c8 c w vt vp x bud z) := fun x z R2 => R2
 have HY0 : Hid (RS c w i vt vp s bud) := h
 have HI0 := d6 (c := c) g9 true b0
 have HI1 := d6 (c := c) j1 false b1
 have HI2 := d6 (c := c) j4 false b2
 have HI3 := d6 (c := c) p9 true b3
 have HP : Hid (∀ (W : World) (i1 : Nat) (vt1 vp1 : Value), RS c W i1 vt1 vp1 s bud → d4 c 27 #[.pointer (some ⟨c.g, 0, none⟩)] W vt1 vp1 s.next bud) := fun W i1 vt1 vp1 H => (q8 H (fun _ => (k8 b0).2)).mono fun _ _ ⟨x, y⟩ => ⟨x, y.less (Nat.le_succ _)⟩
 have HN : Hid (∀ (W : World) (i1 : Nat) (vt1 vp1 : Value), RS c W i1 vt1 vp1 s.next bud → d4 c 27 #[.pointer (some ⟨c.g, 0, none⟩)] W vt1 vp1 s.next.next (bud + 1)) := fun W i1 vt1 vp1 H => q8 H (fun _ => (k8 b3).2)
 have HA : Hid (∀ (W : World) (i1 : Nat) (vt1 vp1 : Value), RS c W i1 vt1 vp1 s.next.next (bud + 1) → Calls Tryz.prog 70 #[.pointer (some ⟨c.g, 0, none⟩), .int .i64 14] W fun e w' => ∃ x : Nd, e = .returned (.agg x.cells.toArray) ∧ c8 c W vt1 vp1 s.next.next.address (bud + 1) w' ∧ ∀ y, j6 14 s.next.next.now = some y → x = y) := fun W i1 vt1 vp1 H => a0T H 14
 have HL : Hid (∀ (W : World) (i1 : Nat) (vt1 vp1 : Value) (x : Nd), RS c W i1 vt1 vp1 s.next.next.address (bud + 1) → (∀ y, j6 14 s.next.next.now = some y → x = y) → d4 c 23 #[.pointer (some ⟨c.g, 0, none⟩), .agg ({ x with side := 1 } : Nd).cells.toArray, .int .i64 (at' : Int)] W vt1 vp1 (s.next.next.address.lay ({ ((j6 14 s.next.next.now).getD nd0) with side := 1 } : Nd) at') bud) := fun W i1 vt1 vp1 x H hx => by
  have he : (s.next.next.address).lay ({ x with side := 1 } : Nd) at' = (s.next.next.address.lay ({ ((j6 14 s.next.next.now).getD nd0) with side := 1 } : Nd) at') := a0D hx (fun x => { x with side := 1 }) (fun e => e) at'
  rw [← he]
  exact B9 H ({ x with side := 1 } : Nd) at'
 generalize (s.next.next.address.lay ({ ((j6 14 s.next.next.now).getD nd0) with side := 1 } : Nd) at') = ans at *
 generalize j6 14 s.next.next.now = oa at *
 generalize s.next.next.address = s3 at *
 generalize s.next.next = s2 at *
 generalize s.next = s1 at *
 unfold d4 at *
 clear h b0 b1 b2 b3
 go_enter Tryz.func59, Tryz.ntmps59
 have HC0 := HI0.out _ _ _ _ _ HY0.out
 go_wp2_with fail
 refine HC0.mono ?_
 rintro e w1 ⟨rfl, G⟩
 have HY1 : Hid (RS c w1 i vt vp s bud) := HY0.out.keep G
 have HX1 : Hid (∀ x, ∀ z, c8 c w1 vt vp x bud z → c8 c w vt vp x bud z) := fun x z R2 => HX0.out x z (c8.of (GB.non G) (fun _ _ k => k) R2)
 clear HC0 G HY0 HX0
 have HC1 := HP.out _ _ _ _ HY1.out
 go_wp2_with fail
 refine HC1.mono ?_
 rintro e w2 ⟨rfl, i2, vt2, vp2, R, G, hf⟩
 have HY2 : Hid (RS c w2 i2 vt2 vp2 s1 bud) := R
 have HX2 : Hid (∀ x, ∀ z, c8 c w2 vt2 vp2 x bud z → c8 c w vt vp x bud z) := fun x z R2 => HX1.out x z (c8.of G hf R2)
 clear HC1 G R hf HY1 HX1 HP
 have HC2 := HI1.out _ _ _ _ _ HY2.out
 go_wp2_with fail
 refine HC2.mono ?_
 rintro e w3 ⟨rfl, G⟩
 have HY3 : Hid (RS c w3 i2 vt2 vp2 s1 bud) := HY2.out.keep G
 have HX3 : Hid (∀ x, ∀ z, c8 c w3 vt2 vp2 x bud z → c8 c w vt vp x bud z) := fun x z R2 => HX2.out x z (c8.of (GB.non G) (fun _ _ k => k) R2)
 clear HC2 G HY2 HX2
 have HC3 := HI2.out _ _ _ _ _ HY3.out
 go_wp2_with fail
 refine HC3.mono ?_
 rintro e w4 ⟨rfl, G⟩
 have HY4 : Hid (RS c w4 i2 vt2 vp2 s1 bud) := HY3.out.keep G
 have HX4 : Hid (∀ x, ∀ z, c8 c w4 vt2 vp2 x bud z → c8 c w vt vp x bud z) := fun x z R2 => HX3.out x z (c8.of (GB.non G) (fun _ _ k => k) R2)
 clear HC3 G HY3 HX3
 have HC4 := HI3.out _ _ _ _ _ HY4.out
 go_wp2_with fail
 refine HC4.mono ?_
 rintro e w5 ⟨rfl, G⟩
 have HY5 : Hid (RS c w5 i2 vt2 vp2 s1 bud) := HY4.out.keep G
 have HX5 : Hid (∀ x, ∀ z, c8 c w5 vt2 vp2 x bud z → c8 c w vt vp x bud z) := fun x z R2 => HX4.out x z (c8.of (GB.non G) (fun _ _ k => k) R2)
 clear HC4 G HY4 HX4
 have HC5 := HN.out _ _ _ _ HY5.out
 go_wp2_with fail
 refine HC5.mono ?_
 rintro e w6 ⟨rfl, i6, vt6, vp6, R, G, hf⟩
 have HY6 : Hid (RS c w6 i6 vt6 vp6 s2 (bud + 1)) := R
 have HX6 : Hid (∀ x, ∀ z, c8 c w6 vt6 vp6 x bud z → c8 c w vt vp x bud z) := fun x z R2 => HX5.out x z (c8.of G hf R2)
 clear HC5 G R hf HY5 HX5 HN
 have HC6 := HA.out _ _ _ _ HY6.out
 go_wp2_with fail
 refine HC6.mono ?_
 rintro e w7 ⟨x, rfl, ⟨i7, vt7, vp7, R, G, hf⟩, hx⟩
 have HXn : Hid (∀ x, ∀ z, c8 c w7 vt7 vp7 x bud z → c8 c w vt vp x bud z) := fun x z R2 => HX6.out x z (c8.of G hf R2)
 have HXA : Hid (∀ y, oa = some y → x = y) := hx
 obtain ⟨X, hX⟩ : ∃ X, x.cells.toArray = X := ⟨_, rfl⟩
 have HXE : Hid (x.cells.toArray = X) := hX
 have HZ : Hid ((Tryz.prog.info? 54).map (·.size) = some X.size ∧ 24 = X.size ∧ X.all (·.oneCell') = true) := by rw [← hX]; exact ⟨g8 _, rfl, j3 _⟩
 have HS0 : Hid (SV c w7 vt7 vp7 (w7.alloc (.cells X 54)) i7 vt7 vp7 s3 (bud + 1) w7.heap.size X) := SV.new R X
 rw [hX]
 clear HC6 G R hf HY6 HX6 HA hx hX
 go_upto_region 21 with (refine wpList_store_row rfl 54 (.tmp 10) (.tmp 66) rfl w7.heap.size X rfl rfl 54 _ (heap_alloc_new w7 _) HZ.out.1 HZ.out.2.1 HZ.out.2.2 ?_)
 rw [World.setRow_alloc_new]
 generalize w7.alloc (.cells X 54) = wa at *
 generalize w7.heap.size = B at *
 have c6 : wa.cell? ⟨B, 6, none⟩ = some (.int .i64 (x.side : Int)) := by have := HS0.out.var.cell 6; rw [← HXE.out] at this; exact this
 have f6 := HS0.out.var.free 6
 have HS4 : Hid (SV c w7 vt7 vp7 (wa.setCell ⟨B, 6, none⟩ (.int .i64 1)) i7 vt7 vp7 s3 (bud + 1) B ({ x with side := 1 } : Nd).cells.toArray) := HS0.out.set 6 _ _ (by rw [← HXE.out]; rfl)
 clear HS0
 go_upto_region 22 with fail
 generalize wa.setCell ⟨B, 6, none⟩ (.int .i64 1) = wb at *
 clear c6 f6
 have HC := HL.out _ _ _ _ x HS4.out.rs HXA.out
 obtain ⟨X2, hX2⟩ : ∃ X2, ({ x with side := 1 } : Nd).cells.toArray = X2 := ⟨_, rfl⟩
 have HZ2 : Hid ((Tryz.prog.info? 54).map (·.size) = some X2.size) := by rw [← hX2]; exact g8 _
 rw [hX2] at HC HS4
 have VY := HS4.out.var
 clear HXA HXE HZ hX2 HL
 go_wp2_with (refine wpList_load_row rfl 54 (.tmp 10) rfl B rfl 54 X2 (0, 0) _ VY Tryz.underlying54 rfl HZ2.out ?_)
 refine HC.mono ?_
 rintro e wz ⟨rfl, R2⟩
 have HR := HXn.out _ _ (HS4.out.out R2)
 clear HC R2 HXn HS4 VY
 go_wp2
 exact bodyPost_end (results_none rfl _ _ _) rfl ⟨rfl, HR⟩
 
theorem ac4 (h : RS c w i vt vp s bud) (at' : Nat) (b0 : s.is g9 = true) (b1 : s.next.is j1 = false) (b2 : s.next.is j4 = false) (b3 : s.next.is p9 = false) (b4 : s.next.is C9 = true) :
  d4 c 59 #[.pointer (some ⟨c.g, 0, none⟩), .int .i64 0, .int .i64 (at' : Int)] w vt vp ((s.next.next.address.must [47]).number.lay ({ ((j6 15 s.next.next.now).getD nd0) with bits := (s.next.next.address.must [47]).num, side := 1 } : Nd) at') bud := by
 have HX0 : Hid (∀ x, ∀ z, c8 c w vt vp x bud z → c8 c w vt vp x bud z) := fun x z R2 => R2
 have HY0 : Hid (RS c w i vt vp s bud) := h
 have HI0 := d6 (c := c) g9 true b0
 have HI1 := d6 (c := c) j1 false b1
 have HI2 := d6 (c := c) j4 false b2
 have HI3 := d6 (c := c) p9 false b3
 have HI4 := d6 (c := c) C9 true b4
 have HP : Hid (∀ (W : World) (i1 : Nat) (vt1 vp1 : Value), RS c W i1 vt1 vp1 s bud → d4 c 27 #[.pointer (some ⟨c.g, 0, none⟩)] W vt1 vp1 s.next bud) := fun W i1 vt1 vp1 H => (q8 H (fun _ => (k8 b0).2)).mono fun _ _ ⟨x, y⟩ => ⟨x, y.less (Nat.le_succ _)⟩
 have HN : Hid (∀ (W : World) (i1 : Nat) (vt1 vp1 : Value), RS c W i1 vt1 vp1 s.next bud → d4 c 27 #[.pointer (some ⟨c.g, 0, none⟩)] W vt1 vp1 s.next.next (bud + 1)) := fun W i1 vt1 vp1 H => q8 H (fun _ => (k8 b4).2)
 have HA : Hid (∀ (W : World) (i1 : Nat) (vt1 vp1 : Value), RS c W i1 vt1 vp1 s.next.next (bud + 1) → Calls Tryz.prog 70 #[.pointer (some ⟨c.g, 0, none⟩), .int .i64 15] W fun e w' => ∃ x : Nd, e = .returned (.agg x.cells.toArray) ∧ c8 c W vt1 vp1 s.next.next.address (bud + 1) w' ∧ ∀ y, j6 15 s.next.next.now = some y → x = y) := fun W i1 vt1 vp1 H => a0T H 15
 have HU : Hid (∀ (W : World) (i1 : Nat) (vt1 vp1 : Value), RS c W i1 vt1 vp1 s.next.next.address (bud + 1) → d4 c 42 #[.pointer (some ⟨c.g, 0, none⟩), str [47]] W vt1 vp1 (s.next.next.address.must [47]) (bud + 1)) := fun W i1 vt1 vp1 H => Z8 H [47]
 have HM : Hid (∀ (W : World) (i1 : Nat) (vt1 vp1 : Value), RS c W i1 vt1 vp1 (s.next.next.address.must [47]) (bud + 1) → Calls Tryz.prog 58 #[.pointer (some ⟨c.g, 0, none⟩)] W fun e w' => e = .returned (.int .u32 ((s.next.next.address.must [47]).num : Int)) ∧ c8 c W vt1 vp1 (s.next.next.address.must [47]).number (bud + 1) w') := fun W i1 vt1 vp1 H => N0 H
 have HML : Hid (∀ (W : World) (i1 : Nat) (vt1 vp1 : Value), RS c W i1 vt1 vp1 (s.next.next.address.must [47]) (bud + 1) → (s.next.next.address.must [47]).num ≤ 4294967295) := fun W i1 vt1 vp1 H => a33 H
 have HL : Hid (∀ (W : World) (i1 : Nat) (vt1 vp1 : Value) (x : Nd), RS c W i1 vt1 vp1 (s.next.next.address.must [47]).number (bud + 1) → (∀ y, j6 15 s.next.next.now = some y → x = y) → d4 c 23 #[.pointer (some ⟨c.g, 0, none⟩), .agg ({ x with bits := (s.next.next.address.must [47]).num, side := 1 } : Nd).cells.toArray, .int .i64 (at' : Int)] W vt1 vp1 ((s.next.next.address.must [47]).number.lay ({ ((j6 15 s.next.next.now).getD nd0) with bits := (s.next.next.address.must [47]).num, side := 1 } : Nd) at') bud) := fun W i1 vt1 vp1 x H hx => by
  have he : ((s.next.next.address.must [47]).number).lay ({ x with bits := (s.next.next.address.must [47]).num, side := 1 } : Nd) at' = ((s.next.next.address.must [47]).number.lay ({ ((j6 15 s.next.next.now).getD nd0) with bits := (s.next.next.address.must [47]).num, side := 1 } : Nd) at') := a0D hx (fun x => { x with bits := (s.next.next.address.must [47]).num, side := 1 }) (fun e => by have h1 := (Rk.must s.next.next.address [47]).stay e; rw [h1]; have h2 := (Rk.number s.next.next.address).stay e; rw [h2]; exact e) at'
  rw [← he]
  exact B9 H ({ x with bits := (s.next.next.address.must [47]).num, side := 1 } : Nd) at'
 generalize ((s.next.next.address.must [47]).number.lay ({ ((j6 15 s.next.next.now).getD nd0) with bits := (s.next.next.address.must [47]).num, side := 1 } : Nd) at') = ans at *
 generalize j6 15 s.next.next.now = oa at *
 generalize (s.next.next.address.must [47]).num = m at *
 generalize (s.next.next.address.must [47]).number = s5 at *
 generalize s.next.next.address.must [47] = s4 at *
 generalize s.next.next.address = s3 at *
 generalize s.next.next = s2 at *
 generalize s.next = s1 at *
 unfold d4 at *
 clear h b0 b1 b2 b3 b4
 go_enter Tryz.func59, Tryz.ntmps59
 have HC0 := HI0.out _ _ _ _ _ HY0.out
 go_wp2_with fail
 refine HC0.mono ?_
 rintro e w1 ⟨rfl, G⟩
 have HY1 : Hid (RS c w1 i vt vp s bud) := HY0.out.keep G
 have HX1 : Hid (∀ x, ∀ z, c8 c w1 vt vp x bud z → c8 c w vt vp x bud z) := fun x z R2 => HX0.out x z (c8.of (GB.non G) (fun _ _ k => k) R2)
 clear HC0 G HY0 HX0
 have HC1 := HP.out _ _ _ _ HY1.out
 go_wp2_with fail
 refine HC1.mono ?_
 rintro e w2 ⟨rfl, i2, vt2, vp2, R, G, hf⟩
 have HY2 : Hid (RS c w2 i2 vt2 vp2 s1 bud) := R
 have HX2 : Hid (∀ x, ∀ z, c8 c w2 vt2 vp2 x bud z → c8 c w vt vp x bud z) := fun x z R2 => HX1.out x z (c8.of G hf R2)
 clear HC1 G R hf HY1 HX1 HP
 have HC2 := HI1.out _ _ _ _ _ HY2.out
 go_wp2_with fail
 refine HC2.mono ?_
 rintro e w3 ⟨rfl, G⟩
 have HY3 : Hid (RS c w3 i2 vt2 vp2 s1 bud) := HY2.out.keep G
 have HX3 : Hid (∀ x, ∀ z, c8 c w3 vt2 vp2 x bud z → c8 c w vt vp x bud z) := fun x z R2 => HX2.out x z (c8.of (GB.non G) (fun _ _ k => k) R2)
 clear HC2 G HY2 HX2
 have HC3 := HI2.out _ _ _ _ _ HY3.out
 go_wp2_with fail
 refine HC3.mono ?_
 rintro e w4 ⟨rfl, G⟩
 have HY4 : Hid (RS c w4 i2 vt2 vp2 s1 bud) := HY3.out.keep G
 have HX4 : Hid (∀ x, ∀ z, c8 c w4 vt2 vp2 x bud z → c8 c w vt vp x bud z) := fun x z R2 => HX3.out x z (c8.of (GB.non G) (fun _ _ k => k) R2)
 clear HC3 G HY3 HX3
 have HC4 := HI3.out _ _ _ _ _ HY4.out
 go_wp2_with fail
 refine HC4.mono ?_
 rintro e w5 ⟨rfl, G⟩
 have HY5 : Hid (RS c w5 i2 vt2 vp2 s1 bud) := HY4.out.keep G
 have HX5 : Hid (∀ x, ∀ z, c8 c w5 vt2 vp2 x bud z → c8 c w vt vp x bud z) := fun x z R2 => HX4.out x z (c8.of (GB.non G) (fun _ _ k => k) R2)
 clear HC4 G HY4 HX4
 have HC5 := HI4.out _ _ _ _ _ HY5.out
 go_wp2_with fail
 refine HC5.mono ?_
 rintro e w6 ⟨rfl, G⟩
 have HY6 : Hid (RS c w6 i2 vt2 vp2 s1 bud) := HY5.out.keep G
 have HX6 : Hid (∀ x, ∀ z, c8 c w6 vt2 vp2 x bud z → c8 c w vt vp x bud z) := fun x z R2 => HX5.out x z (c8.of (GB.non G) (fun _ _ k => k) R2)
 clear HC5 G HY5 HX5
 have HC6 := HN.out _ _ _ _ HY6.out
 go_wp2_with fail
 refine HC6.mono ?_
 rintro e w7 ⟨rfl, i7, vt7, vp7, R, G, hf⟩
 have HY7 : Hid (RS c w7 i7 vt7 vp7 s2 (bud + 1)) := R
 have HX7 : Hid (∀ x, ∀ z, c8 c w7 vt7 vp7 x bud z → c8 c w vt vp x bud z) := fun x z R2 => HX6.out x z (c8.of G hf R2)
 clear HC6 G R hf HY6 HX6 HN
 have HC7 := HA.out _ _ _ _ HY7.out
 go_wp2_with fail
 refine HC7.mono ?_
 rintro e w8 ⟨x, rfl, ⟨i8, vt8, vp8, R, G, hf⟩, hx⟩
 have HXn : Hid (∀ x, ∀ z, c8 c w8 vt8 vp8 x bud z → c8 c w vt vp x bud z) := fun x z R2 => HX7.out x z (c8.of G hf R2)
 have HXA : Hid (∀ y, oa = some y → x = y) := hx
 obtain ⟨X, hX⟩ : ∃ X, x.cells.toArray = X := ⟨_, rfl⟩
 have HXE : Hid (x.cells.toArray = X) := hX
 have HZ : Hid ((Tryz.prog.info? 54).map (·.size) = some X.size ∧ 24 = X.size ∧ X.all (·.oneCell') = true) := by rw [← hX]; exact ⟨g8 _, rfl, j3 _⟩
 have HS0 : Hid (SV c w8 vt8 vp8 (w8.alloc (.cells X 54)) i8 vt8 vp8 s3 (bud + 1) w8.heap.size X) := SV.new R X
 rw [hX]
 clear HC7 G R hf HY7 HX7 HA hx hX
 go_upto_region 26 with (refine wpList_store_row rfl 54 (.tmp 11) (.tmp 83) rfl w8.heap.size X rfl rfl 54 _ (heap_alloc_new w8 _) HZ.out.1 HZ.out.2.1 HZ.out.2.2 ?_)
 rw [World.setRow_alloc_new]
 generalize w8.alloc (.cells X 54) = wa at *
 generalize w8.heap.size = B at *
 have HCu := HU.out _ _ _ _ HS0.out.rs
 go_wp2_with fail
 refine HCu.mono ?_
 rintro e wm ⟨rfl, R⟩
 obtain ⟨im, vm, um, HSM⟩ := HS0.out.step R
 have HS1 : Hid (SV c w8 vt8 vp8 wm im vm um s4 (bud + 1) B X) := HSM
 have HCn := HM.out _ _ _ _ HS1.out.rs
 have hml := HML.out _ _ _ _ HS1.out.rs
 clear HCu HU R HSM HS0 HM HML
 go_wp2_with fail
 refine HCn.mono ?_
 rintro e wn ⟨rfl, R⟩
 obtain ⟨jn, vn, un, HSM⟩ := HS1.out.step R
 have HS2 : Hid (SV c w8 vt8 vp8 wn jn vn un s5 (bud + 1) B X) := HSM
 have hw : IntKind.i64.wrap (m : Int) = (m : Int) := by rw [IntKind.wrap_i64]; omega
 have c23 : wn.cell? ⟨B, 23, none⟩ = some (.int .i64 (x.bits : Int)) := by have := HS2.out.var.cell 23; rw [← HXE.out] at this; exact this
 have f23 := HS2.out.var.free 23
 have HS3 : Hid (SV c w8 vt8 vp8 (wn.setCell ⟨B, 23, none⟩ (.int .i64 (m : Int))) jn vn un s5 (bud + 1) B ({ x with bits := m } : Nd).cells.toArray) := HS2.out.set 23 _ _ (by rw [← HXE.out]; rfl)
 clear HCn R HSM HS1 HS2 hml
 go_upto_region 28 with fail
 generalize wn.setCell ⟨B, 23, none⟩ (.int .i64 (m : Int)) = wo at *
 clear c23 f23 hw
 have c6 : wo.cell? ⟨B, 6, none⟩ = some (.int .i64 (x.side : Int)) := HS3.out.var.cell 6
 have f6 := HS3.out.var.free 6
 have HS4 : Hid (SV c w8 vt8 vp8 (wo.setCell ⟨B, 6, none⟩ (.int .i64 1)) jn vn un s5 (bud + 1) B ({ x with bits := m, side := 1 } : Nd).cells.toArray) := HS3.out.set 6 _ _ rfl
 clear HS3
 go_upto_region 29 with fail
 generalize wo.setCell ⟨B, 6, none⟩ (.int .i64 1) = wb at *
 clear c6 f6
 have HC := HL.out _ _ _ _ x HS4.out.rs HXA.out
 obtain ⟨X2, hX2⟩ : ∃ X2, ({ x with bits := m, side := 1 } : Nd).cells.toArray = X2 := ⟨_, rfl⟩
 have HZ2 : Hid ((Tryz.prog.info? 54).map (·.size) = some X2.size) := by rw [← hX2]; exact g8 _
 rw [hX2] at HC HS4
 have VY := HS4.out.var
 clear HXA HXE HZ hX2 HL
 go_wp2_with (refine wpList_load_row rfl 54 (.tmp 11) rfl B rfl 54 X2 (0, 0) _ VY Tryz.underlying54 rfl HZ2.out ?_)
 refine HC.mono ?_
 rintro e wz ⟨rfl, R2⟩
 have HR := HXn.out _ _ (HS4.out.out R2)
 clear HC R2 HXn HS4 VY
 go_wp2
 exact bodyPost_end (results_none rfl _ _ _) rfl ⟨rfl, HR⟩
 
theorem ab1 (h : RS c w i vt vp s bud) (at' : Nat) (b0 : s.is g9 = false) (b1 : s.is j5 = true) (b2 : s.next.is j1 = false) (b3 : s.next.is j4 = false) (b4 : s.next.is p9 = true) :
  d4 c 59 #[.pointer (some ⟨c.g, 0, none⟩), .int .i64 0, .int .i64 (at' : Int)] w vt vp (s.next.next.address.lay ({ ((j6 14 s.next.next.now).getD nd0) with side := 2 } : Nd) at') bud := by
 have HX0 : Hid (∀ x, ∀ z, c8 c w vt vp x bud z → c8 c w vt vp x bud z) := fun x z R2 => R2
 have HY0 : Hid (RS c w i vt vp s bud) := h
 have HI0 := d6 (c := c) g9 false b0
 have HI1 := d6 (c := c) j5 true b1
 have HI2 := d6 (c := c) j1 false b2
 have HI3 := d6 (c := c) j4 false b3
 have HI4 := d6 (c := c) p9 true b4
 have HP : Hid (∀ (W : World) (i1 : Nat) (vt1 vp1 : Value), RS c W i1 vt1 vp1 s bud → d4 c 27 #[.pointer (some ⟨c.g, 0, none⟩)] W vt1 vp1 s.next bud) := fun W i1 vt1 vp1 H => (q8 H (fun _ => (k8 b1).2)).mono fun _ _ ⟨x, y⟩ => ⟨x, y.less (Nat.le_succ _)⟩
 have HN : Hid (∀ (W : World) (i1 : Nat) (vt1 vp1 : Value), RS c W i1 vt1 vp1 s.next bud → d4 c 27 #[.pointer (some ⟨c.g, 0, none⟩)] W vt1 vp1 s.next.next (bud + 1)) := fun W i1 vt1 vp1 H => q8 H (fun _ => (k8 b4).2)
 have HA : Hid (∀ (W : World) (i1 : Nat) (vt1 vp1 : Value), RS c W i1 vt1 vp1 s.next.next (bud + 1) → Calls Tryz.prog 70 #[.pointer (some ⟨c.g, 0, none⟩), .int .i64 14] W fun e w' => ∃ x : Nd, e = .returned (.agg x.cells.toArray) ∧ c8 c W vt1 vp1 s.next.next.address (bud + 1) w' ∧ ∀ y, j6 14 s.next.next.now = some y → x = y) := fun W i1 vt1 vp1 H => a0T H 14
 have HL : Hid (∀ (W : World) (i1 : Nat) (vt1 vp1 : Value) (x : Nd), RS c W i1 vt1 vp1 s.next.next.address (bud + 1) → (∀ y, j6 14 s.next.next.now = some y → x = y) → d4 c 23 #[.pointer (some ⟨c.g, 0, none⟩), .agg ({ x with side := 2 } : Nd).cells.toArray, .int .i64 (at' : Int)] W vt1 vp1 (s.next.next.address.lay ({ ((j6 14 s.next.next.now).getD nd0) with side := 2 } : Nd) at') bud) := fun W i1 vt1 vp1 x H hx => by
  have he : (s.next.next.address).lay ({ x with side := 2 } : Nd) at' = (s.next.next.address.lay ({ ((j6 14 s.next.next.now).getD nd0) with side := 2 } : Nd) at') := a0D hx (fun x => { x with side := 2 }) (fun e => e) at'
  rw [← he]
  exact B9 H ({ x with side := 2 } : Nd) at'
 generalize (s.next.next.address.lay ({ ((j6 14 s.next.next.now).getD nd0) with side := 2 } : Nd) at') = ans at *
 generalize j6 14 s.next.next.now = oa at *
 generalize s.next.next.address = s3 at *
 generalize s.next.next = s2 at *
 generalize s.next = s1 at *
 unfold d4 at *
 clear h b0 b1 b2 b3 b4
 go_enter Tryz.func59, Tryz.ntmps59
 have HC0 := HI0.out _ _ _ _ _ HY0.out
 go_wp2_with fail
 refine HC0.mono ?_
 rintro e w1 ⟨rfl, G⟩
 have HY1 : Hid (RS c w1 i vt vp s bud) := HY0.out.keep G
 have HX1 : Hid (∀ x, ∀ z, c8 c w1 vt vp x bud z → c8 c w vt vp x bud z) := fun x z R2 => HX0.out x z (c8.of (GB.non G) (fun _ _ k => k) R2)
 clear HC0 G HY0 HX0
 have HC1 := HI1.out _ _ _ _ _ HY1.out
 go_wp2_with fail
 refine HC1.mono ?_
 rintro e w2 ⟨rfl, G⟩
 have HY2 : Hid (RS c w2 i vt vp s bud) := HY1.out.keep G
 have HX2 : Hid (∀ x, ∀ z, c8 c w2 vt vp x bud z → c8 c w vt vp x bud z) := fun x z R2 => HX1.out x z (c8.of (GB.non G) (fun _ _ k => k) R2)
 clear HC1 G HY1 HX1
 have HC2 := HP.out _ _ _ _ HY2.out
 go_wp2_with fail
 refine HC2.mono ?_
 rintro e w3 ⟨rfl, i3, vt3, vp3, R, G, hf⟩
 have HY3 : Hid (RS c w3 i3 vt3 vp3 s1 bud) := R
 have HX3 : Hid (∀ x, ∀ z, c8 c w3 vt3 vp3 x bud z → c8 c w vt vp x bud z) := fun x z R2 => HX2.out x z (c8.of G hf R2)
 clear HC2 G R hf HY2 HX2 HP
 have HC3 := HI2.out _ _ _ _ _ HY3.out
 go_wp2_with fail
 refine HC3.mono ?_
 rintro e w4 ⟨rfl, G⟩
 have HY4 : Hid (RS c w4 i3 vt3 vp3 s1 bud) := HY3.out.keep G
 have HX4 : Hid (∀ x, ∀ z, c8 c w4 vt3 vp3 x bud z → c8 c w vt vp x bud z) := fun x z R2 => HX3.out x z (c8.of (GB.non G) (fun _ _ k => k) R2)
 clear HC3 G HY3 HX3
 have HC4 := HI3.out _ _ _ _ _ HY4.out
 go_wp2_with fail
 refine HC4.mono ?_
 rintro e w5 ⟨rfl, G⟩
 have HY5 : Hid (RS c w5 i3 vt3 vp3 s1 bud) := HY4.out.keep G
 have HX5 : Hid (∀ x, ∀ z, c8 c w5 vt3 vp3 x bud z → c8 c w vt vp x bud z) := fun x z R2 => HX4.out x z (c8.of (GB.non G) (fun _ _ k => k) R2)
 clear HC4 G HY4 HX4
 have HC5 := HI4.out _ _ _ _ _ HY5.out
 go_wp2_with fail
 refine HC5.mono ?_
 rintro e w6 ⟨rfl, G⟩
 have HY6 : Hid (RS c w6 i3 vt3 vp3 s1 bud) := HY5.out.keep G
 have HX6 : Hid (∀ x, ∀ z, c8 c w6 vt3 vp3 x bud z → c8 c w vt vp x bud z) := fun x z R2 => HX5.out x z (c8.of (GB.non G) (fun _ _ k => k) R2)
 clear HC5 G HY5 HX5
 have HC6 := HN.out _ _ _ _ HY6.out
 go_wp2_with fail
 refine HC6.mono ?_
 rintro e w7 ⟨rfl, i7, vt7, vp7, R, G, hf⟩
 have HY7 : Hid (RS c w7 i7 vt7 vp7 s2 (bud + 1)) := R
 have HX7 : Hid (∀ x, ∀ z, c8 c w7 vt7 vp7 x bud z → c8 c w vt vp x bud z) := fun x z R2 => HX6.out x z (c8.of G hf R2)
 clear HC6 G R hf HY6 HX6 HN
 have HC7 := HA.out _ _ _ _ HY7.out
 go_wp2_with fail
 refine HC7.mono ?_
 rintro e w8 ⟨x, rfl, ⟨i8, vt8, vp8, R, G, hf⟩, hx⟩
 have HXn : Hid (∀ x, ∀ z, c8 c w8 vt8 vp8 x bud z → c8 c w vt vp x bud z) := fun x z R2 => HX7.out x z (c8.of G hf R2)
 have HXA : Hid (∀ y, oa = some y → x = y) := hx
 obtain ⟨X, hX⟩ : ∃ X, x.cells.toArray = X := ⟨_, rfl⟩
 have HXE : Hid (x.cells.toArray = X) := hX
 have HZ : Hid ((Tryz.prog.info? 54).map (·.size) = some X.size ∧ 24 = X.size ∧ X.all (·.oneCell') = true) := by rw [← hX]; exact ⟨g8 _, rfl, j3 _⟩
 have HS0 : Hid (SV c w8 vt8 vp8 (w8.alloc (.cells X 54)) i8 vt8 vp8 s3 (bud + 1) w8.heap.size X) := SV.new R X
 rw [hX]
 clear HC7 G R hf HY7 HX7 HA hx hX
 go_upto_region 21 with (refine wpList_store_row rfl 54 (.tmp 10) (.tmp 66) rfl w8.heap.size X rfl rfl 54 _ (heap_alloc_new w8 _) HZ.out.1 HZ.out.2.1 HZ.out.2.2 ?_)
 rw [World.setRow_alloc_new]
 generalize w8.alloc (.cells X 54) = wa at *
 generalize w8.heap.size = B at *
 have c6 : wa.cell? ⟨B, 6, none⟩ = some (.int .i64 (x.side : Int)) := by have := HS0.out.var.cell 6; rw [← HXE.out] at this; exact this
 have f6 := HS0.out.var.free 6
 have HS4 : Hid (SV c w8 vt8 vp8 (wa.setCell ⟨B, 6, none⟩ (.int .i64 2)) i8 vt8 vp8 s3 (bud + 1) B ({ x with side := 2 } : Nd).cells.toArray) := HS0.out.set 6 _ _ (by rw [← HXE.out]; rfl)
 clear HS0
 go_upto_region 22 with fail
 generalize wa.setCell ⟨B, 6, none⟩ (.int .i64 2) = wb at *
 clear c6 f6
 have HC := HL.out _ _ _ _ x HS4.out.rs HXA.out
 obtain ⟨X2, hX2⟩ : ∃ X2, ({ x with side := 2 } : Nd).cells.toArray = X2 := ⟨_, rfl⟩
 have HZ2 : Hid ((Tryz.prog.info? 54).map (·.size) = some X2.size) := by rw [← hX2]; exact g8 _
 rw [hX2] at HC HS4
 have VY := HS4.out.var
 clear HXA HXE HZ hX2 HL
 go_wp2_with (refine wpList_load_row rfl 54 (.tmp 10) rfl B rfl 54 X2 (0, 0) _ VY Tryz.underlying54 rfl HZ2.out ?_)
 refine HC.mono ?_
 rintro e wz ⟨rfl, R2⟩
 have HR := HXn.out _ _ (HS4.out.out R2)
 clear HC R2 HXn HS4 VY
 go_wp2
 exact bodyPost_end (results_none rfl _ _ _) rfl ⟨rfl, HR⟩
 
theorem ab2 (h : RS c w i vt vp s bud) (at' : Nat) (b0 : s.is g9 = false) (b1 : s.is j5 = true) (b2 : s.next.is j1 = false) (b3 : s.next.is j4 = false) (b4 : s.next.is p9 = false) (b5 : s.next.is C9 = true) :
  d4 c 59 #[.pointer (some ⟨c.g, 0, none⟩), .int .i64 0, .int .i64 (at' : Int)] w vt vp ((s.next.next.address.must [47]).number.lay ({ ((j6 15 s.next.next.now).getD nd0) with bits := (s.next.next.address.must [47]).num, side := 2 } : Nd) at') bud := by
 have HX0 : Hid (∀ x, ∀ z, c8 c w vt vp x bud z → c8 c w vt vp x bud z) := fun x z R2 => R2
 have HY0 : Hid (RS c w i vt vp s bud) := h
 have HI0 := d6 (c := c) g9 false b0
 have HI1 := d6 (c := c) j5 true b1
 have HI2 := d6 (c := c) j1 false b2
 have HI3 := d6 (c := c) j4 false b3
 have HI4 := d6 (c := c) p9 false b4
 have HI5 := d6 (c := c) C9 true b5
 have HP : Hid (∀ (W : World) (i1 : Nat) (vt1 vp1 : Value), RS c W i1 vt1 vp1 s bud → d4 c 27 #[.pointer (some ⟨c.g, 0, none⟩)] W vt1 vp1 s.next bud) := fun W i1 vt1 vp1 H => (q8 H (fun _ => (k8 b1).2)).mono fun _ _ ⟨x, y⟩ => ⟨x, y.less (Nat.le_succ _)⟩
 have HN : Hid (∀ (W : World) (i1 : Nat) (vt1 vp1 : Value), RS c W i1 vt1 vp1 s.next bud → d4 c 27 #[.pointer (some ⟨c.g, 0, none⟩)] W vt1 vp1 s.next.next (bud + 1)) := fun W i1 vt1 vp1 H => q8 H (fun _ => (k8 b5).2)
 have HA : Hid (∀ (W : World) (i1 : Nat) (vt1 vp1 : Value), RS c W i1 vt1 vp1 s.next.next (bud + 1) → Calls Tryz.prog 70 #[.pointer (some ⟨c.g, 0, none⟩), .int .i64 15] W fun e w' => ∃ x : Nd, e = .returned (.agg x.cells.toArray) ∧ c8 c W vt1 vp1 s.next.next.address (bud + 1) w' ∧ ∀ y, j6 15 s.next.next.now = some y → x = y) := fun W i1 vt1 vp1 H => a0T H 15
 have HU : Hid (∀ (W : World) (i1 : Nat) (vt1 vp1 : Value), RS c W i1 vt1 vp1 s.next.next.address (bud + 1) → d4 c 42 #[.pointer (some ⟨c.g, 0, none⟩), str [47]] W vt1 vp1 (s.next.next.address.must [47]) (bud + 1)) := fun W i1 vt1 vp1 H => Z8 H [47]
 have HM : Hid (∀ (W : World) (i1 : Nat) (vt1 vp1 : Value), RS c W i1 vt1 vp1 (s.next.next.address.must [47]) (bud + 1) → Calls Tryz.prog 58 #[.pointer (some ⟨c.g, 0, none⟩)] W fun e w' => e = .returned (.int .u32 ((s.next.next.address.must [47]).num : Int)) ∧ c8 c W vt1 vp1 (s.next.next.address.must [47]).number (bud + 1) w') := fun W i1 vt1 vp1 H => N0 H
 have HML : Hid (∀ (W : World) (i1 : Nat) (vt1 vp1 : Value), RS c W i1 vt1 vp1 (s.next.next.address.must [47]) (bud + 1) → (s.next.next.address.must [47]).num ≤ 4294967295) := fun W i1 vt1 vp1 H => a33 H
 have HL : Hid (∀ (W : World) (i1 : Nat) (vt1 vp1 : Value) (x : Nd), RS c W i1 vt1 vp1 (s.next.next.address.must [47]).number (bud + 1) → (∀ y, j6 15 s.next.next.now = some y → x = y) → d4 c 23 #[.pointer (some ⟨c.g, 0, none⟩), .agg ({ x with bits := (s.next.next.address.must [47]).num, side := 2 } : Nd).cells.toArray, .int .i64 (at' : Int)] W vt1 vp1 ((s.next.next.address.must [47]).number.lay ({ ((j6 15 s.next.next.now).getD nd0) with bits := (s.next.next.address.must [47]).num, side := 2 } : Nd) at') bud) := fun W i1 vt1 vp1 x H hx => by
  have he : ((s.next.next.address.must [47]).number).lay ({ x with bits := (s.next.next.address.must [47]).num, side := 2 } : Nd) at' = ((s.next.next.address.must [47]).number.lay ({ ((j6 15 s.next.next.now).getD nd0) with bits := (s.next.next.address.must [47]).num, side := 2 } : Nd) at') := a0D hx (fun x => { x with bits := (s.next.next.address.must [47]).num, side := 2 }) (fun e => by have h1 := (Rk.must s.next.next.address [47]).stay e; rw [h1]; have h2 := (Rk.number s.next.next.address).stay e; rw [h2]; exact e) at'
  rw [← he]
  exact B9 H ({ x with bits := (s.next.next.address.must [47]).num, side := 2 } : Nd) at'
 generalize ((s.next.next.address.must [47]).number.lay ({ ((j6 15 s.next.next.now).getD nd0) with bits := (s.next.next.address.must [47]).num, side := 2 } : Nd) at') = ans at *
 generalize j6 15 s.next.next.now = oa at *
 generalize (s.next.next.address.must [47]).num = m at *
 generalize (s.next.next.address.must [47]).number = s5 at *
 generalize s.next.next.address.must [47] = s4 at *
 generalize s.next.next.address = s3 at *
 generalize s.next.next = s2 at *
 generalize s.next = s1 at *
 unfold d4 at *
 clear h b0 b1 b2 b3 b4 b5
 go_enter Tryz.func59, Tryz.ntmps59
 have HC0 := HI0.out _ _ _ _ _ HY0.out
 go_wp2_with fail
 refine HC0.mono ?_
 rintro e w1 ⟨rfl, G⟩
 have HY1 : Hid (RS c w1 i vt vp s bud) := HY0.out.keep G
 have HX1 : Hid (∀ x, ∀ z, c8 c w1 vt vp x bud z → c8 c w vt vp x bud z) := fun x z R2 => HX0.out x z (c8.of (GB.non G) (fun _ _ k => k) R2)
 clear HC0 G HY0 HX0
 have HC1 := HI1.out _ _ _ _ _ HY1.out
 go_wp2_with fail
 refine HC1.mono ?_
 rintro e w2 ⟨rfl, G⟩
 have HY2 : Hid (RS c w2 i vt vp s bud) := HY1.out.keep G
 have HX2 : Hid (∀ x, ∀ z, c8 c w2 vt vp x bud z → c8 c w vt vp x bud z) := fun x z R2 => HX1.out x z (c8.of (GB.non G) (fun _ _ k => k) R2)
 clear HC1 G HY1 HX1
 have HC2 := HP.out _ _ _ _ HY2.out
 go_wp2_with fail
 refine HC2.mono ?_
 rintro e w3 ⟨rfl, i3, vt3, vp3, R, G, hf⟩
 have HY3 : Hid (RS c w3 i3 vt3 vp3 s1 bud) := R
 have HX3 : Hid (∀ x, ∀ z, c8 c w3 vt3 vp3 x bud z → c8 c w vt vp x bud z) := fun x z R2 => HX2.out x z (c8.of G hf R2)
 clear HC2 G R hf HY2 HX2 HP
 have HC3 := HI2.out _ _ _ _ _ HY3.out
 go_wp2_with fail
 refine HC3.mono ?_
 rintro e w4 ⟨rfl, G⟩
 have HY4 : Hid (RS c w4 i3 vt3 vp3 s1 bud) := HY3.out.keep G
 have HX4 : Hid (∀ x, ∀ z, c8 c w4 vt3 vp3 x bud z → c8 c w vt vp x bud z) := fun x z R2 => HX3.out x z (c8.of (GB.non G) (fun _ _ k => k) R2)
 clear HC3 G HY3 HX3
 have HC4 := HI3.out _ _ _ _ _ HY4.out
 go_wp2_with fail
 refine HC4.mono ?_
 rintro e w5 ⟨rfl, G⟩
 have HY5 : Hid (RS c w5 i3 vt3 vp3 s1 bud) := HY4.out.keep G
 have HX5 : Hid (∀ x, ∀ z, c8 c w5 vt3 vp3 x bud z → c8 c w vt vp x bud z) := fun x z R2 => HX4.out x z (c8.of (GB.non G) (fun _ _ k => k) R2)
 clear HC4 G HY4 HX4
 have HC5 := HI4.out _ _ _ _ _ HY5.out
 go_wp2_with fail
 refine HC5.mono ?_
 rintro e w6 ⟨rfl, G⟩
 have HY6 : Hid (RS c w6 i3 vt3 vp3 s1 bud) := HY5.out.keep G
 have HX6 : Hid (∀ x, ∀ z, c8 c w6 vt3 vp3 x bud z → c8 c w vt vp x bud z) := fun x z R2 => HX5.out x z (c8.of (GB.non G) (fun _ _ k => k) R2)
 clear HC5 G HY5 HX5
 have HC6 := HI5.out _ _ _ _ _ HY6.out
 go_wp2_with fail
 refine HC6.mono ?_
 rintro e w7 ⟨rfl, G⟩
 have HY7 : Hid (RS c w7 i3 vt3 vp3 s1 bud) := HY6.out.keep G
 have HX7 : Hid (∀ x, ∀ z, c8 c w7 vt3 vp3 x bud z → c8 c w vt vp x bud z) := fun x z R2 => HX6.out x z (c8.of (GB.non G) (fun _ _ k => k) R2)
 clear HC6 G HY6 HX6
 have HC7 := HN.out _ _ _ _ HY7.out
 go_wp2_with fail
 refine HC7.mono ?_
 rintro e w8 ⟨rfl, i8, vt8, vp8, R, G, hf⟩
 have HY8 : Hid (RS c w8 i8 vt8 vp8 s2 (bud + 1)) := R
 have HX8 : Hid (∀ x, ∀ z, c8 c w8 vt8 vp8 x bud z → c8 c w vt vp x bud z) := fun x z R2 => HX7.out x z (c8.of G hf R2)
 clear HC7 G R hf HY7 HX7 HN
 have HC8 := HA.out _ _ _ _ HY8.out
 go_wp2_with fail
 refine HC8.mono ?_
 rintro e w9 ⟨x, rfl, ⟨i9, vt9, vp9, R, G, hf⟩, hx⟩
 have HXn : Hid (∀ x, ∀ z, c8 c w9 vt9 vp9 x bud z → c8 c w vt vp x bud z) := fun x z R2 => HX8.out x z (c8.of G hf R2)
 have HXA : Hid (∀ y, oa = some y → x = y) := hx
 obtain ⟨X, hX⟩ : ∃ X, x.cells.toArray = X := ⟨_, rfl⟩
 have HXE : Hid (x.cells.toArray = X) := hX
 have HZ : Hid ((Tryz.prog.info? 54).map (·.size) = some X.size ∧ 24 = X.size ∧ X.all (·.oneCell') = true) := by rw [← hX]; exact ⟨g8 _, rfl, j3 _⟩
 have HS0 : Hid (SV c w9 vt9 vp9 (w9.alloc (.cells X 54)) i9 vt9 vp9 s3 (bud + 1) w9.heap.size X) := SV.new R X
 rw [hX]
 clear HC8 G R hf HY8 HX8 HA hx hX
 go_upto_region 26 with (refine wpList_store_row rfl 54 (.tmp 11) (.tmp 83) rfl w9.heap.size X rfl rfl 54 _ (heap_alloc_new w9 _) HZ.out.1 HZ.out.2.1 HZ.out.2.2 ?_)
 rw [World.setRow_alloc_new]
 generalize w9.alloc (.cells X 54) = wa at *
 generalize w9.heap.size = B at *
 have HCu := HU.out _ _ _ _ HS0.out.rs
 go_wp2_with fail
 refine HCu.mono ?_
 rintro e wm ⟨rfl, R⟩
 obtain ⟨im, vm, um, HSM⟩ := HS0.out.step R
 have HS1 : Hid (SV c w9 vt9 vp9 wm im vm um s4 (bud + 1) B X) := HSM
 have HCn := HM.out _ _ _ _ HS1.out.rs
 have hml := HML.out _ _ _ _ HS1.out.rs
 clear HCu HU R HSM HS0 HM HML
 go_wp2_with fail
 refine HCn.mono ?_
 rintro e wn ⟨rfl, R⟩
 obtain ⟨jn, vn, un, HSM⟩ := HS1.out.step R
 have HS2 : Hid (SV c w9 vt9 vp9 wn jn vn un s5 (bud + 1) B X) := HSM
 have hw : IntKind.i64.wrap (m : Int) = (m : Int) := by rw [IntKind.wrap_i64]; omega
 have c23 : wn.cell? ⟨B, 23, none⟩ = some (.int .i64 (x.bits : Int)) := by have := HS2.out.var.cell 23; rw [← HXE.out] at this; exact this
 have f23 := HS2.out.var.free 23
 have HS3 : Hid (SV c w9 vt9 vp9 (wn.setCell ⟨B, 23, none⟩ (.int .i64 (m : Int))) jn vn un s5 (bud + 1) B ({ x with bits := m } : Nd).cells.toArray) := HS2.out.set 23 _ _ (by rw [← HXE.out]; rfl)
 clear HCn R HSM HS1 HS2 hml
 go_upto_region 28 with fail
 generalize wn.setCell ⟨B, 23, none⟩ (.int .i64 (m : Int)) = wo at *
 clear c23 f23 hw
 have c6 : wo.cell? ⟨B, 6, none⟩ = some (.int .i64 (x.side : Int)) := HS3.out.var.cell 6
 have f6 := HS3.out.var.free 6
 have HS4 : Hid (SV c w9 vt9 vp9 (wo.setCell ⟨B, 6, none⟩ (.int .i64 2)) jn vn un s5 (bud + 1) B ({ x with bits := m, side := 2 } : Nd).cells.toArray) := HS3.out.set 6 _ _ rfl
 clear HS3
 go_upto_region 29 with fail
 generalize wo.setCell ⟨B, 6, none⟩ (.int .i64 2) = wb at *
 clear c6 f6
 have HC := HL.out _ _ _ _ x HS4.out.rs HXA.out
 obtain ⟨X2, hX2⟩ : ∃ X2, ({ x with bits := m, side := 2 } : Nd).cells.toArray = X2 := ⟨_, rfl⟩
 have HZ2 : Hid ((Tryz.prog.info? 54).map (·.size) = some X2.size) := by rw [← hX2]; exact g8 _
 rw [hX2] at HC HS4
 have VY := HS4.out.var
 clear HXA HXE HZ hX2 HL
 go_wp2_with (refine wpList_load_row rfl 54 (.tmp 11) rfl B rfl 54 X2 (0, 0) _ VY Tryz.underlying54 rfl HZ2.out ?_)
 refine HC.mono ?_
 rintro e wz ⟨rfl, R2⟩
 have HR := HXn.out _ _ (HS4.out.out R2)
 clear HC R2 HXn HS4 VY
 go_wp2
 exact bodyPost_end (results_none rfl _ _ _) rfl ⟨rfl, HR⟩
 
theorem ae9 (c : PC) : I9 c := by
 intro w i vt vp s bud of at' h he
 unfold Rt.sided Rt.sideS Rt.side
 by_cases q0 : s.is g9 = true
 ·rw [if_pos q0, if_pos q0]
  unfold Rt.sidedB
  by_cases p0 : s.next.is j1 = true
  ·rw [if_pos p0]; exact ac5 h of at' q0 p0
  rw [if_neg p0]
  have p0 : s.next.is j1 = false := by simpa using p0
  by_cases p1 : s.next.is j4 = true
  ·rw [if_pos p1]; exact ac6 h of at' q0 p0 p1
  rw [if_neg p1]
  have p1 : s.next.is j4 = false := by simpa using p1
  by_cases ho : of = 0
  ·subst ho
   by_cases p2 : s.next.is p9 = true
   ·rw [if_pos ⟨rfl, p2⟩]; exact ac3 h at' q0 p0 p1 p2
   rw [if_neg (fun x => p2 x.2)]
   have p2 : s.next.is p9 = false := by simpa using p2
   by_cases p3 : s.next.is C9 = true
   ·rw [if_pos ⟨rfl, p3⟩]; exact ac4 h at' q0 p0 p1 p2 p3
   rw [if_neg (fun x => p3 x.2)]
   exact ac2 h at' q0 p0 p1 p2 (by simpa using p3)
  rw [if_neg (fun x => ho x.1), if_neg (fun x => ho x.1)]
  exact ac1 h of at' (by omega) q0 p0 p1
 have q0 : s.is g9 = false := by simpa using q0
 have n0 : ¬ s.is g9 = true := by rw [q0]; simp
 rw [if_neg n0, if_neg n0]
 by_cases q1 : s.is j5 = true
 ·rw [if_pos q1, if_pos q1]
  unfold Rt.sidedB
  by_cases p0 : s.next.is j1 = true
  ·rw [if_pos p0]; exact ab3 h of at' q0 q1 p0
  rw [if_neg p0]
  have p0 : s.next.is j1 = false := by simpa using p0
  by_cases p1 : s.next.is j4 = true
  ·rw [if_pos p1]; exact ab4 h of at' q0 q1 p0 p1
  rw [if_neg p1]
  have p1 : s.next.is j4 = false := by simpa using p1
  by_cases ho : of = 0
  ·subst ho
   by_cases p2 : s.next.is p9 = true
   ·rw [if_pos ⟨rfl, p2⟩]; exact ab1 h at' q0 q1 p0 p1 p2
   rw [if_neg (fun x => p2 x.2)]
   have p2 : s.next.is p9 = false := by simpa using p2
   by_cases p3 : s.next.is C9 = true
   ·rw [if_pos ⟨rfl, p3⟩]; exact ab2 h at' q0 q1 p0 p1 p2 p3
   rw [if_neg (fun x => p3 x.2)]
   exact ab0 h at' q0 q1 p0 p1 p2 (by simpa using p3)
  rw [if_neg (fun x => ho x.1), if_neg (fun x => ho x.1)]
  exact aa9 h of at' (by omega) q0 q1 p0 p1
 have q1 : s.is j5 = false := by simpa using q1
 have n1 : ¬ s.is j5 = true := by rw [q1]; simp
 rw [if_neg n1, if_neg n1]
 unfold Rt.sidedB
 by_cases p0 : s.is j1 = true
 ·rw [if_pos p0]; exact ab9 h of at' q0 q1 p0
 rw [if_neg p0]
 have p0 : s.is j1 = false := by simpa using p0
 by_cases p1 : s.is j4 = true
 ·rw [if_pos p1]; exact ac0 h of at' q0 q1 p0 p1
 rw [if_neg p1]
 have p1 : s.is j4 = false := by simpa using p1
 by_cases ho : of = 0
 ·subst ho
  by_cases p2 : s.is p9 = true
  ·rw [if_pos ⟨rfl, p2⟩]; exact ab7 h at' q0 q1 p0 p1 p2
  rw [if_neg (fun x => p2 x.2)]
  have p2 : s.is p9 = false := by simpa using p2
  by_cases p3 : s.is C9 = true
  ·rw [if_pos ⟨rfl, p3⟩]; exact ab8 h at' q0 q1 p0 p1 p2 p3
  rw [if_neg (fun x => p3 x.2)]
  exact ab6 h at' q0 q1 p0 p1 p2 (by simpa using p3)
 rw [if_neg (fun x => ho x.1), if_neg (fun x => ho x.1)]
 exact ab5 h of at' (by omega) q0 q1 p0 p1
end

end Go.Proofs.YtlfmddjppejmaaaGreatDoor
