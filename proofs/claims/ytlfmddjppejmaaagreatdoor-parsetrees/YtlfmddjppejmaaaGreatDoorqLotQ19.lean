import Derived.Test.YtlfmddjppejmaaaGreatDoorqLotQ18
set_option maxHeartbeats 64000000
set_option maxRecDepth 100000
namespace Go.Proofs.YtlfmddjppejmaaaGreatDoor
open Go.RowKit
def d4 (c : PC) (f : FuncId) (args : Array Value) (w : World) (vt vp : Value) (s' : Rt) (bud : Nat) : Prop := Calls Tryz.prog f args w fun e w' => e = .returned (.tuple #[]) ∧ c8 c w vt vp s' bud w'
def I9 (c : PC) : Prop := ∀ (w : World) (i : Nat) (vt vp : Value) (s : Rt) (bud of pos : Nat), RS c w i vt vp s bud → s.er = none → d4 c 59 #[.pointer (some ⟨c.g, 0, none⟩), .int .i64 (of : Int), .int .i64 (pos : Int)] w vt vp (s.sided of pos) bud

section
variable {c : PC} {w : World} {i bud : Nat} {vt vp : Value} {s : Rt}
theorem U3 (h : RS c w i vt vp s bud) (t : Tk) : RS c (w.alloc (.cells (tkC t) 42)) i vt vp s bud ∧ VAt (w.alloc (.cells (tkC t) 42)) w.heap.size 42 (tkC t) ∧ ¬ d3 c.g vt vp w.heap.size ∧ w.grownBy (w.alloc (.cells (tkC t) 42)) none :=
 ⟨h.keep (World.grownBy_alloc w _ none), VAt.alloc w _ _, fun hf => by have := h.mem.lt hf; omega, World.grownBy_alloc w _ none⟩
theorem ad5 (h : RS c w i vt vp s bud) (hk : s.er = none → (hdT s.ts).kind ≠ 0) (t : Tk) (ht : t.text = W5) :
  d4 c 45 #[.pointer (some ⟨c.g, 0, none⟩), .agg (tkC t)] w vt vp (s.next.lay (ndK 2) t.pos) bud := by
 obtain ⟨H0, V0, hV, G0⟩ := U3 h t
 have CN := q8 H0 hk
 have HL : Hid (∀ (W : World) (i1 : Nat) (vt1 vp1 : Value), RS c W i1 vt1 vp1 s.next (bud + 1) → Calls Tryz.prog 23 #[.pointer (some ⟨c.g, 0, none⟩), .agg (ndK 2).cells.toArray, .int .i64 (t.pos : Int)] W fun e w' => e = .returned (.tuple #[]) ∧ c8 c W vt1 vp1 (s.next.lay (ndK 2) t.pos) bud w') := fun W i1 vt1 vp1 H => B9 H (ndK 2) t.pos
 obtain ⟨tk, tp, tx, tn⟩ := t
 simp only at ht
 subst ht
 unfold tkC at *
 simp only [W5] at *
 unfold d4
 have HH : Hid (w.grownBy (w.alloc (.cells #[.int .i64 (tk : Int), .int .i64 (tp : Int), str [108, 101, 110], .int .u32 (tn : Int)] 42)) none) := G0
 clear h H0 G0 hk
 go_enter Tryz.func45, Tryz.ntmps45
 go_wp2_with fail
 refine CN.mono ?_
 rintro e w1 ⟨rfl, i1, vt1, vp1, R, G, hf⟩
 have p1 : w1.cell? ⟨w.heap.size, 1, none⟩ = some (.int .i64 (tp : Int)) := (G.vat V0 hV).cell 1
 have HC := HL.out w1 i1 vt1 vp1 R
 have HX : Hid (∀ w2, c8 c w1 vt1 vp1 (s.next.lay (ndK 2) tp) bud w2 → c8 c w vt vp (s.next.lay (ndK 2) tp) bud w2) := fun w2 R2 => c8.of (GB.non HH.out) (fun x hx k => k) (c8.of G hf R2)
 clear CN V0 G hf R HL HH hV
 go_wp2_with fail
 refine HC.mono ?_
 rintro e w2 ⟨rfl, R2⟩
 have HR := HX.out w2 R2
 clear HX R2 HC p1
 go_wp2
 exact bodyPost_end (results_none rfl _ _ _) rfl ⟨rfl, HR⟩
theorem ad4 (h : RS c w i vt vp s bud) (hk : s.er = none → (hdT s.ts).kind ≠ 0) (t : Tk) (ht : t.text = W4) :
  d4 c 45 #[.pointer (some ⟨c.g, 0, none⟩), .agg (tkC t)] w vt vp (s.next.lay ({ ndK 10 with side := 1 } : Nd) t.pos) bud := by
 obtain ⟨H0, V0, hV, G0⟩ := U3 h t
 have CN := q8 H0 hk
 have HL : Hid (∀ (W : World) (i1 : Nat) (vt1 vp1 : Value), RS c W i1 vt1 vp1 s.next (bud + 1) → Calls Tryz.prog 23 #[.pointer (some ⟨c.g, 0, none⟩), .agg ({ ndK 10 with side := 1 } : Nd).cells.toArray, .int .i64 (t.pos : Int)] W fun e w' => e = .returned (.tuple #[]) ∧ c8 c W vt1 vp1 (s.next.lay ({ ndK 10 with side := 1 } : Nd) t.pos) bud w') := fun W i1 vt1 vp1 H => B9 H ({ ndK 10 with side := 1 } : Nd) t.pos
 obtain ⟨tk, tp, tx, tn⟩ := t
 simp only at ht
 subst ht
 unfold tkC at *
 simp only [W4] at *
 unfold d4
 have HH : Hid (w.grownBy (w.alloc (.cells #[.int .i64 (tk : Int), .int .i64 (tp : Int), str [105, 110, 98, 111, 117, 110, 100], .int .u32 (tn : Int)] 42)) none) := G0
 clear h H0 G0 hk
 go_enter Tryz.func45, Tryz.ntmps45
 go_wp2_with fail
 refine CN.mono ?_
 rintro e w1 ⟨rfl, i1, vt1, vp1, R, G, hf⟩
 have p1 : w1.cell? ⟨w.heap.size, 1, none⟩ = some (.int .i64 (tp : Int)) := (G.vat V0 hV).cell 1
 have HC := HL.out w1 i1 vt1 vp1 R
 have HX : Hid (∀ w2, c8 c w1 vt1 vp1 (s.next.lay ({ ndK 10 with side := 1 } : Nd) tp) bud w2 → c8 c w vt vp (s.next.lay ({ ndK 10 with side := 1 } : Nd) tp) bud w2) := fun w2 R2 => c8.of (GB.non HH.out) (fun x hx k => k) (c8.of G hf R2)
 clear CN V0 G hf R HL HH hV
 go_wp2_with fail
 refine HC.mono ?_
 rintro e w2 ⟨rfl, R2⟩
 have HR := HX.out w2 R2
 clear HX R2 HC p1
 go_wp2
 exact bodyPost_end (results_none rfl _ _ _) rfl ⟨rfl, HR⟩
theorem ad8 (h : RS c w i vt vp s bud) (hk : s.er = none → (hdT s.ts).kind ≠ 0) (t : Tk) (ht : t.text = W6) :
  d4 c 45 #[.pointer (some ⟨c.g, 0, none⟩), .agg (tkC t)] w vt vp (s.next.lay ({ ndK 10 with side := 2 } : Nd) t.pos) bud := by
 obtain ⟨H0, V0, hV, G0⟩ := U3 h t
 have CN := q8 H0 hk
 have HL : Hid (∀ (W : World) (i1 : Nat) (vt1 vp1 : Value), RS c W i1 vt1 vp1 s.next (bud + 1) → Calls Tryz.prog 23 #[.pointer (some ⟨c.g, 0, none⟩), .agg ({ ndK 10 with side := 2 } : Nd).cells.toArray, .int .i64 (t.pos : Int)] W fun e w' => e = .returned (.tuple #[]) ∧ c8 c W vt1 vp1 (s.next.lay ({ ndK 10 with side := 2 } : Nd) t.pos) bud w') := fun W i1 vt1 vp1 H => B9 H ({ ndK 10 with side := 2 } : Nd) t.pos
 obtain ⟨tk, tp, tx, tn⟩ := t
 simp only at ht
 subst ht
 unfold tkC at *
 simp only [W6] at *
 unfold d4
 have HH : Hid (w.grownBy (w.alloc (.cells #[.int .i64 (tk : Int), .int .i64 (tp : Int), str [111, 117, 116, 98, 111, 117, 110, 100], .int .u32 (tn : Int)] 42)) none) := G0
 clear h H0 G0 hk
 go_enter Tryz.func45, Tryz.ntmps45
 go_wp2_with fail
 refine CN.mono ?_
 rintro e w1 ⟨rfl, i1, vt1, vp1, R, G, hf⟩
 have p1 : w1.cell? ⟨w.heap.size, 1, none⟩ = some (.int .i64 (tp : Int)) := (G.vat V0 hV).cell 1
 have HC := HL.out w1 i1 vt1 vp1 R
 have HX : Hid (∀ w2, c8 c w1 vt1 vp1 (s.next.lay ({ ndK 10 with side := 2 } : Nd) tp) bud w2 → c8 c w vt vp (s.next.lay ({ ndK 10 with side := 2 } : Nd) tp) bud w2) := fun w2 R2 => c8.of (GB.non HH.out) (fun x hx k => k) (c8.of G hf R2)
 clear CN V0 G hf R HL HH hV
 go_wp2_with fail
 refine HC.mono ?_
 rintro e w2 ⟨rfl, R2⟩
 have HR := HX.out w2 R2
 clear HX R2 HC p1
 go_wp2
 exact bodyPost_end (results_none rfl _ _ _) rfl ⟨rfl, HR⟩
theorem ae1 (h : RS c w i vt vp s bud) (hk : s.er = none → (hdT s.ts).kind ≠ 0) (t : Tk) (ht : t.text = q7) :
  d4 c 45 #[.pointer (some ⟨c.g, 0, none⟩), .agg (tkC t)] w vt vp (s.next.number.lay ({ ndK 12 with n := s.next.num } : Nd) t.pos) bud := by
 obtain ⟨H0, V0, hV, G0⟩ := U3 h t
 have CN := q8 H0 hk
 have HN : Hid (∀ (W : World) (i1 : Nat) (vt1 vp1 : Value), RS c W i1 vt1 vp1 s.next (bud + 1) → Calls Tryz.prog 58 #[.pointer (some ⟨c.g, 0, none⟩)] W fun e w' => e = .returned (.int .u32 (s.next.num : Int)) ∧ c8 c W vt1 vp1 s.next.number (bud + 1) w') := fun W i1 vt1 vp1 H => N0 H
 have HL : Hid (∀ (W : World) (i1 : Nat) (vt1 vp1 : Value), RS c W i1 vt1 vp1 s.next.number (bud + 1) → Calls Tryz.prog 23 #[.pointer (some ⟨c.g, 0, none⟩), .agg ({ ndK 12 with n := s.next.num } : Nd).cells.toArray, .int .i64 (t.pos : Int)] W fun e w' => e = .returned (.tuple #[]) ∧ c8 c W vt1 vp1 (s.next.number.lay ({ ndK 12 with n := s.next.num } : Nd) t.pos) bud w') := fun W i1 vt1 vp1 H => B9 H ({ ndK 12 with n := s.next.num } : Nd) t.pos
 obtain ⟨tk, tp, tx, tn⟩ := t
 simp only at ht
 subst ht
 unfold tkC at *
 simp only [q7] at *
 unfold d4
 have HH : Hid (w.grownBy (w.alloc (.cells #[.int .i64 (tk : Int), .int .i64 (tp : Int), str [112, 114, 111, 116, 111], .int .u32 (tn : Int)] 42)) none) := G0
 generalize hm : s.next.num = m at *
 generalize s.next.number = s2 at *
 generalize s.next = s1 at *
 clear h H0 G0 hk hm
 go_enter Tryz.func45, Tryz.ntmps45
 go_wp2_with fail
 refine CN.mono ?_
 rintro e w1 ⟨rfl, i1, vt1, vp1, R, G, hf⟩
 have V1 := G.vat V0 hV
 have hV1 : ¬ d3 c.g vt1 vp1 w.heap.size := fun k => hV (hf _ (V0.lt) k)
 have HC := HN.out w1 i1 vt1 vp1 R
 have HX : Hid (∀ x w2, c8 c w1 vt1 vp1 x bud w2 → c8 c w vt vp x bud w2) := fun x w2 R2 => c8.of (GB.non HH.out) (fun x hx k => k) (c8.of G hf R2)
 clear CN V0 G hf R HN HH hV
 go_wp2_with fail
 refine HC.mono ?_
 rintro e w2 ⟨rfl, i2, vt2, vp2, R, G, hf⟩
 have p1 : w2.cell? ⟨w.heap.size, 1, none⟩ = some (.int .i64 (tp : Int)) := (G.vat V1 hV1).cell 1
 have HC2 := HL.out w2 i2 vt2 vp2 R
 have HY : Hid (∀ x w3, c8 c w2 vt2 vp2 x bud w3 → c8 c w vt vp x bud w3) := fun x w3 R2 => HX.out x w3 (c8.of G hf R2)
 clear HC V1 G hf R HL hV1 HX
 go_wp2_with fail
 refine HC2.mono ?_
 rintro e w3 ⟨rfl, R2⟩
 have HR := HY.out _ w3 R2
 clear HY R2 HC2 p1
 go_wp2
 exact bodyPost_end (results_none rfl _ _ _) rfl ⟨rfl, HR⟩
theorem ae2 (hs : I9 c) (h : RS c w i vt vp s bud) (he : s.er = none) (t : Tk) (ht : t.text = g9) :
  d4 c 45 #[.pointer (some ⟨c.g, 0, none⟩), .agg (tkC t)] w vt vp (s.sided 0 t.pos) bud := by
 obtain ⟨H0, V0, hV, G0⟩ := U3 h t
 have CN : Calls Tryz.prog 59 #[.pointer (some ⟨c.g, 0, none⟩), .int .i64 0, .int .i64 (t.pos : Int)] (w.alloc (.cells (tkC t) 42)) fun e w' => e = .returned (.tuple #[]) ∧ c8 c (w.alloc (.cells (tkC t) 42)) vt vp (s.sided 0 t.pos) bud w' := hs _ i vt vp s bud 0 t.pos H0 he
 obtain ⟨tk, tp, tx, tn⟩ := t
 simp only at ht
 subst ht
 unfold tkC at *
 simp only [g9] at *
 unfold d4
 have HH : Hid (w.grownBy (w.alloc (.cells #[.int .i64 (tk : Int), .int .i64 (tp : Int), str [115, 114, 99], .int .u32 (tn : Int)] 42)) none) := G0
 generalize s.sided 0 tp = s1 at *
 have p1 := V0.cell 1
 clear h H0 G0 hs he hV V0
 go_enter Tryz.func45, Tryz.ntmps45
 go_wp2_with fail
 refine CN.mono ?_
 rintro e w1 ⟨rfl, R⟩
 have HR := c8.of (GB.non HH.out) (fun x hx k => k) R
 clear CN R HH p1
 go_wp2
 exact bodyPost_end (results_none rfl _ _ _) rfl ⟨rfl, HR⟩
theorem ad2 (hs : I9 c) (h : RS c w i vt vp s bud) (he : s.er = none) (t : Tk) (ht : t.text = j5) :
  d4 c 45 #[.pointer (some ⟨c.g, 0, none⟩), .agg (tkC t)] w vt vp (s.sided 0 t.pos) bud := by
 obtain ⟨H0, V0, hV, G0⟩ := U3 h t
 have CN : Calls Tryz.prog 59 #[.pointer (some ⟨c.g, 0, none⟩), .int .i64 0, .int .i64 (t.pos : Int)] (w.alloc (.cells (tkC t) 42)) fun e w' => e = .returned (.tuple #[]) ∧ c8 c (w.alloc (.cells (tkC t) 42)) vt vp (s.sided 0 t.pos) bud w' := hs _ i vt vp s bud 0 t.pos H0 he
 obtain ⟨tk, tp, tx, tn⟩ := t
 simp only at ht
 subst ht
 unfold tkC at *
 simp only [j5] at *
 unfold d4
 have HH : Hid (w.grownBy (w.alloc (.cells #[.int .i64 (tk : Int), .int .i64 (tp : Int), str [100, 115, 116], .int .u32 (tn : Int)] 42)) none) := G0
 generalize s.sided 0 tp = s1 at *
 have p1 := V0.cell 1
 clear h H0 G0 hs he hV V0
 go_enter Tryz.func45, Tryz.ntmps45
 go_wp2_with fail
 refine CN.mono ?_
 rintro e w1 ⟨rfl, R⟩
 have HR := c8.of (GB.non HH.out) (fun x hx k => k) R
 clear CN R HH p1
 go_wp2
 exact bodyPost_end (results_none rfl _ _ _) rfl ⟨rfl, HR⟩
theorem ad3 (hs : I9 c) (h : RS c w i vt vp s bud) (he : s.er = none) (t : Tk) (ht : t.text = p9) :
  d4 c 45 #[.pointer (some ⟨c.g, 0, none⟩), .agg (tkC t)] w vt vp (s.sided 0 t.pos) bud := by
 obtain ⟨H0, V0, hV, G0⟩ := U3 h t
 have CN : Calls Tryz.prog 59 #[.pointer (some ⟨c.g, 0, none⟩), .int .i64 0, .int .i64 (t.pos : Int)] (w.alloc (.cells (tkC t) 42)) fun e w' => e = .returned (.tuple #[]) ∧ c8 c (w.alloc (.cells (tkC t) 42)) vt vp (s.sided 0 t.pos) bud w' := hs _ i vt vp s bud 0 t.pos H0 he
 obtain ⟨tk, tp, tx, tn⟩ := t
 simp only at ht
 subst ht
 unfold tkC at *
 simp only [p9] at *
 unfold d4
 have HH : Hid (w.grownBy (w.alloc (.cells #[.int .i64 (tk : Int), .int .i64 (tp : Int), str [104, 111, 115, 116], .int .u32 (tn : Int)] 42)) none) := G0
 generalize s.sided 0 tp = s1 at *
 have p1 := V0.cell 1
 clear h H0 G0 hs he hV V0
 go_enter Tryz.func45, Tryz.ntmps45
 go_wp2_with fail
 refine CN.mono ?_
 rintro e w1 ⟨rfl, R⟩
 have HR := c8.of (GB.non HH.out) (fun x hx k => k) R
 clear CN R HH p1
 go_wp2
 exact bodyPost_end (results_none rfl _ _ _) rfl ⟨rfl, HR⟩
theorem ad6 (hs : I9 c) (h : RS c w i vt vp s bud) (he : s.er = none) (t : Tk) (ht : t.text = C9) :
  d4 c 45 #[.pointer (some ⟨c.g, 0, none⟩), .agg (tkC t)] w vt vp (s.sided 0 t.pos) bud := by
 obtain ⟨H0, V0, hV, G0⟩ := U3 h t
 have CN : Calls Tryz.prog 59 #[.pointer (some ⟨c.g, 0, none⟩), .int .i64 0, .int .i64 (t.pos : Int)] (w.alloc (.cells (tkC t) 42)) fun e w' => e = .returned (.tuple #[]) ∧ c8 c (w.alloc (.cells (tkC t) 42)) vt vp (s.sided 0 t.pos) bud w' := hs _ i vt vp s bud 0 t.pos H0 he
 obtain ⟨tk, tp, tx, tn⟩ := t
 simp only at ht
 subst ht
 unfold tkC at *
 simp only [C9] at *
 unfold d4
 have HH : Hid (w.grownBy (w.alloc (.cells #[.int .i64 (tk : Int), .int .i64 (tp : Int), str [110, 101, 116], .int .u32 (tn : Int)] 42)) none) := G0
 generalize s.sided 0 tp = s1 at *
 have p1 := V0.cell 1
 clear h H0 G0 hs he hV V0
 go_enter Tryz.func45, Tryz.ntmps45
 go_wp2_with fail
 refine CN.mono ?_
 rintro e w1 ⟨rfl, R⟩
 have HR := c8.of (GB.non HH.out) (fun x hx k => k) R
 clear CN R HH p1
 go_wp2
 exact bodyPost_end (results_none rfl _ _ _) rfl ⟨rfl, HR⟩
theorem ad9 (hs : I9 c) (h : RS c w i vt vp s bud) (he : s.er = none) (t : Tk) (ht : t.text = j1) :
  d4 c 45 #[.pointer (some ⟨c.g, 0, none⟩), .agg (tkC t)] w vt vp (s.sided 0 t.pos) bud := by
 obtain ⟨H0, V0, hV, G0⟩ := U3 h t
 have CN : Calls Tryz.prog 59 #[.pointer (some ⟨c.g, 0, none⟩), .int .i64 0, .int .i64 (t.pos : Int)] (w.alloc (.cells (tkC t) 42)) fun e w' => e = .returned (.tuple #[]) ∧ c8 c (w.alloc (.cells (tkC t) 42)) vt vp (s.sided 0 t.pos) bud w' := hs _ i vt vp s bud 0 t.pos H0 he
 obtain ⟨tk, tp, tx, tn⟩ := t
 simp only at ht
 subst ht
 unfold tkC at *
 simp only [j1] at *
 unfold d4
 have HH : Hid (w.grownBy (w.alloc (.cells #[.int .i64 (tk : Int), .int .i64 (tp : Int), str [112, 111, 114, 116], .int .u32 (tn : Int)] 42)) none) := G0
 generalize s.sided 0 tp = s1 at *
 have p1 := V0.cell 1
 clear h H0 G0 hs he hV V0
 go_enter Tryz.func45, Tryz.ntmps45
 go_wp2_with fail
 refine CN.mono ?_
 rintro e w1 ⟨rfl, R⟩
 have HR := c8.of (GB.non HH.out) (fun x hx k => k) R
 clear CN R HH p1
 go_wp2
 exact bodyPost_end (results_none rfl _ _ _) rfl ⟨rfl, HR⟩
theorem ae0 (hs : I9 c) (h : RS c w i vt vp s bud) (he : s.er = none) (t : Tk) (ht : t.text = j4) :
  d4 c 45 #[.pointer (some ⟨c.g, 0, none⟩), .agg (tkC t)] w vt vp (s.sided 0 t.pos) bud := by
 obtain ⟨H0, V0, hV, G0⟩ := U3 h t
 have CN : Calls Tryz.prog 59 #[.pointer (some ⟨c.g, 0, none⟩), .int .i64 0, .int .i64 (t.pos : Int)] (w.alloc (.cells (tkC t) 42)) fun e w' => e = .returned (.tuple #[]) ∧ c8 c (w.alloc (.cells (tkC t) 42)) vt vp (s.sided 0 t.pos) bud w' := hs _ i vt vp s bud 0 t.pos H0 he
 obtain ⟨tk, tp, tx, tn⟩ := t
 simp only at ht
 subst ht
 unfold tkC at *
 simp only [j4] at *
 unfold d4
 have HH : Hid (w.grownBy (w.alloc (.cells #[.int .i64 (tk : Int), .int .i64 (tp : Int), str [112, 111, 114, 116, 114, 97, 110, 103, 101], .int .u32 (tn : Int)] 42)) none) := G0
 generalize s.sided 0 tp = s1 at *
 have p1 := V0.cell 1
 clear h H0 G0 hs he hV V0
 go_enter Tryz.func45, Tryz.ntmps45
 go_wp2_with fail
 refine CN.mono ?_
 rintro e w1 ⟨rfl, R⟩
 have HR := c8.of (GB.non HH.out) (fun x hx k => k) R
 clear CN R HH p1
 go_wp2
 exact bodyPost_end (results_none rfl _ _ _) rfl ⟨rfl, HR⟩
theorem ad7 (h : RS c w i vt vp s bud) (t : Tk) (h0 : t.text ≠ W5) (h1 : t.text ≠ W4) (h2 : t.text ≠ W6) (h3 : t.text ≠ q7) (h4 : t.text ≠ g9) (h5 : t.text ≠ j5) (h6 : t.text ≠ p9) (h7 : t.text ≠ C9) (h8 : t.text ≠ j1) (h9 : t.text ≠ j4) :
  d4 c 45 #[.pointer (some ⟨c.g, 0, none⟩), .agg (tkC t)] w vt vp (s.fail 111) bud := by
 obtain ⟨H0, V0, hV, G0⟩ := U3 h t
 have CN := M2 H0 111 (by decide) (by decide)
 obtain ⟨tk, tp, tx, tn⟩ := t
 simp only at h0 h1 h2 h3 h4 h5 h6 h7 h8 h9
 have e0 : (tx == [108, 101, 110]) = false := by simpa [W5] using h0
 have e1 : (tx == [105, 110, 98, 111, 117, 110, 100]) = false := by simpa [W4] using h1
 have e2 : (tx == [111, 117, 116, 98, 111, 117, 110, 100]) = false := by simpa [W6] using h2
 have e3 : (tx == [112, 114, 111, 116, 111]) = false := by simpa [q7] using h3
 have e4 : (tx == [115, 114, 99]) = false := by simpa [g9] using h4
 have e5 : (tx == [100, 115, 116]) = false := by simpa [j5] using h5
 have e6 : (tx == [104, 111, 115, 116]) = false := by simpa [p9] using h6
 have e7 : (tx == [110, 101, 116]) = false := by simpa [C9] using h7
 have e8 : (tx == [112, 111, 114, 116]) = false := by simpa [j1] using h8
 have e9 : (tx == [112, 111, 114, 116, 114, 97, 110, 103, 101]) = false := by simpa [j4] using h9
 unfold tkC at *
 simp only at *
 unfold d4
 have HH : Hid (w.grownBy (w.alloc (.cells #[.int .i64 (tk : Int), .int .i64 (tp : Int), str tx, .int .u32 (tn : Int)] 42)) none) := G0
 generalize s.fail 111 = s1 at *
 have p1 := V0.cell 1
 clear h H0 G0 hV V0 h0 h1 h2 h3 h4 h5 h6 h7 h8 h9
 go_enter Tryz.func45, Tryz.ntmps45
 go_wp2_with fail
 refine CN.mono ?_
 rintro e w1 ⟨rfl, R⟩
 have HR := c8.of (GB.non HH.out) (fun x hx k => k) R
 clear CN R HH p1
 go_wp2
 exact bodyPost_end (results_none rfl _ _ _) rfl ⟨rfl, HR⟩
theorem ad1 (hs : I9 c) (h : RS c w i vt vp s bud) (he : s.er = none) (hk : (hdT s.ts).kind ≠ 0) :
  d4 c 45 #[.pointer (some ⟨c.g, 0, none⟩), .agg (tkC s.now)] w vt vp s.word bud := by
 unfold Rt.word
 by_cases a0 : s.now.text = W5
 ·rw [if_pos a0]; exact ad5 h (fun _ => hk) _ a0
 by_cases a1 : s.now.text = W4
 ·rw [if_neg a0, if_pos a1]; exact ad4 h (fun _ => hk) _ a1
 by_cases a2 : s.now.text = W6
 ·rw [if_neg a0, if_neg a1, if_pos a2]; exact ad8 h (fun _ => hk) _ a2
 by_cases a3 : s.now.text = q7
 ·rw [if_neg a0, if_neg a1, if_neg a2, if_pos a3]; exact ae1 h (fun _ => hk) _ a3
 rw [if_neg a0, if_neg a1, if_neg a2, if_neg a3]
 by_cases a4 : s.now.text ∈ [g9, j5, p9, C9, j1, j4]
 ·rw [if_pos a4]
  simp only [List.mem_cons, List.not_mem_nil, or_false] at a4
  rcases a4 with a | a | a | a | a | a
  ·exact ae2 hs h he _ a
  ·exact ad2 hs h he _ a
  ·exact ad3 hs h he _ a
  ·exact ad6 hs h he _ a
  ·exact ad9 hs h he _ a
  ·exact ae0 hs h he _ a
 ·rw [if_neg a4]
  simp only [List.mem_cons, List.not_mem_nil, or_false, not_or] at a4
  exact ad7 h _ a0 a1 a2 a3 a4.1 a4.2.1 a4.2.2.1 a4.2.2.2.1 a4.2.2.2.2.1 a4.2.2.2.2.2
end

section
variable {c : PC} {w : World} {i bud : Nat} {vt vp : Value} {s : Rt}
theorem X6 (h : s.now.kind ≠ 0) : s.er = none ∧ (hdT s.ts).kind ≠ 0 := by
 rcases he : s.er with _ | x
 ·rw [E9 he] at h
  exact ⟨rfl, h⟩
 ·rw [a1p he] at h
  exact absurd rfl h
theorem k8 {x : List UInt8} (h : s.is x = true) : s.er = none ∧ (hdT s.ts).kind ≠ 0 := by
 rcases he : s.er with _ | y
 ·exact ⟨rfl, a4d he h⟩
 ·rw [a2y he] at h
  cases h
theorem RT.down {pl : Int} (h : RT c w i vt vp s bud pl) (h1 : 0 ≤ s.nest) (h2 : s.er = none → 1 ≤ s.nest) : RT c (w.setCell ⟨c.g, 4, none⟩ (.int .i64 (s.nest - 1))) i vt vp s.down bud pl :=
 h.putN (n := s.nest - 1) (by have := h.hi; omega) (by omega) (fun e => by have := h2 e; omega)
theorem a0m (h : RS c w i vt vp s bud) (t : Tk) (w1 : World) (G : w.grownBy w1 none) : RS c (w1.alloc (.cells (tkC t) 42)) i vt vp s bud ∧ VAt (w1.alloc (.cells (tkC t) 42)) w1.heap.size 42 (tkC t) ∧ ¬ d3 c.g vt vp w1.heap.size ∧ w.grownBy (w1.alloc (.cells (tkC t) 42)) none := by
 obtain ⟨a, b, d, e⟩ := U3 (h.keep G) t
 exact ⟨a, b, d, d5 G e⟩
theorem a9Z (h : RS c w i vt vp s bud) (hk1 : s.now.kind = 1) :
  d4 c 24 #[.pointer (some ⟨c.g, 0, none⟩)] w vt vp (s.next.lay { ndK 1 with n := s.now.num } s.now.pos) bud := by
 have CN := E6 h
 have HB : Hid (∀ w1, w.grownBy w1 none → RS c (w1.alloc (.cells (tkC s.now) 42)) i vt vp s bud ∧ VAt (w1.alloc (.cells (tkC s.now) 42)) w1.heap.size 42 (tkC s.now) ∧ ¬ d3 c.g vt vp w1.heap.size ∧ w.grownBy (w1.alloc (.cells (tkC s.now) 42)) none) := a0m h s.now
 have HN : Hid (∀ (W : World) (i1 : Nat) (vt1 vp1 : Value), RS c W i1 vt1 vp1 s bud → d4 c 27 #[.pointer (some ⟨c.g, 0, none⟩)] W vt1 vp1 s.next (bud + 1)) := fun W i1 vt1 vp1 H => q8 H (fun _ => (X6 (by omega)).2)
 have HL : Hid (∀ (W : World) (i1 : Nat) (vt1 vp1 : Value), RS c W i1 vt1 vp1 s.next (bud + 1) → d4 c 23 #[.pointer (some ⟨c.g, 0, none⟩), .agg ({ ndK 1 with n := s.now.num } : Nd).cells.toArray, .int .i64 (s.now.pos : Int)] W vt1 vp1 (s.next.lay { ndK 1 with n := s.now.num } s.now.pos) bud) := fun W i1 vt1 vp1 H => B9 H { ndK 1 with n := s.now.num } s.now.pos
 generalize s.now = t at *
 generalize s.next = s1 at *
 obtain ⟨tk, tp, tx, tn⟩ := t
 simp only at hk1
 subst hk1
 unfold tkC at *
 simp only at *
 unfold d4 at *
 clear h
 go_enter Tryz.func24, Tryz.ntmps24
 go_wp2_with fail
 refine CN.mono ?_
 rintro e w1 ⟨rfl, G⟩
 obtain ⟨H0, V0, hV, G0⟩ := HB.out w1 G
 have HH : Hid (∀ x w2, c8 c _ vt vp x bud w2 → c8 c w vt vp x bud w2) := fun x w2 R2 => c8.of (GB.non G0) (fun x hx k => k) R2
 have CX := HN.out _ i vt vp H0
 clear CN G G0 H0 HN HB
 go_wp2_with fail
 refine CX.mono ?_
 rintro e w2 ⟨rfl, i1, vt1, vp1, R, G, hf⟩
 have V1 := G.vat V0 hV
 have p1 := V1.cell 1
 have p3 := V1.cell 3
 have HC := HL.out w2 i1 vt1 vp1 R
 have HX : Hid (∀ x w3, c8 c w2 vt1 vp1 x bud w3 → c8 c w vt vp x bud w3) := fun x w3 R2 => HH.out x w3 (c8.of G hf R2)
 clear V0 V1 G hf R HL HH hV CX
 go_wp2_with fail
 refine HC.mono ?_
 rintro e w3 ⟨rfl, R2⟩
 have HR := HX.out _ w3 R2
 clear HX R2 HC p1 p3
 go_wp2
 exact bodyPost_end (results_none rfl _ _ _) rfl ⟨rfl, HR⟩
theorem a9Y (h : RS c w i vt vp s bud) (hk1 : s.now.kind ≠ 1) (hb : s.is [40] = false) (hk2 : s.now.kind ≠ 2) :
  d4 c 24 #[.pointer (some ⟨c.g, 0, none⟩)] w vt vp (s.fail 111) bud := by
 have CN := E6 h
 have HB : Hid (∀ w1, w.grownBy w1 none → RS c (w1.alloc (.cells (tkC s.now) 42)) i vt vp s bud ∧ VAt (w1.alloc (.cells (tkC s.now) 42)) w1.heap.size 42 (tkC s.now) ∧ ¬ d3 c.g vt vp w1.heap.size ∧ w.grownBy (w1.alloc (.cells (tkC s.now) 42)) none) := a0m h s.now
 have HI : Hid (∀ W, RS c W i vt vp s bud → Calls Tryz.prog 21 #[.pointer (some ⟨c.g, 0, none⟩), str [40]] W fun e w' => e = .returned (.bool false) ∧ W.grownBy w' none) := fun W H => by have := a0U H [40]; rw [hb] at this; exact this
 have HF : Hid (∀ W, RS c W i vt vp s bud → d4 c 14 #[.pointer (some ⟨c.g, 0, none⟩), .int .i64 111] W vt vp (s.fail 111) bud) := fun W H => M2 H _ (by decide) (by decide)
 generalize s.now = t at *
 generalize s.fail 111 = s1 at *
 obtain ⟨tk, tp, tx, tn⟩ := t
 simp only at hk1 hk2
 have e1 : ((tk : Int) == 1) = false := by simp only [beq_eq_false_iff_ne]; omega
 have e2 : ((tk : Int) == 2) = false := by simp only [beq_eq_false_iff_ne]; omega
 unfold tkC at *
 simp only at *
 unfold d4 at *
 clear h hb hk1 hk2
 go_enter Tryz.func24, Tryz.ntmps24
 go_wp2_with fail
 refine CN.mono ?_
 rintro e w1 ⟨rfl, G⟩
 obtain ⟨H0, V0, hV, G0⟩ := HB.out w1 G
 have HH : Hid (∀ x w2, c8 c _ vt vp x bud w2 → c8 c w vt vp x bud w2) := fun x w2 R2 => c8.of (GB.non G0) (fun x hx k => k) R2
 have CX := HI.out _ H0
 have p0 := V0.cell 0
 have HY : Hid (RS c _ i vt vp s bud) := H0
 have HV : Hid (VAt _ w1.heap.size 42 _) := V0
 clear CN G G0 H0 HI HB hV V0
 go_wp2_with fail
 refine CX.mono ?_
 rintro e w2 ⟨rfl, G⟩
 have p0 := (HV.out.kept G).cell 0
 have HC := HF.out w2 (HY.out.keep G)
 have HX : Hid (∀ x, ∀ w3, c8 c w2 vt vp x bud w3 → c8 c w vt vp x bud w3) := fun x w3 R2 => HH.out x w3 (c8.of (GB.non G) (fun _ _ k => k) R2)
 clear G HF HY HH CX HV
 go_wp2_with fail
 refine HC.mono ?_
 rintro e w3 ⟨rfl, R2⟩
 have HR := HX.out _ w3 R2
 clear HX R2 HC p0
 go_wp2
 exact bodyPost_end (results_none rfl _ _ _) rfl ⟨rfl, HR⟩
theorem aa0 (h : RS c w i vt vp s bud) (hk1 : s.now.kind ≠ 1) (hb : s.is [40] = true) (s2 : Rt)
  (HR : ∀ (W : World) (i1 : Nat) (vt1 vp1 : Value), RS c W i1 vt1 vp1 s.opn (bud + 1) → d4 c 12 #[.pointer (some ⟨c.g, 0, none⟩), .int .i64 1] W vt1 vp1 s2 (bud + 1))
  (D0 : 0 ≤ (s2.must [41]).nest) (D1 : (s2.must [41]).er = none → 1 ≤ (s2.must [41]).nest) :
  d4 c 24 #[.pointer (some ⟨c.g, 0, none⟩)] w vt vp (s2.must [41]).down bud := by
 have CN := E6 h
 have HB : Hid (∀ w1, w.grownBy w1 none → RS c (w1.alloc (.cells (tkC s.now) 42)) i vt vp s bud ∧ VAt (w1.alloc (.cells (tkC s.now) 42)) w1.heap.size 42 (tkC s.now) ∧ ¬ d3 c.g vt vp w1.heap.size ∧ w.grownBy (w1.alloc (.cells (tkC s.now) 42)) none) := a0m h s.now
 have HI : Hid (∀ W, RS c W i vt vp s bud → Calls Tryz.prog 21 #[.pointer (some ⟨c.g, 0, none⟩), str [40]] W fun e w' => e = .returned (.bool true) ∧ W.grownBy w' none) := fun W H => by have := a0U H [40]; rw [hb] at this; exact this
 have HO : Hid (∀ W, RS c W i vt vp s bud → d4 c 22 #[.pointer (some ⟨c.g, 0, none⟩)] W vt vp s.opn (bud + 1)) := fun W H => a0V H (k8 hb).1 (k8 hb).2
 have HRr : Hid (∀ (W : World) (i1 : Nat) (vt1 vp1 : Value), RS c W i1 vt1 vp1 s.opn (bud + 1) → d4 c 12 #[.pointer (some ⟨c.g, 0, none⟩), .int .i64 1] W vt1 vp1 s2 (bud + 1)) := HR
 have HM : Hid (∀ (W : World) (i1 : Nat) (vt1 vp1 : Value), RS c W i1 vt1 vp1 s2 (bud + 1) → d4 c 42 #[.pointer (some ⟨c.g, 0, none⟩), str [41]] W vt1 vp1 (s2.must [41]) (bud + 1)) := fun W i1 vt1 vp1 H => Z8 H [41]
 have HD : Hid (0 ≤ (s2.must [41]).nest ∧ ((s2.must [41]).er = none → 1 ≤ (s2.must [41]).nest)) := ⟨D0, D1⟩
 generalize s.now = t at *
 generalize s.opn = s1 at *
 generalize s2.must [41] = s3 at *
 obtain ⟨tk, tp, tx, tn⟩ := t
 simp only at hk1
 have e1 : ((tk : Int) == 1) = false := by simp only [beq_eq_false_iff_ne]; omega
 unfold tkC at *
 simp only at *
 unfold d4 at *
 clear h hb hk1 HR D0 D1
 go_enter Tryz.func24, Tryz.ntmps24
 go_wp2_with fail
 refine CN.mono ?_
 rintro e w1 ⟨rfl, G⟩
 obtain ⟨H0, V0, hV, G0⟩ := HB.out w1 G
 have HH : Hid (∀ x w2, c8 c _ vt vp x bud w2 → c8 c w vt vp x bud w2) := fun x w2 R2 => c8.of (GB.non G0) (fun x hx k => k) R2
 have CX := HI.out _ H0
 have p0 := V0.cell 0
 have HY : Hid (RS c _ i vt vp s bud) := H0
 clear CN G G0 H0 HI HB hV V0
 go_wp2_with fail
 refine CX.mono ?_
 rintro e w2 ⟨rfl, G⟩
 have HC := HO.out w2 (HY.out.keep G)
 have HX : Hid (∀ x, ∀ w3, c8 c w2 vt vp x bud w3 → c8 c w vt vp x bud w3) := fun x w3 R2 => HH.out x w3 (c8.of (GB.non G) (fun _ _ k => k) R2)
 clear G HO HY HH CX p0
 go_wp2_with fail
 refine HC.mono ?_
 rintro e w3 ⟨rfl, i1, vt1, vp1, R, G, hf⟩
 have HC2 := HRr.out w3 i1 vt1 vp1 R
 have HX2 : Hid (∀ x, ∀ w4, c8 c w3 vt1 vp1 x bud w4 → c8 c w vt vp x bud w4) := fun x w4 R2 => HX.out x w4 (c8.of G hf R2)
 clear HC HX G hf R HRr
 go_wp2_with fail
 refine HC2.mono ?_
 rintro e w4 ⟨rfl, i2, vt2, vp2, R, G, hf⟩
 have HC3 := HM.out w4 i2 vt2 vp2 R
 have HX3 : Hid (∀ x, ∀ w5, c8 c w4 vt2 vp2 x bud w5 → c8 c w vt vp x bud w5) := fun x w5 R2 => HX2.out x w5 (c8.of G hf R2)
 clear HC2 HX2 G hf R HM
 go_wp2_with fail
 refine HC3.mono ?_
 rintro e w5 ⟨rfl, i3, vt3, vp3, R, G, hf⟩
 have c4 : w5.cell? ⟨c.g, 4, none⟩ = some (.int .i64 s3.nest) := R.mem.blk.cell 4
 have f4 := R.mem.blk.free 4
 have h1 := R.hi
 have h2 := HD.out.1
 have hw : IntKind.i64.wrap (s3.nest - 1) = s3.nest - 1 := by rw [IntKind.wrap_i64]; omega
 have HR' : Hid (c8 c w vt vp s3.down bud (w5.setCell ⟨c.g, 4, none⟩ (.int .i64 (s3.nest - 1)))) :=
  HX3.out _ _ (c8.of G hf ⟨i3, vt3, vp3, (R.down HD.out.1 HD.out.2).less (Nat.le_succ bud), GB.set w5 vt3 vp3 c.g 4 _, fun _ _ k => k⟩)
 clear HC3 HX3 G hf R HD
 generalize s3.nest = nn at *
 go_wp2
 exact bodyPost_end (results_none rfl _ _ _) rfl ⟨rfl, HR'.out⟩
theorem a9X (h : RS c w i vt vp s bud) (hb : s.is [40] = false) (hk2 : s.now.kind = 2) (hn : l9 s.now.text ≠ 0) (s2 : Rt)
  (HR : ∀ (W : World) (i1 : Nat) (vt1 vp1 : Value), RS c W i1 vt1 vp1 s.next (bud + 1) → d4 c 44 #[.pointer (some ⟨c.g, 0, none⟩), .int .i64 (l9 s.now.text : Int), .int .i64 (s.now.pos : Int)] W vt1 vp1 s2 bud) :
  d4 c 24 #[.pointer (some ⟨c.g, 0, none⟩)] w vt vp s2 bud := by
 have CN := E6 h
 have HB : Hid (∀ w1, w.grownBy w1 none → RS c (w1.alloc (.cells (tkC s.now) 42)) i vt vp s bud ∧ VAt (w1.alloc (.cells (tkC s.now) 42)) w1.heap.size 42 (tkC s.now) ∧ ¬ d3 c.g vt vp w1.heap.size ∧ w.grownBy (w1.alloc (.cells (tkC s.now) 42)) none) := a0m h s.now
 have HI : Hid (∀ W, RS c W i vt vp s bud → Calls Tryz.prog 21 #[.pointer (some ⟨c.g, 0, none⟩), str [40]] W fun e w' => e = .returned (.bool false) ∧ W.grownBy w' none) := fun W H => by have := a0U H [40]; rw [hb] at this; exact this
 have HN : Hid (∀ (W : World), RS c W i vt vp s bud → d4 c 27 #[.pointer (some ⟨c.g, 0, none⟩)] W vt vp s.next (bud + 1)) := fun W H => q8 H (fun _ => (X6 (by omega)).2)
 have HT : Hid (∀ W : World, Calls Tryz.prog 43 #[str s.now.text] W fun e w' => e = .returned (.int .i64 (l9 s.now.text : Int)) ∧ W.grownBy w' none) := fun W => a55 s.now.text W
 have HRr : Hid (∀ (W : World) (i1 : Nat) (vt1 vp1 : Value), RS c W i1 vt1 vp1 s.next (bud + 1) → d4 c 44 #[.pointer (some ⟨c.g, 0, none⟩), .int .i64 (l9 s.now.text : Int), .int .i64 (s.now.pos : Int)] W vt1 vp1 s2 bud) := HR
 generalize s.now = t at *
 generalize s.next = s1 at *
 obtain ⟨tk, tp, tx, tn⟩ := t
 simp only at hk2 hn
 subst hk2
 unfold tkC at *
 simp only at *
 generalize l9 tx = of at *
 have e0 : ((of : Int) == 0) = false := by simp only [beq_eq_false_iff_ne]; omega
 unfold d4 at *
 clear h hb HR hn
 go_enter Tryz.func24, Tryz.ntmps24
 go_wp2_with fail
 refine CN.mono ?_
 rintro e w1 ⟨rfl, G⟩
 obtain ⟨H0, V0, hV, G0⟩ := HB.out w1 G
 have HH : Hid (∀ x w2, c8 c _ vt vp x bud w2 → c8 c w vt vp x bud w2) := fun x w2 R2 => c8.of (GB.non G0) (fun x hx k => k) R2
 have CX := HI.out _ H0
 have p0 := V0.cell 0
 have HY : Hid (RS c _ i vt vp s bud) := H0
 have HV : Hid (VAt _ w1.heap.size 42 _ ∧ ¬ d3 c.g vt vp w1.heap.size) := ⟨V0, hV⟩
 clear CN G G0 H0 HI HB hV V0
 go_wp2_with fail
 refine CX.mono ?_
 rintro e w2 ⟨rfl, G⟩
 have p0 := (HV.out.1.kept G).cell 0
 have p2 := (HV.out.1.kept G).cell 2
 have HG : Hid (World.grownBy _ w2 none) := G
 have CT := HT.out w2
 clear CX G
 go_wp2_with fail
 refine CT.mono ?_
 rintro e w3 ⟨rfl, G⟩
 have HG2 : Hid (World.grownBy _ w3 none) := d5 HG.out G
 have HC := HN.out w3 (HY.out.keep HG2.out)
 have HX : Hid (∀ x, ∀ w4, c8 c w3 vt vp x bud w4 → c8 c w vt vp x bud w4) := fun x w4 R2 => HH.out x w4 (c8.of (GB.non HG2.out) (fun _ _ k => k) R2)
 have HV2 : Hid (VAt w3 w1.heap.size 42 _) := HV.out.1.kept HG2.out
 clear CT G HG HN HY HH p0 p2
 go_wp2_with fail
 refine HC.mono ?_
 rintro e w4 ⟨rfl, i1, vt1, vp1, R, G, hf⟩
 have p1 := (G.vat HV2.out HV.out.2).cell 1
 have p2 := (G.vat HV2.out HV.out.2).cell 2
 have HX2 : Hid (∀ x, ∀ w5, c8 c w4 vt1 vp1 x bud w5 → c8 c w vt vp x bud w5) := fun x w5 R2 => HX.out x w5 (c8.of G hf R2)
 have HR4 : Hid (RS c w4 i1 vt1 vp1 s1 (bud + 1) ∧ VAt w4 w1.heap.size 42 _) := ⟨R, G.vat HV2.out HV.out.2⟩
 clear HC HX G hf R HV HV2 HG2
 go_upto_region 14 with fail
 go_region_law (first
  | (go_simp; go_at_call 43; refine (HT.out _).mono ?_; rintro e w5 ⟨rfl, G5'⟩; have G5 : w4.grownBy w5 none := d5 (f8 w4 1 none) G5'; have p1b := (HR4.out.2.kept G5).cell 1; have HG5 : Hid (w4.grownBy w5 none) := G5; clear G5 G5')
  | (go_simp; go_at_call 44; refine (HRr.out _ i1 vt1 vp1 (HR4.out.1.keep HG5.out)).mono ?_; rintro e w6 ⟨rfl, R2⟩; have HR := HX2.out _ w6 (c8.of (GB.non HG5.out) (fun _ _ k => k) R2); clear R2))
 all_goals (go_wp2; exact bodyPost_end (results_none rfl _ _ _) rfl ⟨rfl, HR⟩)
theorem aa1 (hs : I9 c) (h : RS c w i vt vp s bud) (hb : s.is [40] = false) (hk2 : s.now.kind = 2) (hn : l9 s.now.text = 0) :
  d4 c 24 #[.pointer (some ⟨c.g, 0, none⟩)] w vt vp s.word bud := by
 have CN := E6 h
 have HB : Hid (∀ w1, w.grownBy w1 none → RS c (w1.alloc (.cells (tkC s.now) 42)) i vt vp s bud ∧ VAt (w1.alloc (.cells (tkC s.now) 42)) w1.heap.size 42 (tkC s.now) ∧ ¬ d3 c.g vt vp w1.heap.size ∧ w.grownBy (w1.alloc (.cells (tkC s.now) 42)) none) := a0m h s.now
 have HI : Hid (∀ W, RS c W i vt vp s bud → Calls Tryz.prog 21 #[.pointer (some ⟨c.g, 0, none⟩), str [40]] W fun e w' => e = .returned (.bool false) ∧ W.grownBy w' none) := fun W H => by have := a0U H [40]; rw [hb] at this; exact this
 have HN : Hid (∀ (W : World), RS c W i vt vp s bud → d4 c 45 #[.pointer (some ⟨c.g, 0, none⟩), .agg (tkC s.now)] W vt vp s.word bud) := fun W H => ad1 hs H (X6 (by omega)).1 (X6 (by omega)).2
 have HT : Hid (∀ W : World, Calls Tryz.prog 43 #[str s.now.text] W fun e w' => e = .returned (.int .i64 (l9 s.now.text : Int)) ∧ W.grownBy w' none) := fun W => a55 s.now.text W
 rw [hn] at HT
 generalize s.now = t at *
 generalize s.word = s2 at *
 obtain ⟨tk, tp, tx, tn⟩ := t
 simp only at hk2 hn
 subst hk2
 unfold tkC at *
 simp only at *
 unfold d4 at *
 clear h hb hn hs
 go_enter Tryz.func24, Tryz.ntmps24
 go_wp2_with fail
 refine CN.mono ?_
 rintro e w1 ⟨rfl, G⟩
 obtain ⟨H0, V0, hV, G0⟩ := HB.out w1 G
 have HH : Hid (∀ x w2, c8 c _ vt vp x bud w2 → c8 c w vt vp x bud w2) := fun x w2 R2 => c8.of (GB.non G0) (fun x hx k => k) R2
 have CX := HI.out _ H0
 have p0 := V0.cell 0
 have HY : Hid (RS c _ i vt vp s bud) := H0
 have HV : Hid (VAt _ w1.heap.size 42 _ ∧ ¬ d3 c.g vt vp w1.heap.size) := ⟨V0, hV⟩
 clear CN G G0 H0 HI HB hV V0
 go_wp2_with fail
 refine CX.mono ?_
 rintro e w2 ⟨rfl, G⟩
 have p0 := (HV.out.1.kept G).cell 0
 have p2 := (HV.out.1.kept G).cell 2
 have HG : Hid (World.grownBy _ w2 none) := G
 have CT := HT.out w2
 clear CX G
 go_wp2_with fail
 refine CT.mono ?_
 rintro e w3 ⟨rfl, G⟩
 have HG2 : Hid (World.grownBy _ w3 none) := d5 HG.out G
 have HC := HN.out w3 (HY.out.keep HG2.out)
 have HX : Hid (∀ x, ∀ w4, c8 c w3 vt vp x bud w4 → c8 c w vt vp x bud w4) := fun x w4 R2 => HH.out x w4 (c8.of (GB.non HG2.out) (fun _ _ k => k) R2)
 have q0 := (HV.out.1.kept HG2.out).cell 0
 have q1 := (HV.out.1.kept HG2.out).cell 1
 have q2 := (HV.out.1.kept HG2.out).cell 2
 have q3 := (HV.out.1.kept HG2.out).cell 3
 clear CT G HG HN HY HH p0 p2 HV HG2 HT
 go_wp2_with fail
 refine HC.mono ?_
 rintro e w4 ⟨rfl, R2⟩
 have HR := HX.out _ w4 R2
 clear HX R2 HC q0 q1 q2 q3
 go_wp2
 exact bodyPost_end (results_none rfl _ _ _) rfl ⟨rfl, HR⟩
end

end Go.Proofs.YtlfmddjppejmaaaGreatDoor
