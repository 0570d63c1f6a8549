import Derived.Test.YtlfmddjppejmaaaGreatDoorqLotQ28
import Derived.Test.YtlfmddjppejmaaaGreatDoorqRfQ2
import Derived.Test.YtlfmddjppejmaaaGreatDoorqLotQ17
set_option maxHeartbeats 64000000
set_option maxRecDepth 100000
namespace Go.Proofs.YtlfmddjppejmaaaGreatDoor
open Go.RowKit
def msrR (c : PC) (W : World) : Nat := c.all.length - (match W.cell? ⟨c.g, 1, none⟩ with
 | some (.int _ z) => z.toNat
 | _ => 0)
def S5 (c : PC) (W : World) (va vb : Value) (tb nb : Nat) (tc Y : Array Value) : Prop := VAt W tb 42 tc ∧ VAt W nb 54 Y ∧ ¬ d3 c.g va vb tb ∧ ¬ d3 c.g va vb nb
theorem S5.step {c : PC} {W W' : World} {va vb va' vb' : Value} {tb nb : Nat} {tc Y : Array Value} (h : S5 c W va vb tb nb tc Y) (G : GB W W' (d3 c.g va vb)) (hf : ∀ x, x < W.heap.size → d3 c.g va' vb' x → d3 c.g va vb x) : S5 c W' va' vb' tb nb tc Y :=
 ⟨G.vat h.1 h.2.2.1, G.vat h.2.1 h.2.2.2, fun k => h.2.2.1 (hf _ h.1.lt k), fun k => h.2.2.2 (hf _ h.2.1.lt k)⟩

section
variable {c : PC} {w : World} {i bud : Nat} {vt vp : Value} {s : Rt}
theorem RT.msrR {pl : Int} (h : RT c w i vt vp s bud pl) : msrR c w = s.ts.length := by
 have c1 : w.cell? ⟨c.g, 1, none⟩ = some (.int .i64 (i : Int)) := h.mem.blk.cell 1
 unfold Go.Proofs.YtlfmddjppejmaaaGreatDoor.msrR
 rw [c1, ← h.drop, List.length_drop]
 rfl
theorem a4s {rec : Rt → Rt} {k : Nat} (f : Nat) (h : ¬ (s.er = none ∧ (s.now.kind = 5 ∨ s.now.kind = 2))) : s.loop rec k f = s := by
 cases f with
 | zero => rfl
 | succ f => rw [Rt.loop, if_neg h]
theorem a4r {rec : Rt → Rt} {k : Nat} (f : Nat) (h : l0 k s.now.text = none) : s.loop rec k f = s := by
 cases f with
 | zero => rfl
 | succ f =>
  rw [Rt.loop, h]
  split <;> rfl
theorem a4q {rec : Rt → Rt} {k : Nat} (f : Nat) {n : Nd} (he : s.er = none) (hk : s.now.kind = 5 ∨ s.now.kind = 2) (h : l0 k s.now.text = some n) :
  s.loop rec k (f + 1) = if k = 4 then (rec s.next).lay n s.now.pos else Rt.loop rec k f ((rec s.next).lay n s.now.pos) := by
 rw [Rt.loop, if_pos ⟨he, hk⟩, h]
structure Rnd (c : PC) (w : World) (vt vp : Value) (rec : Rt → Rt) (k g n0 bud : Nat) (ans q : Rt) (wr : World) : Prop where
 says : q.loop rec k g = ans
 ret : c8 c w vt vp q bud wr
 le : q.ts.length ≤ g
 top : g ≤ n0
theorem aa3 (f : Nat) (hC : a17 c f) (k : Nat) (hk : a1v k) (h : RS c w i vt vp s bud) (he : s.er = none) (hf : D4 k s.ts ≤ f + 1) :
  d4 c 12 #[.pointer (some ⟨c.g, 0, none⟩), .int .i64 (k : Int)] w vt vp ((Rt.row f (k + 1) s).loop (Rt.row f (k + 1)) k (Rt.row f (k + 1) s).ts.length) bud := by
 have c5 : w.cell? ⟨c.g, 5, none⟩ = some (.int .i64 (erC s)) := h.mem.blk.cell 5
 rw [L3 he] at c5
 have CN := E6 h
 have HG := fun k p x n W => (o8 k p x n W).2.1
 have hk10 : 1 ≤ k ∧ k ≤ 10 ∧ k ≠ 3 := by unfold a1v at hk; omega
 have e3 : ((k : Int) == 3) = false := by simp only [beq_eq_false_iff_ne]; omega
 have e11 : ((k : Int) == 11) = false := by simp only [beq_eq_false_iff_ne]; omega
 have e12 : ((k : Int) == 12) = false := by simp only [beq_eq_false_iff_ne]; omega
 have ew : IntKind.i64.wrap ((k : Int) + 1) = (k : Int) + 1 := by rw [IntKind.wrap_i64]; omega
 unfold D4 at hf
 have HREC : Hid (∀ (q : Rt) (W : World) (i1 : Nat) (va vb : Value) (bd : Nat), RS c W i1 va vb q bd → q.ts.length ≤ s.ts.length → d4 c 12 #[.pointer (some ⟨c.g, 0, none⟩), .int .i64 ((k : Int) + 1)] W va vb (Rt.row f (k + 1) q) bd) := fun q W i1 va vb bd H hq => hC (k + 1) W i1 va vb q bd (by omega) (by omega) H (fun _ => by unfold D4; omega)
 have HRK : Hid (∀ q : Rt, (Rt.row f (k + 1) q).ts.length ≤ q.ts.length) := fun q => (Rk.row f (k + 1) q).len
 have HBI : Hid (∀ (x : List UInt8) (W : World), Calls Tryz.prog 26 #[.int .i64 (k : Int), str x] W fun e w' => ∃ n : Nd, e = .returned (.tuple #[.agg n.cells.toArray, .bool (l0 k x).isSome]) ∧ (∀ b, l0 k x = some b → n = b) ∧ W.grownBy w' none) := fun x W => a93 k hk x W
 have HY0 : Hid (RS c w i vt vp s bud) := h
 obtain ⟨b4, e4⟩ : ∃ b, ((k : Int) == 4) = b := ⟨_, rfl⟩
 have HK4 : Hid ((b4 = true → k = 4) ∧ (b4 = false → k ≠ 4)) := by
  rw [← e4]
  exact ⟨fun x => by simp only [beq_iff_eq] at x; omega, fun x => by simp only [beq_eq_false_iff_ne] at x; omega⟩
 obtain ⟨rec, hrec⟩ : ∃ rec, Rt.row f (k + 1) = rec := ⟨_, rfl⟩
 rw [hrec]
 rw [hrec] at HREC HRK
 obtain ⟨n0, hn0⟩ : ∃ n, s.ts.length = n := ⟨_, rfl⟩
 rw [hn0] at HREC
 have HN0 : Hid (s.ts.length = n0) := hn0
 obtain ⟨ans, hans⟩ : ∃ a, (rec s).loop rec k (rec s).ts.length = a := ⟨_, rfl⟩
 rw [hans]
 have HANS : Hid ((rec s).loop rec k (rec s).ts.length = ans) := hans
 generalize s.now = t at CN
 obtain ⟨tk, tp, tx, tn⟩ := t
 unfold tkC at CN
 simp only at CN
 unfold d4 at *
 clear h he hf hC hk hk10 hans hrec hn0
 go_enter Tryz.func12, Tryz.ntmps12
 go_wp2_with fail
 refine CN.mono ?_
 rintro e w1 ⟨rfl, G⟩
 have HY1 : Hid (RS c w1 i vt vp s bud) := HY0.out.keep G
 have HX1 : Hid (w.grownBy w1 none) := G
 have HC1 := HREC.out s _ _ _ _ _ HY1.out (Nat.le_of_eq HN0.out)
 clear CN c5 G HY0
 go_wp2_with fail
 refine HC1.mono ?_
 rintro e w2 ⟨rfl, R⟩
 have HR2 : Hid (Rnd c w vt vp rec k (rec s).ts.length n0 bud ans (rec s) w2) := ⟨HANS.out, c8.of (GB.non HX1.out) (fun _ _ k => k) R, Nat.le_refl _, by rw [← HN0.out]; exact HRK.out s⟩
 clear HC1 R HX1 HY1 HANS HN0
 clear HG
 go_wp2
 go_loopw [] (fun wr => ∃ (g : Nat) (q : Rt), Hid (Rnd c w vt vp rec k g n0 bud ans q wr)) (fun wr => msrR c wr)
 case atStart => exact ⟨_, _, HR2⟩
 case round =>
  clear HR2
  obtain ⟨g, q, HQ⟩ := hrel
  obtain ⟨i2, va, vb, H2, G2, F2⟩ := HQ.out.ret
  have c5 : wr.cell? ⟨c.g, 5, none⟩ = some (.int .i64 (erC q)) := H2.mem.blk.cell 5
  cases he2 : q.er with
  | some x =>
   have hn := H2.erC_ne he2
   have HA : Hid (c8 c w vt vp ans bud wr) := by
    show c8 c w vt vp ans bud wr
    rw [← HQ.out.says, a4s g (by rw [he2]; simp)]
    exact HQ.out.ret
   generalize erC q = ec at *
   clear H2 G2 F2 he2 HQ HREC HRK HBI HK4
   go_wp2
   exact bodyPost_end (results_none rfl _ _ _) rfl ⟨rfl, HA.out⟩
  | none =>
   rw [L3 he2] at c5
   have CK5 := a32 H2 5
   have HK2 : Hid (∀ W, wr.grownBy W none → Calls Tryz.prog 25 #[.pointer (some ⟨c.g, 0, none⟩), .int .i64 2] W fun e w' => e = .returned (.bool (q.kind 2)) ∧ W.grownBy w' none) := fun W G => a32 (H2.keep G) 2
   have HE2 : Hid (q.er = none ∧ q.ts ≠ []) := ⟨he2, H2.good.ne⟩
   have HGF : Hid (RS c wr i2 va vb q bud ∧ GB w wr (d3 c.g vt vp) ∧ ∀ x, x < w.heap.size → d3 c.g va vb x → d3 c.g vt vp x) := ⟨H2, G2, F2⟩
   have HM : Hid (msrR c wr = q.ts.length) := H2.msrR
   clear H2 G2 F2
   cases k5 : q.kind 5 with
   | true =>
    have HKD : Hid (q.now.kind = 5 ∨ q.now.kind = 2) := .inl (by have h1 := k5; rw [a0j he2] at h1; rw [E9 he2]; simpa using h1)
    have HF2 : Hid (∀ x, x < w.heap.size → d3 c.g va vb x → d3 c.g vt vp x) := HGF.out.2.2
    rw [k5] at CK5
    clear HK2 k5 he2
    go_wp2_with fail
    refine CK5.mono ?_
    rintro e w3 ⟨rfl, GK⟩
    clear CK5 c5
    have HYb : Hid (RS c w3 i2 va vb q bud) := HGF.out.1.keep GK
    have HGb : Hid (GB w w3 (d3 c.g vt vp)) := HGF.out.2.1.trans (GB.non (S := d3 c.g vt vp) GK) (fun _ _ h => h)
    have CNq := E6 HYb.out
    have HB : Hid (∀ w1, w3.grownBy w1 none → RS c (w1.alloc (.cells (tkC q.now) 42)) i2 va vb q bud ∧ VAt (w1.alloc (.cells (tkC q.now) 42)) w1.heap.size 42 (tkC q.now) ∧ ¬ d3 c.g va vb w1.heap.size ∧ w3.grownBy (w1.alloc (.cells (tkC q.now) 42)) none) := a0m HYb.out q.now
    have HBq := HBI.out q.now.text
    have HK : Hid (q.er = none → (hdT q.ts).kind ≠ 0) := fun x => by have := HKD.out; rw [E9 x] at this; omega
    cases hb : l0 k q.now.text with
    | none =>
     have HA : Hid (q = ans) := by show q = ans; rw [← HQ.out.says]; exact (a4r g hb).symm
     rw [hb] at HBq
     generalize q.now = t at *
     obtain ⟨tk, tp, tx, tn⟩ := t
     unfold tkC at *
     simp only at *
     clear hb HKD HQ HE2 HGF
     go_wp2_with fail
     refine CNq.mono ?_
     rintro e w4 ⟨rfl, G4⟩
     obtain ⟨H0, V0, hV, G0⟩ := HB.out w4 G4
     have p2 := V0.cell 2
     have CB := HBq (w4.alloc (.cells #[.int .i64 (tk : Int), .int .i64 (tp : Int), str tx, .int .u32 (tn : Int)] 42))
     have HV0 : Hid (RS c (w4.alloc (.cells #[.int .i64 (tk : Int), .int .i64 (tp : Int), str tx, .int .u32 (tn : Int)] 42)) i2 va vb q bud ∧ VAt (w4.alloc (.cells #[.int .i64 (tk : Int), .int .i64 (tp : Int), str tx, .int .u32 (tn : Int)] 42)) w4.heap.size 42 #[.int .i64 (tk : Int), .int .i64 (tp : Int), str tx, .int .u32 (tn : Int)] ∧ ¬ d3 c.g va vb w4.heap.size ∧ w3.grownBy (w4.alloc (.cells #[.int .i64 (tk : Int), .int .i64 (tp : Int), str tx, .int .u32 (tn : Int)] 42)) none) := ⟨H0, V0, hV, G0⟩
     clear CNq H0 V0 hV G0 G4 HB
     go_wp2_with fail
     refine CB.mono ?_
     rintro e w5 ⟨n, rfl, hn, G5⟩
     obtain ⟨Y, hY⟩ : ∃ Y, n.cells.toArray = Y := ⟨_, rfl⟩
     have HZ : Hid ((Tryz.prog.info? 54).map (·.size) = some Y.size ∧ 24 = Y.size ∧ Y.all (·.oneCell') = true) := by rw [← hY]; exact ⟨g8 _, rfl, j3 _⟩
     have H5 := HV0.out.1.keep G5
     have G6 := World.grownBy_alloc w5 (.cells Y 54) none
     have HT : Hid (S5 c (w5.alloc (.cells Y 54)) va vb w4.heap.size w5.heap.size #[.int .i64 (tk : Int), .int .i64 (tp : Int), str tx, .int .u32 (tn : Int)] Y ∧ RS c (w5.alloc (.cells Y 54)) i2 va vb q bud ∧ w3.grownBy (w5.alloc (.cells Y 54)) none) := ⟨⟨(HV0.out.2.1.kept G5).kept G6, VAt.alloc w5 _ Y, HV0.out.2.2.1, fun hf => by have := H5.mem.lt hf; omega⟩, H5.keep G6, d5 (d5 HV0.out.2.2.2 G5) G6⟩
     rw [hY]
     clear CB HV0 hn hY G5 G6 H5 p2
     go_upto_region 20 with (refine wpList_store_row rfl 54 (.tmp 6) (.tmp 104) rfl w5.heap.size Y rfl rfl 54 _ (heap_alloc_new w5 _) HZ.out.1 HZ.out.2.1 HZ.out.2.2 ?_)
     rw [World.setRow_alloc_new]
     generalize w5.alloc (.cells Y 54) = w6 at *
     generalize w5.heap.size = nb at *
     generalize w4.heap.size = tb at *
     have HR : Hid (c8 c w vt vp ans bud w6) := by
      rw [← HA.out]
      exact ⟨i2, va, vb, HT.out.2.1, HGb.out.trans (GB.non (S := d3 c.g vt vp) HT.out.2.2) (fun _ _ h => h), HF2.out⟩
     clear HA HT HGb HYb
     go_wp2
     exact bodyPost_ret (results_none rfl _ _ _) rfl ⟨rfl, HR.out⟩
    | some nd =>
     have hg := List.length_pos_iff.2 HE2.out.2
     obtain ⟨g, rfl⟩ : ∃ m, g = m + 1 := ⟨g - 1, by have := HQ.out.le; omega⟩
     have HA : Hid ((if k = 4 then (rec q.next).lay nd q.now.pos else Rt.loop rec k g ((rec q.next).lay nd q.now.pos)) = ans) := by rw [← HQ.out.says]; exact (a4q g HE2.out.1 HKD.out hb).symm
     have HLT : Hid ((rec q.next).ts.length < q.ts.length ∧ q.next.ts.length ≤ n0 ∧ (rec q.next).ts.length ≤ g ∧ g ≤ n0) := by
      have h1 := HRK.out q.next
      rw [x8 HE2.out.1] at h1 ⊢
      have h2 : q.ts.tail.length = q.ts.length - 1 := List.length_tail
      have h3 := HQ.out.le
      have h4 := HQ.out.top
      simp only at h1 ⊢
      exact ⟨by omega, by omega, by omega, by omega⟩
     rw [hb] at HBq
     generalize q.now = t at *
     obtain ⟨tk, tp, tx, tn⟩ := t
     unfold tkC at *
     simp only at *
     clear hb HKD HQ HE2 HGF
     go_wp2_with fail
     refine CNq.mono ?_
     rintro e w4 ⟨rfl, G4⟩
     obtain ⟨H0, V0, hV, G0⟩ := HB.out w4 G4
     have p2 := V0.cell 2
     have CB := HBq (w4.alloc (.cells #[.int .i64 (tk : Int), .int .i64 (tp : Int), str tx, .int .u32 (tn : Int)] 42))
     have HV0 : Hid (RS c (w4.alloc (.cells #[.int .i64 (tk : Int), .int .i64 (tp : Int), str tx, .int .u32 (tn : Int)] 42)) i2 va vb q bud ∧ VAt (w4.alloc (.cells #[.int .i64 (tk : Int), .int .i64 (tp : Int), str tx, .int .u32 (tn : Int)] 42)) w4.heap.size 42 #[.int .i64 (tk : Int), .int .i64 (tp : Int), str tx, .int .u32 (tn : Int)] ∧ ¬ d3 c.g va vb w4.heap.size ∧ w3.grownBy (w4.alloc (.cells #[.int .i64 (tk : Int), .int .i64 (tp : Int), str tx, .int .u32 (tn : Int)] 42)) none) := ⟨H0, V0, hV, G0⟩
     clear CNq H0 V0 hV G0 G4 HB
     go_wp2_with fail
     refine CB.mono ?_
     rintro e w5 ⟨n, rfl, hn, G5⟩
     obtain ⟨Y, hY⟩ : ∃ Y, n.cells.toArray = Y := ⟨_, rfl⟩
     have HZ : Hid ((Tryz.prog.info? 54).map (·.size) = some Y.size ∧ 24 = Y.size ∧ Y.all (·.oneCell') = true) := by rw [← hY]; exact ⟨g8 _, rfl, j3 _⟩
     have HNY : Hid (nd.cells.toArray = Y) := by rw [← hn nd rfl]; exact hY
     have H5 := HV0.out.1.keep G5
     have G6 := World.grownBy_alloc w5 (.cells Y 54) none
     have HT : Hid (S5 c (w5.alloc (.cells Y 54)) va vb w4.heap.size w5.heap.size #[.int .i64 (tk : Int), .int .i64 (tp : Int), str tx, .int .u32 (tn : Int)] Y ∧ RS c (w5.alloc (.cells Y 54)) i2 va vb q bud ∧ w3.grownBy (w5.alloc (.cells Y 54)) none) := ⟨⟨(HV0.out.2.1.kept G5).kept G6, VAt.alloc w5 _ Y, HV0.out.2.2.1, fun hf => by have := H5.mem.lt hf; omega⟩, H5.keep G6, d5 (d5 HV0.out.2.2.2 G5) G6⟩
     rw [hY]
     clear CB HV0 hn hY G5 G6 H5 p2
     go_upto_region 20 with (refine wpList_store_row rfl 54 (.tmp 6) (.tmp 104) rfl w5.heap.size Y rfl rfl 54 _ (heap_alloc_new w5 _) HZ.out.1 HZ.out.2.1 HZ.out.2.2 ?_)
     rw [World.setRow_alloc_new]
     generalize w5.alloc (.cells Y 54) = w6 at *
     generalize w5.heap.size = nb at *
     generalize w4.heap.size = tb at *
     have HX6 : Hid (∀ x z, c8 c w6 va vb x bud z → c8 c w vt vp x bud z) := fun x z R2 => c8.of (HGb.out.trans (GB.non (S := d3 c.g vt vp) HT.out.2.2) (fun _ _ h => h)) HF2.out R2
     have HT6 : Hid (S5 c w6 va vb tb nb #[.int .i64 (tk : Int), .int .i64 (tp : Int), str tx, .int .u32 (tn : Int)] Y) := HT.out.1
     have CX := q8 HT.out.2.1 HK.out
     clear HT HGb HYb HK HBq
     go_wp2_with fail
     refine CX.mono ?_
     rintro e w7 ⟨rfl, i7, v7, u7, R7, G7, F7⟩
     have HT7 : Hid (S5 c w7 v7 u7 tb nb #[.int .i64 (tk : Int), .int .i64 (tp : Int), str tx, .int .u32 (tn : Int)] Y) := HT6.out.step G7 F7
     have HX7 : Hid (∀ x z, c8 c w7 v7 u7 x bud z → c8 c w vt vp x bud z) := fun x z R2 => HX6.out x z (c8.of G7 F7 R2)
     have CR := HREC.out q.next w7 i7 v7 u7 _ R7 HLT.out.2.1
     clear CX HT6 HX6 R7 G7 F7
     go_wp2_with fail
     refine CR.mono ?_
     rintro e w8 ⟨rfl, i8, v8, u8, R8, G8, F8⟩
     have HT8 : Hid (S5 c w8 v8 u8 tb nb #[.int .i64 (tk : Int), .int .i64 (tp : Int), str tx, .int .u32 (tn : Int)] Y) := HT7.out.step G8 F8
     have HX8 : Hid (∀ x z, c8 c w8 v8 u8 x bud z → c8 c w vt vp x bud z) := fun x z R2 => HX7.out x z (c8.of G8 F8 R2)
     have CL := B9 R8 nd tp
     rw [show nd.cells.toArray = Y from HNY.out] at CL
     have p1 := HT8.out.1.cell 1
     have VY := HT8.out.2.1
     clear CR HT7 HX7 R8 G8 F8 HNY
     go_wp2_with (refine wpList_load_row rfl 54 (.tmp 6) rfl nb rfl 54 Y (0, 0) _ VY Tryz.underlying54 rfl HZ.out.1 ?_)
     refine CL.mono ?_
     rintro e w9 ⟨rfl, R9⟩
     have HR9 : Hid (c8 c w vt vp ((rec q.next).lay nd tp) bud w9) := HX8.out _ _ R9
     clear CL R9 HX8 HT8 p1 VY
     cases b4 with
     | true =>
      have HR : Hid (c8 c w vt vp ans bud w9) := by have h1 := HA.out; rw [if_pos (HK4.out.1 rfl)] at h1; rw [← h1]; exact HR9.out
      clear HA HR9 HK4 HLT HM
      go_wp2
      exact bodyPost_ret (results_none rfl _ _ _) rfl ⟨rfl, HR.out⟩
     | false =>
      have HRn : Hid (Rnd c w vt vp rec k g n0 bud ans ((rec q.next).lay nd tp) w9) := ⟨by have h1 := HA.out; rw [if_neg (HK4.out.2 rfl)] at h1; exact h1, HR9.out, by have := HLT.out.2.2.1; have := (Rk.lay (rec q.next) nd tp).len; omega, HLT.out.2.2.2⟩
      have HM2 : Hid (msrR c w9 < q.ts.length) := by
       obtain ⟨i9, v9, u9, R9, -, -⟩ := HRn.out.ret
       rw [R9.msrR]
       have := HLT.out.1
       have h9 := (Rk.lay (rec q.next) nd tp).len
       show ((rec q.next).lay nd tp).ts.length < q.ts.length
       omega
      clear HA HR9 HK4 HLT
      go_wp2
      go_roundw
      case rel => exact ⟨g, _, HRn⟩
      case measure => have h1 := HM.out; have h2 := HM2.out; omega
   | false =>
    rw [k5] at CK5
    have HF2 : Hid (∀ x, x < w.heap.size → d3 c.g va vb x → d3 c.g vt vp x) := HGF.out.2.2
    cases k2 : q.kind 2 with
    | true =>
     have HKD : Hid (q.now.kind = 5 ∨ q.now.kind = 2) := .inr (by have h1 := k2; rw [a0j he2] at h1; rw [E9 he2]; simpa using h1)
     rw [k2] at HK2
     clear k5 k2 he2
     go_wp2_with fail
     refine CK5.mono ?_
     rintro e w3 ⟨rfl, G3⟩
     have CK2 := HK2.out w3 G3
     have HG3 : Hid (wr.grownBy w3 none) := G3
     clear CK5 c5 HK2 G3
     go_wp2_with fail
     refine CK2.mono ?_
     rintro e w3b ⟨rfl, G3b⟩
     have GK := d5 HG3.out G3b
     clear CK2 G3b HG3
     have HYb : Hid (RS c w3b i2 va vb q bud) := HGF.out.1.keep GK
     have HGb : Hid (GB w w3b (d3 c.g vt vp)) := HGF.out.2.1.trans (GB.non (S := d3 c.g vt vp) GK) (fun _ _ h => h)
     have CNq := E6 HYb.out
     have HB : Hid (∀ w1, w3b.grownBy w1 none → RS c (w1.alloc (.cells (tkC q.now) 42)) i2 va vb q bud ∧ VAt (w1.alloc (.cells (tkC q.now) 42)) w1.heap.size 42 (tkC q.now) ∧ ¬ d3 c.g va vb w1.heap.size ∧ w3b.grownBy (w1.alloc (.cells (tkC q.now) 42)) none) := a0m HYb.out q.now
     have HBq := HBI.out q.now.text
     have HK : Hid (q.er = none → (hdT q.ts).kind ≠ 0) := fun x => by have := HKD.out; rw [E9 x] at this; omega
     cases hb : l0 k q.now.text with
     | none =>
      have HA : Hid (q = ans) := by show q = ans; rw [← HQ.out.says]; exact (a4r g hb).symm
      rw [hb] at HBq
      generalize q.now = t at *
      obtain ⟨tk, tp, tx, tn⟩ := t
      unfold tkC at *
      simp only at *
      clear hb HKD HQ HE2 HGF
      go_wp2_with fail
      refine CNq.mono ?_
      rintro e w4 ⟨rfl, G4⟩
      obtain ⟨H0, V0, hV, G0⟩ := HB.out w4 G4
      have p2 := V0.cell 2
      have CB := HBq (w4.alloc (.cells #[.int .i64 (tk : Int), .int .i64 (tp : Int), str tx, .int .u32 (tn : Int)] 42))
      have HV0 : Hid (RS c (w4.alloc (.cells #[.int .i64 (tk : Int), .int .i64 (tp : Int), str tx, .int .u32 (tn : Int)] 42)) i2 va vb q bud ∧ VAt (w4.alloc (.cells #[.int .i64 (tk : Int), .int .i64 (tp : Int), str tx, .int .u32 (tn : Int)] 42)) w4.heap.size 42 #[.int .i64 (tk : Int), .int .i64 (tp : Int), str tx, .int .u32 (tn : Int)] ∧ ¬ d3 c.g va vb w4.heap.size ∧ w3b.grownBy (w4.alloc (.cells #[.int .i64 (tk : Int), .int .i64 (tp : Int), str tx, .int .u32 (tn : Int)] 42)) none) := ⟨H0, V0, hV, G0⟩
      clear CNq H0 V0 hV G0 G4 HB
      go_wp2_with fail
      refine CB.mono ?_
      rintro e w5 ⟨n, rfl, hn, G5⟩
      obtain ⟨Y, hY⟩ : ∃ Y, n.cells.toArray = Y := ⟨_, rfl⟩
      have HZ : Hid ((Tryz.prog.info? 54).map (·.size) = some Y.size ∧ 24 = Y.size ∧ Y.all (·.oneCell') = true) := by rw [← hY]; exact ⟨g8 _, rfl, j3 _⟩
      have H5 := HV0.out.1.keep G5
      have G6 := World.grownBy_alloc w5 (.cells Y 54) none
      have HT : Hid (S5 c (w5.alloc (.cells Y 54)) va vb w4.heap.size w5.heap.size #[.int .i64 (tk : Int), .int .i64 (tp : Int), str tx, .int .u32 (tn : Int)] Y ∧ RS c (w5.alloc (.cells Y 54)) i2 va vb q bud ∧ w3b.grownBy (w5.alloc (.cells Y 54)) none) := ⟨⟨(HV0.out.2.1.kept G5).kept G6, VAt.alloc w5 _ Y, HV0.out.2.2.1, fun hf => by have := H5.mem.lt hf; omega⟩, H5.keep G6, d5 (d5 HV0.out.2.2.2 G5) G6⟩
      rw [hY]
      clear CB HV0 hn hY G5 G6 H5 p2
      go_upto_region 20 with (refine wpList_store_row rfl 54 (.tmp 6) (.tmp 104) rfl w5.heap.size Y rfl rfl 54 _ (heap_alloc_new w5 _) HZ.out.1 HZ.out.2.1 HZ.out.2.2 ?_)
      rw [World.setRow_alloc_new]
      generalize w5.alloc (.cells Y 54) = w6 at *
      generalize w5.heap.size = nb at *
      generalize w4.heap.size = tb at *
      have HR : Hid (c8 c w vt vp ans bud w6) := by
       rw [← HA.out]
       exact ⟨i2, va, vb, HT.out.2.1, HGb.out.trans (GB.non (S := d3 c.g vt vp) HT.out.2.2) (fun _ _ h => h), HF2.out⟩
      clear HA HT HGb HYb
      go_wp2
      exact bodyPost_ret (results_none rfl _ _ _) rfl ⟨rfl, HR.out⟩
     | some nd =>
      have hg := List.length_pos_iff.2 HE2.out.2
      obtain ⟨g, rfl⟩ : ∃ m, g = m + 1 := ⟨g - 1, by have := HQ.out.le; omega⟩
      have HA : Hid ((if k = 4 then (rec q.next).lay nd q.now.pos else Rt.loop rec k g ((rec q.next).lay nd q.now.pos)) = ans) := by rw [← HQ.out.says]; exact (a4q g HE2.out.1 HKD.out hb).symm
      have HLT : Hid ((rec q.next).ts.length < q.ts.length ∧ q.next.ts.length ≤ n0 ∧ (rec q.next).ts.length ≤ g ∧ g ≤ n0) := by
       have h1 := HRK.out q.next
       rw [x8 HE2.out.1] at h1 ⊢
       have h2 : q.ts.tail.length = q.ts.length - 1 := List.length_tail
       have h3 := HQ.out.le
       have h4 := HQ.out.top
       simp only at h1 ⊢
       exact ⟨by omega, by omega, by omega, by omega⟩
      rw [hb] at HBq
      generalize q.now = t at *
      obtain ⟨tk, tp, tx, tn⟩ := t
      unfold tkC at *
      simp only at *
      clear hb HKD HQ HE2 HGF
      go_wp2_with fail
      refine CNq.mono ?_
      rintro e w4 ⟨rfl, G4⟩
      obtain ⟨H0, V0, hV, G0⟩ := HB.out w4 G4
      have p2 := V0.cell 2
      have CB := HBq (w4.alloc (.cells #[.int .i64 (tk : Int), .int .i64 (tp : Int), str tx, .int .u32 (tn : Int)] 42))
      have HV0 : Hid (RS c (w4.alloc (.cells #[.int .i64 (tk : Int), .int .i64 (tp : Int), str tx, .int .u32 (tn : Int)] 42)) i2 va vb q bud ∧ VAt (w4.alloc (.cells #[.int .i64 (tk : Int), .int .i64 (tp : Int), str tx, .int .u32 (tn : Int)] 42)) w4.heap.size 42 #[.int .i64 (tk : Int), .int .i64 (tp : Int), str tx, .int .u32 (tn : Int)] ∧ ¬ d3 c.g va vb w4.heap.size ∧ w3b.grownBy (w4.alloc (.cells #[.int .i64 (tk : Int), .int .i64 (tp : Int), str tx, .int .u32 (tn : Int)] 42)) none) := ⟨H0, V0, hV, G0⟩
      clear CNq H0 V0 hV G0 G4 HB
      go_wp2_with fail
      refine CB.mono ?_
      rintro e w5 ⟨n, rfl, hn, G5⟩
      obtain ⟨Y, hY⟩ : ∃ Y, n.cells.toArray = Y := ⟨_, rfl⟩
      have HZ : Hid ((Tryz.prog.info? 54).map (·.size) = some Y.size ∧ 24 = Y.size ∧ Y.all (·.oneCell') = true) := by rw [← hY]; exact ⟨g8 _, rfl, j3 _⟩
      have HNY : Hid (nd.cells.toArray = Y) := by rw [← hn nd rfl]; exact hY
      have H5 := HV0.out.1.keep G5
      have G6 := World.grownBy_alloc w5 (.cells Y 54) none
      have HT : Hid (S5 c (w5.alloc (.cells Y 54)) va vb w4.heap.size w5.heap.size #[.int .i64 (tk : Int), .int .i64 (tp : Int), str tx, .int .u32 (tn : Int)] Y ∧ RS c (w5.alloc (.cells Y 54)) i2 va vb q bud ∧ w3b.grownBy (w5.alloc (.cells Y 54)) none) := ⟨⟨(HV0.out.2.1.kept G5).kept G6, VAt.alloc w5 _ Y, HV0.out.2.2.1, fun hf => by have := H5.mem.lt hf; omega⟩, H5.keep G6, d5 (d5 HV0.out.2.2.2 G5) G6⟩
      rw [hY]
      clear CB HV0 hn hY G5 G6 H5 p2
      go_upto_region 20 with (refine wpList_store_row rfl 54 (.tmp 6) (.tmp 104) rfl w5.heap.size Y rfl rfl 54 _ (heap_alloc_new w5 _) HZ.out.1 HZ.out.2.1 HZ.out.2.2 ?_)
      rw [World.setRow_alloc_new]
      generalize w5.alloc (.cells Y 54) = w6 at *
      generalize w5.heap.size = nb at *
      generalize w4.heap.size = tb at *
      have HX6 : Hid (∀ x z, c8 c w6 va vb x bud z → c8 c w vt vp x bud z) := fun x z R2 => c8.of (HGb.out.trans (GB.non (S := d3 c.g vt vp) HT.out.2.2) (fun _ _ h => h)) HF2.out R2
      have HT6 : Hid (S5 c w6 va vb tb nb #[.int .i64 (tk : Int), .int .i64 (tp : Int), str tx, .int .u32 (tn : Int)] Y) := HT.out.1
      have CX := q8 HT.out.2.1 HK.out
      clear HT HGb HYb HK HBq
      go_wp2_with fail
      refine CX.mono ?_
      rintro e w7 ⟨rfl, i7, v7, u7, R7, G7, F7⟩
      have HT7 : Hid (S5 c w7 v7 u7 tb nb #[.int .i64 (tk : Int), .int .i64 (tp : Int), str tx, .int .u32 (tn : Int)] Y) := HT6.out.step G7 F7
      have HX7 : Hid (∀ x z, c8 c w7 v7 u7 x bud z → c8 c w vt vp x bud z) := fun x z R2 => HX6.out x z (c8.of G7 F7 R2)
      have CR := HREC.out q.next w7 i7 v7 u7 _ R7 HLT.out.2.1
      clear CX HT6 HX6 R7 G7 F7
      go_wp2_with fail
      refine CR.mono ?_
      rintro e w8 ⟨rfl, i8, v8, u8, R8, G8, F8⟩
      have HT8 : Hid (S5 c w8 v8 u8 tb nb #[.int .i64 (tk : Int), .int .i64 (tp : Int), str tx, .int .u32 (tn : Int)] Y) := HT7.out.step G8 F8
      have HX8 : Hid (∀ x z, c8 c w8 v8 u8 x bud z → c8 c w vt vp x bud z) := fun x z R2 => HX7.out x z (c8.of G8 F8 R2)
      have CL := B9 R8 nd tp
      rw [show nd.cells.toArray = Y from HNY.out] at CL
      have p1 := HT8.out.1.cell 1
      have VY := HT8.out.2.1
      clear CR HT7 HX7 R8 G8 F8 HNY
      go_wp2_with (refine wpList_load_row rfl 54 (.tmp 6) rfl nb rfl 54 Y (0, 0) _ VY Tryz.underlying54 rfl HZ.out.1 ?_)
      refine CL.mono ?_
      rintro e w9 ⟨rfl, R9⟩
      have HR9 : Hid (c8 c w vt vp ((rec q.next).lay nd tp) bud w9) := HX8.out _ _ R9
      clear CL R9 HX8 HT8 p1 VY
      cases b4 with
      | true =>
       have HR : Hid (c8 c w vt vp ans bud w9) := by have h1 := HA.out; rw [if_pos (HK4.out.1 rfl)] at h1; rw [← h1]; exact HR9.out
       clear HA HR9 HK4 HLT HM
       go_wp2
       exact bodyPost_ret (results_none rfl _ _ _) rfl ⟨rfl, HR.out⟩
      | false =>
       have HRn : Hid (Rnd c w vt vp rec k g n0 bud ans ((rec q.next).lay nd tp) w9) := ⟨by have h1 := HA.out; rw [if_neg (HK4.out.2 rfl)] at h1; exact h1, HR9.out, by have := HLT.out.2.2.1; have := (Rk.lay (rec q.next) nd tp).len; omega, HLT.out.2.2.2⟩
       have HM2 : Hid (msrR c w9 < q.ts.length) := by
        obtain ⟨i9, v9, u9, R9, -, -⟩ := HRn.out.ret
        rw [R9.msrR]
        have := HLT.out.1
        have h9 := (Rk.lay (rec q.next) nd tp).len
        show ((rec q.next).lay nd tp).ts.length < q.ts.length
        omega
       clear HA HR9 HK4 HLT
       go_wp2
       go_roundw
       case rel => exact ⟨g, _, HRn⟩
       case measure => have h1 := HM.out; have h2 := HM2.out; omega
    | false =>
     have HA : Hid (q = ans) := by
      show q = ans
      rw [← HQ.out.says]
      refine (a4s g (fun h => ?_)).symm
      rw [a0j he2] at k5 k2
      rw [E9 he2] at h
      simp only [beq_eq_false_iff_ne] at k5 k2
      omega
     rw [k2] at HK2
     clear k5 k2 he2 HQ HE2 HREC HRK HBI HK4
     go_wp2_with fail
     refine CK5.mono ?_
     rintro e w3 ⟨rfl, G3⟩
     have CK2 := HK2.out w3 G3
     have HG3 : Hid (wr.grownBy w3 none) := G3
     clear CK5 c5 HK2 G3
     go_wp2_with fail
     refine CK2.mono ?_
     rintro e w3b ⟨rfl, G3b⟩
     have HR : Hid (c8 c w vt vp ans bud w3b) := by
      have G := d5 HG3.out G3b
      rw [← HA.out]
      exact ⟨i2, va, vb, HGF.out.1.keep G, HGF.out.2.1.trans (GB.non (S := d3 c.g vt vp) G) (fun _ _ h => h), HF2.out⟩
     clear CK2 G3b HG3 HA HGF
     go_wp2
     exact bodyPost_end (results_none rfl _ _ _) rfl ⟨rfl, HR.out⟩
theorem a6o (c : PC) : a3e c := fun f hC k w i vt vp s bud h1 h2 h3 h he hf =>
 aa3 f hC k (by unfold a1v; omega) h he hf
end
def U5 {α : Type} (c : PC) (w : World) (vt vp : Value) (E : Nat → Prop) (nest bud : Nat) (ns : List (Nd × Nat)) (val : α → Value) (more : α → List (Nd × Nat)) (X : α → World → Prop) (r : Except Er (α × List Tk)) (e : Ending) (w' : World) : Prop := match r with
 | .ok (v, ts') => e = .returned (val v) ∧ X v w' ∧ ∃ i' vt' vp', PS c w' i' vt' vp' ts' nest bud (ns ++ more v) ∧ GB w w' (fun x => d3 c.g vt vp x ∨ E x) ∧ ∀ x, x < w.heap.size → d3 c.g vt' vp' x → d3 c.g vt vp x
 | .error er => e = .panicked (M5 er) ∧ GB w w' (fun x => d3 c.g vt vp x ∨ E x)
theorem U5.of_run {c : PC} {w : World} {vt vp : Value} {nest bud : Nat} {ns : List (Nd × Nat)} {r : Out} {e : Ending} {w' : World} (h : l6 c w vt vp nest bud ns r e w') : U5 c w vt vp (fun _ => False) nest bud ns (fun _ => .tuple #[]) id (fun _ _ => True) r e w' := by
 cases r with
 | error er => exact ⟨h.1, h.2.mono (fun x hx => .inl hx)⟩
 | ok v =>
  obtain ⟨ms, ts'⟩ := v
  obtain ⟨h1, i', vt', vp', h2, h3, h4⟩ := h
  exact ⟨h1, trivial, i', vt', vp', h2, h3.mono (fun x hx => .inl hx), h4⟩
def a5F (c : PC) (w : World) (vt vp : Value) (nest bud : Nat) (ns : List (Nd × Nat)) (val : List (Nd × Nat) → Value) (r : Out) (e : Ending) (w' : World) : Prop := match r with
 | .ok (ms, ts') => e = .returned (val ms) ∧ Ret c w vt vp ts' nest bud (ns ++ ms) w'
 | .error er => e = .panicked (M5 er) ∧ GB w w' (d3 c.g vt vp)
theorem U5.back {c : PC} {w : World} {vt vp : Value} {nest bud : Nat} {ns : List (Nd × Nat)} {r : Out} {e : Ending} {w' : World} {val : List (Nd × Nat) → Value} {X : List (Nd × Nat) → World → Prop} (h : U5 c w vt vp (fun _ => False) nest bud ns val id X r e w') : a5F c w vt vp nest bud ns val r e w' := by
 cases r with
 | error er => exact ⟨h.1, h.2.mono (fun x hx => hx.elim id (fun h => h.elim))⟩
 | ok v =>
  obtain ⟨ms, ts'⟩ := v
  obtain ⟨h1, -, i', vt', vp', h2, h3, h4⟩ := h
  exact ⟨h1, i', vt', vp', h2, h3.mono (fun x hx => hx.elim id (fun h => h.elim)), h4⟩

section
variable {c : PC} {w : World} {i nest bud : Nat} {vt vp : Value} {ts : List Tk} {ns : List (Nd × Nat)}
theorem PS.nestTo (h : PS c w i vt vp ts nest bud ns) {m : Nat} (hm : m ≤ 200) : PS c (w.setCell ⟨c.g, 2, none⟩ (.int .i64 (m : Int))) i vt vp ts m bud ns := h.store 2 _ rfl h.drop h.good hm h.bud_le
theorem a2G {α : Type} (h : PS c w i vt vp ts nest bud ns) (hk : (hdT ts).kind ≠ 0) (n : Nat) (bs lb : Array Value) (hent : ∀ args w, (callFunc n args).run Tryz.prog w = .ok (.enter n args) w) (E : Nat → Prop) (more : α → List (Nd × Nat)) (X : α → World → Prop) (r : Except Er (α × List Tk))
  (hE : ∀ x, E x → x < w.heap.size) (hX : ∀ v W W', X v W → GB W W' (fun x => x = c.g ∨ w.heap.size ≤ x) → X v W')
  (hin : ∀ W i1 vt1 vp1, GB w W (d3 c.g vt vp) → (∀ x, x < w.heap.size → d3 c.g vt1 vp1 x → d3 c.g vt vp x) → PS c W i1 vt1 vp1 ts.tail (nest + 1) (bud + 1) ns → Calls Tryz.prog n (bs ++ lb) W (U5 c W vt1 vp1 E (nest + 1) (bud + 1) ns (fun _ => .tuple #[]) more X r)) :
  Calls Tryz.prog 75 #[.pointer (some ⟨c.g, 0, none⟩), .func (.func n) bs lb] w (U5 c w vt vp E nest (bud + 1) ns (fun _ => .agg (tkC (hdT ts))) more X (s9 nest ts r)) := by
 have hn := h.nest_le
 have G := World.grownBy_alloc w (.cells #[.int .i64 0, .int .i64 0, .string ⟨#[]⟩, .int .u32 0] 42) none
 have RA := VAt.alloc w 42 #[.int .i64 0, .int .i64 0, .string ⟨#[]⟩, .int .u32 0]
 have H1 := h.keep G
 have HP : Hid (PS c w i vt vp ts nest bud ns) := h
 have HIN : Hid (∀ W i1 vt1 vp1, GB w W (d3 c.g vt vp) → (∀ x, x < w.heap.size → d3 c.g vt1 vp1 x → d3 c.g vt vp x) → PS c W i1 vt1 vp1 ts.tail (nest + 1) (bud + 1) ns → Calls Tryz.prog n (bs ++ lb) W (U5 c W vt1 vp1 E (nest + 1) (bud + 1) ns (fun _ => .tuple #[]) more X r)) := hin
 have HX : Hid (∀ v W W', X v W → GB W W' (fun x => x = c.g ∨ w.heap.size ≤ x) → X v W') := hX
 have HK : Hid ((hdT ts).kind ≠ 0) := hk
 have HE : Hid (∀ x, E x → x < w.heap.size) := hE
 clear hin hX hk hE
 by_cases hd : nest = 200
 ·unfold s9
  rw [if_pos hd]
  have hd' : (200 : Int) ≤ (nest : Int) := by omega
  clear hd HIN HX h
  go_enter Tryz.func75, Tryz.ntmps75
  go_upto_region 1 with fail
  generalize w.alloc (.cells #[.int .i64 0, .int .i64 0, .string ⟨#[]⟩, .int .u32 0] 42) = W at *
  generalize w.heap.size = R at *
  have c2 : W.cell? ⟨c.g, 2, none⟩ = some (.int .i64 (nest : Int)) := H1.blk.cell 2
  go_wp2_with fail
  refine (a1G H1 _).mono ?_
  rintro e w1 ⟨rfl, G1⟩
  go_wp2
  exact ⟨rfl, rfl, GB.non (d5 G G1)⟩
 ·have e0 : s9 nest ts r = r := by rw [s9, if_neg hd]
  rw [e0]
  go_enter Tryz.func75, Tryz.ntmps75
  go_upto_region 1 with fail
  generalize w.alloc (.cells #[.int .i64 0, .int .i64 0, .string ⟨#[]⟩, .int .u32 0] 42) = W at *
  obtain ⟨R, hR⟩ : ∃ R, w.heap.size = R := ⟨_, rfl⟩
  have HRW : Hid (R < W.heap.size) := by show R < W.heap.size; rw [← hR]; exact RA.lt
  rw [hR] at RA ⊢
  have HR2 : Hid (w.heap.size ≤ R) := Nat.le_of_eq hR
  clear h hR
  have c2 : W.cell? ⟨c.g, 2, none⟩ = some (.int .i64 (nest : Int)) := H1.blk.cell 2
  have f2 := H1.blk.free 2
  have hd' : ¬ (200 : Int) ≤ (nest : Int) := by omega
  have hw : IntKind.i64.wrap ((nest : Int) + 1) = ((nest + 1 : Nat) : Int) := by rw [IntKind.wrap_i64]; omega
  have H2 : PS c (W.setCell ⟨c.g, 2, none⟩ (.int .i64 ((nest : Int) + 1))) i vt vp ts (nest + 1) bud ns := H1.nestTo (m := nest + 1) (by omega)
  have RA2 := RA.grown (D3 W c.g 2 (.int .i64 ((nest : Int) + 1))) (fun e => by have := Option.some.inj e; have := HP.out.blk.lt; have := HR2.out; omega)
  have G2 : GB w (W.setCell ⟨c.g, 2, none⟩ (.int .i64 ((nest : Int) + 1))) (d3 c.g vt vp) := (GB.non G).trans (GB.set W vt vp c.g 2 _) (fun _ _ h => h)
  have HRW2 : Hid (R < (W.setCell ⟨c.g, 2, none⟩ (.int .i64 ((nest : Int) + 1))).heap.size) := Nat.lt_of_lt_of_le HRW.out (D3 W c.g 2 (.int .i64 ((nest : Int) + 1))).size
  clear e0 hd H1 RA HRW G
  go_upto_region 4 with fail
  generalize W.setCell ⟨c.g, 2, none⟩ (.int .i64 ((nest : Int) + 1)) = w2 at *
  clear c2 f2 hd' hw
  go_wp2_with fail
  refine (I5 H2 HK.out).mono ?_
  rintro e w3 ⟨rfl, i3, vt3, vp3, H3, G3, F3⟩
  have RA3 := G3.vat RA2 (HP.out.not_foot HR2.out)
  have L2 := G2.size
  have G4 := G2.trans G3 (fun _ _ h => h)
  have F4 : ∀ x, x < w.heap.size → d3 c.g vt3 vp3 x → d3 c.g vt vp x := fun x hx => F3 x (Nat.lt_of_lt_of_le hx L2)
  have HF3 : Hid (¬ d3 c.g vt3 vp3 R) := fun e => HP.out.not_foot HR2.out (F3 R HRW2.out e)
  have HRW3 : Hid (R < w3.heap.size) := Nat.lt_of_lt_of_le HRW2.out G3.size
  clear H2 RA2 G2 HRW2 G3 F3 L2
  unfold tkC
  obtain ⟨t, ht⟩ : ∃ t, hdT ts = t := ⟨_, rfl⟩
  have HT : Hid (hdT ts = t) := ht
  rw [ht]
  clear ht
  obtain ⟨tk, tp, tx, tn⟩ := t
  simp only
  have KA := World.grownBy_alloc w3 (.cells #[.int .i64 (tk : Int), .int .i64 (tp : Int), str tx, .int .u32 (tn : Int)] 42) none
  have VA := VAt.alloc w3 42 #[.int .i64 (tk : Int), .int .i64 (tp : Int), str tx, .int .u32 (tn : Int)]
  have H4 := H3.keep KA
  have RA4 := RA3.kept KA
  have G5 := G4.trans (GB.non (S := d3 c.g vt vp) KA) (fun _ _ h => h)
  have HV : Hid (w.heap.size ≤ w3.heap.size ∧ ¬ d3 c.g vt3 vp3 w3.heap.size ∧ w3.heap.size < (w3.alloc (.cells #[.int .i64 (tk : Int), .int .i64 (tp : Int), str tx, .int .u32 (tn : Int)] 42)).heap.size ∧ R < (w3.alloc (.cells #[.int .i64 (tk : Int), .int .i64 (tp : Int), str tx, .int .u32 (tn : Int)] 42)).heap.size) := ⟨G4.size, H3.not_foot (Nat.le_refl _), VA.lt, RA4.lt⟩
  clear H3 RA3 G4 HRW3
  go_upto_region 5 with fail
  generalize w3.alloc (.cells #[.int .i64 (tk : Int), .int .i64 (tp : Int), .string ⟨tx.toArray⟩, .int .u32 (tn : Int)] 42) = w4 at *
  generalize w3.heap.size = V at *
  clear KA
  have CI := HIN.out w4 i3 vt3 vp3 G5 F4 H4
  clear HIN
  go_wp2_with fail
  refine CI.mono ?_
  clear CI
  have HG5 : Hid (GB w w4 (d3 c.g vt vp)) := G5
  have HF4 : Hid (∀ x, x < w.heap.size → d3 c.g vt3 vp3 x → d3 c.g vt vp x) := F4
  have HH4 : Hid (PS c w4 i3 vt3 vp3 ts.tail (nest + 1) (bud + 1) ns) := H4
  clear G5 F4 H4
  cases r with
  | error er =>
   rintro e w5 ⟨rfl, G6⟩
   go_wp2
   exact ⟨rfl, rfl, (HG5.out.mono (fun x hx => Or.inl hx)).trans G6 (fun x hx h => h.elim (fun h => .inl (HF4.out x hx h)) .inr)⟩
  | ok v =>
   obtain ⟨v, ts'⟩ := v
   rintro e w5 ⟨rfl, X5, i5, vt5, vp5, H5, G6, F6⟩
   have RA5 := G6.vat RA4 (fun h => h.elim HF3.out (fun h => by have := HE.out _ h; have := HR2.out; omega))
   have VA5 := G6.vat VA (fun h => h.elim HV.out.2.1 (fun h => by have := HE.out _ h; have := HV.out.1; omega))
   have HF5 : Hid (¬ d3 c.g vt5 vp5 R) := fun e => HF3.out (F6 R HV.out.2.2.2 e)
   have G7 : GB w w5 (fun x => d3 c.g vt vp x ∨ E x) := (HG5.out.mono (fun x hx => Or.inl hx)).trans G6 (fun x hx h => h.elim (fun h => .inl (HF4.out x hx h)) .inr)
   have F7 : ∀ x, x < w.heap.size → d3 c.g vt5 vp5 x → d3 c.g vt vp x := fun x hx h => HF4.out x hx (F6 x (Nat.lt_of_lt_of_le hx HG5.out.size) h)
   have c2 : w5.cell? ⟨c.g, 2, none⟩ = some (.int .i64 ((nest + 1 : Nat) : Int)) := H5.blk.cell 2
   have f2 := H5.blk.free 2
   have hw : IntKind.i64.wrap (((nest + 1 : Nat) : Int) - 1) = (nest : Int) := by rw [IntKind.wrap_i64]; omega
   have hw2 : ((nest + 1 : Nat) : Int) - 1 = (nest : Int) := by omega
   have H6 := H5.nestTo (m := nest) hn
   have hgR : R ≠ c.g := fun e => by have := HP.out.blk.lt; have := HR2.out; omega
   have hgV : V ≠ c.g := fun e => by have := HP.out.blk.lt; have := HV.out.1; omega
   have K6 := D3 w5 c.g 2 (.int .i64 (nest : Int))
   have RA6 := RA5.grown K6 (fun e => hgR (Option.some.inj e).symm)
   have VA6 := VA5.grown K6 (fun e => hgV (Option.some.inj e).symm)
   have HQ : Hid (PS c (w5.setCell ⟨c.g, 2, none⟩ (.int .i64 (nest : Int))) i5 vt5 vp5 ts' nest (bud + 1) (ns ++ more v) ∧ X v w5 ∧ GB w w5 (fun x => d3 c.g vt vp x ∨ E x) ∧ (∀ x, x < w.heap.size → d3 c.g vt5 vp5 x → d3 c.g vt vp x) ∧ w5.grownBy (w5.setCell ⟨c.g, 2, none⟩ (.int .i64 (nest : Int))) (some c.g)) := ⟨H6, X5, G7, F7, K6⟩
   clear HG5 HF4 HH4 X5 H5 G6 F6 RA4 VA RA5 VA5 G7 F7 H6 K6
   go_upto_region 7 with fail
   generalize w5.setCell ⟨c.g, 2, none⟩ (.int .i64 (nest : Int)) = w6 at *
   go_wp2_with (first
    | refine wpList_load_row rfl 42 (.tmp 5) rfl V rfl 42 _ (0, 0) _ VA6 Tryz.underlying42 rfl D2 ?_
    | refine wpList_store_row rfl 42 (.tmp 4) (.tmp 35) rfl R (tkC ⟨tk, tp, tx, tn⟩) rfl rfl 42 _ RA6 D2 rfl (a5x _) ?_)
   refine bodyPost_ret (N8 rfl _ _ R _ _ rfl (RA6.setRow _) Tryz.underlying42 rfl D2) rfl ?_
   obtain ⟨H6, X5, G7, F7, K6⟩ := HQ.out
   have K7 := j7 (World.grownBy.refl w6 (some R)) R (tkC ⟨tk, tp, tx, tn⟩) (.inl rfl)
   have K8 : GB w5 (w6.setRow R (tkC ⟨tk, tp, tx, tn⟩)) (fun x => x = c.g ∨ w.heap.size ≤ x) := (GB.of K6 (S := fun x => x = c.g ∨ w.heap.size ≤ x) (fun x hx => by cases hx; exact .inl rfl)).trans (GB.of K7 (S := fun x => x = c.g ∨ w.heap.size ≤ x) (fun x hx => by cases hx; exact .inr HR2.out)) (fun _ _ h => h)
   refine ⟨by rw [HT.out], HX.out v _ _ X5 K8, i5, vt5, vp5, H6.away K7 HF5.out (fun e => by have := HP.out.toks_lt e; have := HR2.out; omega) (Nat.le_trans HP.out.grown.size HR2.out), ?_, F7⟩
   exact G7.trans K8 (fun x hx h => by
    rcases h with rfl | h
    ·exact .inl (.inl rfl)
    ·omega)

end
end Go.Proofs.YtlfmddjppejmaaaGreatDoor
