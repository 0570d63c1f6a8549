import Derived.Test.YtlfmddjppejmaaaGreatDoorqLotQ30
import Derived.Test.YtlfmddjppejmaaaGreatDoorqLotQ31
import Derived.Test.YtlfmddjppejmaaaGreatDoorqLotQ1
import Derived.RangeFuncNested
import Derived.RangeFuncBound
import Derived.RangeFuncCalls
import Derived.RangeFuncLeaves
import Derived.RangeFuncBox
import Derived.Shelf.Abstract
import Derived.Shelf.RegionOpen
import Derived.WalkKit
import Derived.OwnWalkIn
import Derived.TacticsInMore
import Derived.LoopNIn
import Derived.LoopIn
import Derived.Test.YtlfmddjppejmaaaGreatDoorqLotQ13
import Derived.Test.YtlfmddjppejmaaaGreatDoorqLotQ12
set_option maxHeartbeats 64000000
set_option maxRecDepth 100000
namespace Go.Proofs.YtlfmddjppejmaaaGreatDoor
open Go.RowKit

section
variable {c : PC} {w : World} {i nest bud : Nat} {vt vp : Value} {ts : List Tk} {ns : List (Nd × Nat)}
theorem T5 {x : List UInt8} (h : W7.contains x = true) : F9 x := a19 (by simpa using h)
theorem a36 (h : PS c w i vt vp ts nest bud ns) :
  Calls Tryz.prog 121 #[.pointer (some ⟨c.g, 0, none⟩)] w fun e w' => e = .returned (.int .i64 (p8 ts : Int)) ∧ Ret c w vt vp (o9 ts) nest bud ns w' := by
 have C1 := a0v h g9 (T5 (by decide))
 have HC2 : Hid (∀ W, w.grownBy W none → Calls Tryz.prog 120 #[.pointer (some ⟨c.g, 0, none⟩), str j5] W fun e w' => e = .returned (.bool (isB ts j5)) ∧ a3h c W vt vp ts nest bud ns (isB ts j5) w') := fun W G => a0v (h.keep G) j5 (T5 (by decide))
 have HP : Hid (PS c w i vt vp ts nest bud ns) := h
 unfold o9 p8
 cases h1 : isB ts g9 with
 | true =>
  rw [h1] at C1
  clear h HC2
  rw [if_pos rfl]
  go_enter Tryz.func121, Tryz.ntmps121
  go_wp2_with fail
  refine C1.mono ?_
  rintro e w1 ⟨rfl, R⟩
  clear C1
  go_wp2
  go_ret
  exact ⟨rfl, Ret.less R (Nat.le_succ _)⟩
 | false =>
  rw [h1] at C1
  rw [if_neg (by simp)]
  cases h2 : isB ts j5 with
  | true =>
   rw [h2] at HC2
   rw [if_pos rfl]
   clear h
   go_enter Tryz.func121, Tryz.ntmps121
   go_wp2_with fail
   refine C1.mono ?_
   rintro e w1 ⟨rfl, hG⟩
   have G1 : w.grownBy w1 none := hG
   clear C1 hG
   go_wp2_with fail
   refine (HC2.out w1 G1).mono ?_
   rintro e w2 ⟨rfl, R⟩
   clear HC2
   go_wp2
   go_ret
   exact ⟨rfl, Ret.of (GB.non G1) (fun _ _ h => h) (Ret.less R (Nat.le_succ _))⟩
  | false =>
   rw [h2] at HC2
   rw [if_neg (by simp)]
   clear h
   go_enter Tryz.func121, Tryz.ntmps121
   go_wp2_with fail
   refine C1.mono ?_
   rintro e w1 ⟨rfl, hG⟩
   have G1 : w.grownBy w1 none := hG
   clear C1 hG
   go_wp2_with fail
   refine (HC2.out w1 G1).mono ?_
   rintro e w2 ⟨rfl, hG⟩
   have G2 : w1.grownBy w2 none := hG
   clear HC2 hG
   go_wp2
   go_ret
   have G := d5 G1 G2
   exact ⟨rfl, Ret.same (HP.out.keep G) (GB.non G)⟩
theorem a2U (h : PS c w i vt vp ts nest bud ns) :
  Calls Tryz.prog 117 #[.pointer (some ⟨c.g, 0, none⟩)] w (M6 c w vt vp nest (bud + 1) ns (fun n : Nat => .int .u32 (n : Int)) (d8 (l5 q7 ts) j8)) := by
 have C1 := a0k h q7 (T5 (by decide))
 cases hr : l5 q7 ts with
 | error er =>
  rw [hr] at C1
  rw [N2]
  clear h hr
  go_enter Tryz.func117, Tryz.ntmps117
  go_wp2_with fail
  refine C1.mono ?_
  rintro e w1 ⟨rfl, G⟩
  go_wp2
  exact ⟨rfl, rfl, G⟩
 | ok r =>
  rw [hr] at C1
  rw [q9]
  obtain ⟨nr, hnr⟩ : ∃ x, j8 r = x := ⟨_, rfl⟩
  have HN : Hid (j8 r = nr) := hnr
  rw [hnr]
  clear h hr hnr
  go_enter Tryz.func117, Tryz.ntmps117
  go_wp2_with fail
  refine C1.mono ?_
  rintro e w1 ⟨rfl, i1, vt1, vp1, H1, G1, F1⟩
  clear C1
  have CN := a0s (H1.less (Nat.le_succ bud))
  rw [HN.out] at CN
  clear H1
  go_wp2_with fail
  refine CN.mono ?_
  clear CN
  cases nr with
  | error er =>
   rintro e w2 ⟨rfl, G2⟩
   go_wp2
   exact ⟨rfl, rfl, G1.trans G2 F1⟩
  | ok v =>
   obtain ⟨m, r2⟩ := v
   rintro e w2 ⟨rfl, R2⟩
   go_wp2
   go_ret
   exact ⟨rfl, Ret.of G1 F1 R2⟩
theorem a2F : nd0.cells.toArray = #[.int .i64 0, .int .i64 0, .int .u32 0, .int .u32 0, .int .i64 0, .int .i64 0, .int .i64 0, .int .u8 0, .int .u8 0, .int .u8 0, .int .u8 0, .int .u8 0, .int .u8 0, .int .u8 0, .int .u8 0, .int .u8 0, .int .u8 0, .int .u8 0, .int .u8 0, .int .u8 0, .int .u8 0, .int .u8 0, .int .u8 0, .int .i64 0] := by kernel_rfl
theorem T3 (x : Nd) : (Tryz.prog.info? 54).map (·.size) = some x.cells.toArray.size := a0W
theorem a0z (x : Nd) : x.cells.toArray.all (·.oneCell') = true := all_oneCell_toArray x.cells_one
theorem a8V (of side : Nat) : (I3 of side 0 0).cells.toArray = #[.int .i64 16, .int .i64 0, .int .u32 0, .int .u32 0, .int .i64 0, .int .i64 (of : Int), .int .i64 (side : Int), .int .u8 0, .int .u8 0, .int .u8 0, .int .u8 0, .int .u8 0, .int .u8 0, .int .u8 0, .int .u8 0, .int .u8 0, .int .u8 0, .int .u8 0, .int .u8 0, .int .u8 0, .int .u8 0, .int .u8 0, .int .u8 0, .int .i64 0] := by kernel_rfl
structure PV (c : PC) (w : World) (vt vp : Value) (W : World) (i' : Nat) (vt' vp' : Value) (ts' : List Tk) (nest bud' : Nat) (ns : List (Nd × Nat)) (R V : Nat) (y x : Nd) : Prop where
 ps : PS c W i' vt' vp' ts' nest bud' ns
 gb : GB w W (d3 c.g vt vp)
 sh : ∀ x, x < w.heap.size → d3 c.g vt' vp' x → d3 c.g vt vp x
 fV : ¬ d3 c.g vt' vp' V
 fR : ¬ d3 c.g vt' vp' R
 var : VAt W V 54 x.cells.toArray
 res : VAt W R 54 y.cells.toArray
 lV : w.heap.size ≤ V
 lR : w.heap.size ≤ R
 ne : R ≠ V
theorem PV.keep {W W2 : World} {i1 bud1 R V : Nat} {vt1 vp1 : Value} {ts1 : List Tk} {y x : Nd} (h : PV c w vt vp W i1 vt1 vp1 ts1 nest bud1 ns R V y x) (G : W.grownBy W2 none) : PV c w vt vp W2 i1 vt1 vp1 ts1 nest bud1 ns R V y x :=
 { h with ps := h.ps.keep G, gb := h.gb.trans (GB.non (S := d3 c.g vt vp) G) (fun _ _ h => h), var := h.var.kept G, res := h.res.kept G }
theorem PV.less {W : World} {i1 bud1 b R V : Nat} {vt1 vp1 : Value} {ts1 : List Tk} {y x : Nd} (h : PV c w vt vp W i1 vt1 vp1 ts1 nest bud1 ns R V y x) (hb : b ≤ bud1) : PV c w vt vp W i1 vt1 vp1 ts1 nest b ns R V y x := { h with ps := h.ps.less hb }
theorem PV.step {W W2 : World} {i1 bud1 bud2 R V : Nat} {vt1 vp1 : Value} {ts1 ts2 : List Tk} {y x : Nd} (h : PV c w vt vp W i1 vt1 vp1 ts1 nest bud1 ns R V y x) (r : Ret c W vt1 vp1 ts2 nest bud2 ns W2) : ∃ i2 vt2 vp2, PV c w vt vp W2 i2 vt2 vp2 ts2 nest bud2 ns R V y x := by
 obtain ⟨i2, vt2, vp2, p, g, f⟩ := r
 exact ⟨i2, vt2, vp2, p, h.gb.trans g h.sh, fun x hx k => h.sh x hx (f x (Nat.lt_of_lt_of_le hx h.gb.size) k), fun e => h.fV (f V h.var.lt e), fun e => h.fR (f R h.res.lt e), g.vat h.var h.fV, g.vat h.res h.fR, h.lV, h.lR, h.ne⟩
theorem PV.err {W W2 : World} {i1 bud1 R V : Nat} {vt1 vp1 : Value} {ts1 : List Tk} {y x : Nd} (h : PV c w vt vp W i1 vt1 vp1 ts1 nest bud1 ns R V y x) (g : GB W W2 (d3 c.g vt1 vp1)) : GB w W2 (d3 c.g vt vp) := h.gb.trans g h.sh
theorem PV.away {i0 nest0 bud0 : Nat} {ts0 : List Tk} {ns0 : List (Nd × Nat)} {S : Nat → Prop} {W W2 : World} {i1 bud1 R V : Nat} {vt1 vp1 : Value} {ts1 : List Tk} {y x y2 x2 : Nd} (hw : PS c w i0 vt vp ts0 nest0 bud0 ns0) (h : PV c w vt vp W i1 vt1 vp1 ts1 nest bud1 ns R V y x) (K : GB W W2 S) (hS : ∀ z, S z → z = V ∨ z = R) (A : VAt W2 V 54 x2.cells.toArray) (B : VAt W2 R 54 y2.cells.toArray) : PV c w vt vp W2 i1 vt1 vp1 ts1 nest bud1 ns R V y2 x2 :=
 { h with
  ps := h.ps.awayG K (fun z hz => by
   have hz2 : w.heap.size ≤ z ∧ ¬ d3 c.g vt1 vp1 z := by
    rcases hS z hz with rfl | rfl
    ·exact ⟨h.lV, h.fV⟩
    ·exact ⟨h.lR, h.fR⟩
   exact ⟨hz2.2, fun e => by have := (hw.toks.lt z e).2; omega, Nat.le_trans hw.grown.size hz2.1⟩)
  gb := h.gb.trans K (fun z hz hs => by have := h.lV; have := h.lR; rcases hS z hs with rfl | rfl <;> omega)
  var := A, res := B }
theorem PV.set {i0 nest0 bud0 : Nat} {ts0 : List Tk} {ns0 : List (Nd × Nat)} {W : World} {i1 bud1 R V : Nat} {vt1 vp1 : Value} {ts1 : List Tk} {y x : Nd} (hw : PS c w i0 vt vp ts0 nest0 bud0 ns0) (h : PV c w vt vp W i1 vt1 vp1 ts1 nest bud1 ns R V y x) (k : Nat) (v : Value) (x2 : Nd) (e : x.cells.toArray.setIfInBounds k v = x2.cells.toArray) : PV c w vt vp (W.setCell ⟨V, k, none⟩ v) i1 vt1 vp1 ts1 nest bud1 ns R V y x2 :=
 PV.away hw h (GB.of (S := fun z => z = V) (D3 W V k v) (fun z hz => by cases hz; rfl)) (fun z hz => .inl hz) (by have := h.var.set k v; rw [e] at this; exact this) (h.res.setOther v h.ne)
theorem PV.setR {i0 nest0 bud0 : Nat} {ts0 : List Tk} {ns0 : List (Nd × Nat)} {W : World} {i1 bud1 R V : Nat} {vt1 vp1 : Value} {ts1 : List Tk} {y x : Nd} (hw : PS c w i0 vt vp ts0 nest0 bud0 ns0) (h : PV c w vt vp W i1 vt1 vp1 ts1 nest bud1 ns R V y x) (y2 : Nd) : PV c w vt vp (W.setRow R y2.cells.toArray) i1 vt1 vp1 ts1 nest bud1 ns R V y2 x :=
 PV.away hw h (GB.of (S := fun z => z = R) (j7 (World.grownBy.refl W (some R)) R _ (.inl rfl)) (fun z hz => by cases hz; rfl)) (fun z hz => .inr hz) (h.var.other _ (fun e => h.ne e.symm)) (h.res.setRow _)
theorem PV.ret {W : World} {i1 bud1 R V : Nat} {vt1 vp1 : Value} {ts1 : List Tk} {y x : Nd} (h : PV c w vt vp W i1 vt1 vp1 ts1 nest bud1 ns R V y x) : Ret c w vt vp ts1 nest bud1 ns W := ⟨i1, vt1, vp1, h.ps, h.gb, h.sh⟩
theorem a2S (h : PS c w i vt vp ts nest bud ns) (of side : Nat) :
  Calls Tryz.prog 123 #[.pointer (some ⟨c.g, 0, none⟩), .int .i64 (of : Int), .int .i64 (side : Int)] w (M6 c w vt vp nest (bud + 1) ns (fun x : Nd => .agg x.cells.toArray) (J8 of side ts)) := by
 have HP : Hid (PS c w i vt vp ts nest bud ns) := h
 obtain ⟨ans, hans⟩ : ∃ a, J8 of side ts = a := ⟨_, rfl⟩
 have HANS : Hid (J8 of side ts = ans) := hans
 rw [hans]
 have K1 := World.grownBy_alloc w (.cells nd0.cells.toArray 54) none
 have RA := VAt.alloc w 54 nd0.cells.toArray
 clear h hans
 go_enter Tryz.func123, Tryz.ntmps123
 go_upto_region 1 with fail
 rw [← a2F]
 generalize w.alloc (.cells nd0.cells.toArray 54) = w1 at *
 obtain ⟨R, hR⟩ : ∃ R, w.heap.size = R := ⟨_, rfl⟩
 rw [hR] at RA ⊢
 have HR2 : Hid (w.heap.size ≤ R) := Nat.le_of_eq hR
 clear hR
 have VA0 := VAt.alloc w1 54 nd0.cells.toArray
 rw [a2F] at VA0
 go_upto_region 2 with (refine wpList_store_row rfl 54 (.tmp 7) (.tmp 10) rfl w1.heap.size (I3 of side 0 0).cells.toArray rfl (by kernel_rfl) 54 _ VA0 (T3 _) rfl (a0z _) ?_)
 rw [World.setRow_alloc_new]
 rw [← a8V of side]
 clear VA0
 have K2 := World.grownBy_alloc w1 (.cells (I3 of side 0 0).cells.toArray 54) none
 have RA2 := RA.kept K2
 have VA := VAt.alloc w1 54 (I3 of side 0 0).cells.toArray
 have HV : Hid (w.heap.size ≤ w1.heap.size ∧ R ≠ w1.heap.size) := ⟨K1.size, fun e => by have := RA.lt; omega⟩
 have G := d5 K1 K2
 clear K1 K2 RA
 generalize w1.alloc (.cells (I3 of side 0 0).cells.toArray 54) = w2 at *
 generalize w1.heap.size = V at *
 have HP2 : Hid (PS c w2 i vt vp ts nest bud ns) := HP.out.keep G
 have C1 := a0v HP2.out j1 (T5 (by decide))
 cases hb : isB ts j1 with
 | true =>
  rw [hb] at C1
  have HA2 : Hid (d8 (j8 ts.tail) (fun p => .ok (I3 of side p.1 p.1, p.2)) = ans) := by
   show _ = ans
   rw [← HANS.out, J8, if_pos hb]
  clear hb HANS
  obtain ⟨nr, hnr⟩ : ∃ x, j8 ts.tail = x := ⟨_, rfl⟩
  have HN : Hid (j8 ts.tail = nr) := hnr
  rw [hnr] at HA2
  clear hnr
  go_wp2_with fail
  refine C1.mono ?_
  rintro e w3 ⟨rfl, i3, vt3, vp3, H3, G3, F3⟩
  clear C1
  have HF : Hid (∀ x, w.heap.size ≤ x → x < w2.heap.size → ¬ d3 c.g vt3 vp3 x) := fun x hx hx2 e => HP.out.not_foot hx (F3 x hx2 e)
  have VA3 := G3.vat VA (HP.out.not_foot HV.out.1)
  have RA3 := G3.vat RA2 (HP.out.not_foot HR2.out)
  have HG3 : Hid (GB w w3 (d3 c.g vt vp) ∧ ∀ x, x < w.heap.size → d3 c.g vt3 vp3 x → d3 c.g vt vp x) := ⟨(GB.non G).trans G3 (fun _ _ h => h), fun x hx => F3 x (Nat.lt_of_lt_of_le hx G.size)⟩
  have HVL : Hid (V < w2.heap.size ∧ R < w2.heap.size) := ⟨VA.lt, RA2.lt⟩
  have CN := a0s (H3.less (Nat.le_succ bud))
  rw [HN.out] at CN
  clear G G3 F3 VA RA2 H3 HP2
  go_wp2_with fail
  refine CN.mono ?_
  clear CN
  cases nr with
  | error er =>
   have HA3 : Hid (ans = .error er) := HA2.out.symm
   rintro e w4 ⟨rfl, G4⟩
   go_wp2
   refine ⟨rfl, ?_⟩
   rw [HA3.out]
   exact ⟨rfl, HG3.out.1.trans G4 HG3.out.2⟩
  | ok v =>
   obtain ⟨m, r2⟩ := v
   have HA3 : Hid (ans = .ok (I3 of side m m, r2)) := HA2.out.symm
   rintro e w4 ⟨rfl, i4, vt4, vp4, H4, G4, F4⟩
   have VA4 := G4.vat VA3 (HF.out V HV.out.1 HVL.out.1)
   have RA4 := G4.vat RA3 (HF.out R HR2.out HVL.out.2)
   have HQ : Hid (PS c w4 i4 vt4 vp4 r2 nest (bud + 1) ns ∧ GB w w4 (d3 c.g vt vp) ∧ (∀ x, x < w.heap.size → d3 c.g vt4 vp4 x → d3 c.g vt vp x) ∧ ¬ d3 c.g vt4 vp4 V ∧ ¬ d3 c.g vt4 vp4 R) :=
    ⟨H4, HG3.out.1.trans G4 HG3.out.2, fun x hx h => HG3.out.2 x hx (F4 x (Nat.lt_of_lt_of_le hx HG3.out.1.size) h), fun e => HF.out V HV.out.1 HVL.out.1 (F4 V VA3.lt e), fun e => HF.out R HR2.out HVL.out.2 (F4 R RA3.lt e)⟩
   clear HA2 HG3 HF HVL H4 G4 F4 VA3 RA3
   have v2 : w4.cell? ⟨V, 2, none⟩ = some (.int .u32 0) := VA4.cell 2
   have v2f := VA4.free 2
   have VA5 := VA4.set 2 (.int .u32 (m : Int))
   rw [show (I3 of side 0 0).cells.toArray.setIfInBounds 2 (.int .u32 (m : Int)) = (I3 of side m 0).cells.toArray by kernel_rfl] at VA5
   have RA5 := RA4.setOther (k := V) (i := 2) (.int .u32 (m : Int)) HV.out.2
   have HK5 : Hid (GB w4 (w4.setCell ⟨V, 2, none⟩ (.int .u32 (m : Int))) (fun x => x = V ∨ x = R)) := GB.of (D3 w4 V 2 _) (fun x hx => by cases hx; exact .inl rfl)
   go_upto_region 4 with fail
   generalize w4.setCell ⟨V, 2, none⟩ (.int .u32 (m : Int)) = w5 at *
   clear v2 v2f VA4 RA4
   have v2 : w5.cell? ⟨V, 2, none⟩ = some (.int .u32 (m : Int)) := VA5.cell 2
   have v3 : w5.cell? ⟨V, 3, none⟩ = some (.int .u32 0) := VA5.cell 3
   have v3f := VA5.free 3
   have VA6 := VA5.set 3 (.int .u32 (m : Int))
   rw [show (I3 of side m 0).cells.toArray.setIfInBounds 3 (.int .u32 (m : Int)) = (I3 of side m m).cells.toArray by kernel_rfl] at VA6
   have RA6 := RA5.setOther (k := V) (i := 3) (.int .u32 (m : Int)) HV.out.2
   have HK6 : Hid (GB w4 (w5.setCell ⟨V, 3, none⟩ (.int .u32 (m : Int))) (fun x => x = V ∨ x = R)) := HK5.out.trans (GB.of (S := fun x => x = V ∨ x = R) (D3 w5 V 3 (.int .u32 (m : Int))) (fun x hx => by cases hx; exact .inl rfl)) (fun _ _ h => h)
   go_upto_region 5 with fail
   generalize w5.setCell ⟨V, 3, none⟩ (.int .u32 (m : Int)) = w6 at *
   clear v2 v3 v3f VA5 RA5 HK5
   obtain ⟨X, hX⟩ : ∃ X, I3 of side m m = X := ⟨_, rfl⟩
   rw [hX] at VA6
   have HX : Hid (I3 of side m m = X) := hX
   clear hX
   go_wp2_with (first
    | refine wpList_load_row rfl 54 (.tmp 7) rfl V rfl 54 _ (0, 0) _ VA6 Tryz.underlying54 rfl (T3 _) ?_
    | refine wpList_store_row rfl 54 (.tmp 6) (.tmp 23) rfl R X.cells.toArray rfl rfl 54 _ RA6 (T3 _) rfl (a0z _) ?_)
   refine bodyPost_ret (N8 rfl _ _ R _ _ rfl (RA6.setRow _) Tryz.underlying54 rfl (T3 _)) rfl ?_
   rw [HA3.out, HX.out]
   obtain ⟨H4, G4, F4, fV, fR⟩ := HQ.out
   refine ⟨rfl, Ret.finG HP.out G4 F4 H4 (HK6.out.trans (GB.of (S := fun x => x = V ∨ x = R) (j7 (World.grownBy.refl w6 (some R)) R X.cells.toArray (.inl rfl)) (fun x hx => by cases hx; exact .inr rfl)) (fun _ _ h => h)) ?_⟩
   rintro x (rfl | rfl)
   ·exact ⟨HV.out.1, fV⟩
   ·exact ⟨HR2.out, fR⟩
 | false =>
  rw [hb] at C1
  have HA2 : Hid (d8 (l5 j4 ts) (fun r => d8 (j8 r) fun p => d8 (l5 [45] p.2) fun r2 => d8 (j8 r2) fun q => .ok (I3 of side p.1 q.1, q.2)) = ans) := by
   show _ = ans
   rw [← HANS.out, J8, if_neg (by rw [hb]; simp)]
  have Q2 : PV c w vt vp w2 i vt vp ts nest bud ns R V nd0 (I3 of side 0 0) := ⟨HP2.out, GB.non G, fun _ _ h => h, HP.out.not_foot HV.out.1, HP.out.not_foot HR2.out, VA, RA2, HV.out.1, HR2.out, HV.out.2⟩
  clear hb HANS VA RA2 G HP2
  go_wp2_with fail
  refine C1.mono ?_
  rintro e w3 ⟨rfl, hG⟩
  have G3 : w2.grownBy w3 none := hG
  have Q3 := Q2.keep G3
  have C2 := a0k Q3.ps j4 (T5 (by decide))
  clear C1 hG G3 Q2
  generalize l5 j4 ts = mr at *
  go_wp2_with fail
  refine C2.mono ?_
  clear C2
  cases mr with
  | error er =>
   have HA3 : Hid (ans = .error er) := HA2.out.symm
   rintro e w4 ⟨rfl, G4⟩
   go_wp2
   refine ⟨rfl, ?_⟩
   rw [HA3.out]
   exact ⟨rfl, Q3.err G4⟩
  | ok r =>
   rintro e w4 ⟨rfl, R4⟩
   obtain ⟨i4, vt4, vp4, Q4⟩ := Q3.step R4
   have C3 := a0s (Q4.ps.less (Nat.le_succ bud))
   rw [q9] at HA2
   clear Q3 R4
   generalize j8 r = nr at *
   go_wp2_with fail
   refine C3.mono ?_
   clear C3
   cases nr with
   | error er =>
    have HA3 : Hid (ans = .error er) := HA2.out.symm
    rintro e w5 ⟨rfl, G5⟩
    go_wp2
    refine ⟨rfl, ?_⟩
    rw [HA3.out]
    exact ⟨rfl, Q4.err G5⟩
   | ok v =>
    obtain ⟨n, r5⟩ := v
    rintro e w5 ⟨rfl, R5⟩
    obtain ⟨i5, vt5, vp5, Q5⟩ := Q4.step R5
    rw [q9] at HA2
    clear Q4 R5
    have Q6 := PV.set HP.out Q5 2 (.int .u32 (n : Int)) (I3 of side n 0) (by kernel_rfl)
    have v2 : w5.cell? ⟨V, 2, none⟩ = some (.int .u32 0) := Q5.var.cell 2
    have v2f := Q5.var.free 2
    clear Q5
    go_upto_region 8 with fail
    generalize w5.setCell ⟨V, 2, none⟩ (.int .u32 (n : Int)) = w6 at *
    have C4 := a0k (Q6.ps.less (Nat.le_succ bud)) [45] (s7 (by decide) (by kernel_rfl))
    clear v2 v2f
    generalize l5 [45] r5 = mr at *
    go_wp2_with fail
    refine C4.mono ?_
    clear C4
    cases mr with
    | error er =>
     have HA3 : Hid (ans = .error er) := HA2.out.symm
     rintro e w7 ⟨rfl, G7⟩
     go_wp2
     refine ⟨rfl, ?_⟩
     rw [HA3.out]
     exact ⟨rfl, Q6.err G7⟩
    | ok r7 =>
     rintro e w7 ⟨rfl, R7⟩
     obtain ⟨i7, vt7, vp7, Q7⟩ := Q6.step R7
     have C5 := a0s (Q7.ps.less (Nat.le_succ bud))
     rw [q9] at HA2
     clear Q6 R7
     generalize j8 r7 = nr at *
     go_wp2_with fail
     refine C5.mono ?_
     clear C5
     cases nr with
     | error er =>
      have HA3 : Hid (ans = .error er) := HA2.out.symm
      rintro e w8 ⟨rfl, G8⟩
      go_wp2
      refine ⟨rfl, ?_⟩
      rw [HA3.out]
      exact ⟨rfl, Q7.err G8⟩
     | ok v =>
      obtain ⟨m, r8⟩ := v
      rintro e w8 ⟨rfl, R8⟩
      obtain ⟨i8, vt8, vp8, Q8⟩ := Q7.step R8
      have HA3 : Hid (ans = .ok (I3 of side n m, r8)) := HA2.out.symm
      clear Q7 R8 HA2
      have Q9 := PV.set HP.out Q8 3 (.int .u32 (m : Int)) (I3 of side n m) (by kernel_rfl)
      have v3 : w8.cell? ⟨V, 3, none⟩ = some (.int .u32 0) := Q8.var.cell 3
      have v3f := Q8.var.free 3
      clear Q8
      go_upto_region 10 with fail
      generalize w8.setCell ⟨V, 3, none⟩ (.int .u32 (m : Int)) = w9 at *
      clear v3 v3f
      generalize I3 of side n m = X at *
      have VA9 := Q9.var
      have RA9 := Q9.res
      have HQ : Hid (PV c w vt vp (w9.setRow R X.cells.toArray) i8 vt8 vp8 r8 nest (bud + 1) ns R V X X) := PV.setR HP.out Q9 X
      clear Q9
      go_wp2_with (first
       | refine wpList_load_row rfl 54 (.tmp 7) rfl V rfl 54 _ (0, 0) _ VA9 Tryz.underlying54 rfl (T3 _) ?_
       | refine wpList_store_row rfl 54 (.tmp 6) (.tmp 42) rfl R X.cells.toArray rfl rfl 54 _ RA9 (T3 _) rfl (a0z _) ?_)
      refine bodyPost_ret (N8 rfl _ _ R _ _ rfl (RA9.setRow _) Tryz.underlying54 rfl (T3 _)) rfl ?_
      rw [HA3.out]
      exact ⟨rfl, HQ.out.ret⟩

end
theorem a48 (a : Option Addr) (ca n : Nat) (p s : Int) (w : World) (hn : n ≤ 140737488355328) :
  Calls Tryz.prog 145 #[.slice a n ca, .int .i64 p, .int .i64 s] w fun e w' => e = .returned (.bool (okB n p s)) ∧ w = w' := by
 by_cases h : s = 1 ∨ s = 2 ∨ s = 4
 ·rcases h with rfl | rfl | rfl
  all_goals
   go_enter Tryz.func145, Tryz.ntmps145
   go_wp2
   ·go_ret
    exact ⟨a2Z (a8j (by omega)), rfl⟩
   ·go_ret
    exact ⟨a2Z (a4N (by omega)), rfl⟩
 ·have h1 : (s != 1) = true := by rw [bne_iff_ne]; omega
  have h2 : (s != 2) = true := by rw [bne_iff_ne]; omega
  have h3 : (s != 4) = true := by rw [bne_iff_ne]; omega
  go_enter Tryz.func145, Tryz.ntmps145
  go_wp2
  go_ret
  exact ⟨a2Z (a4N (by omega)), rfl⟩
theorem a77 (a : Option Addr) (ca : Nat) (xs : List UInt8) (p s : Int) (w : World) (ha : z8 w a xs) (hn : xs.length ≤ 140737488355328) :
  Calls Tryz.prog 139 #[.slice a xs.length ca, .int .i64 p, .int .i64 s] w fun e w' => e = .returned (.tuple #[.int .u32 (a0A xs p s), .bool (okB xs.length p s)]) ∧ w = w' := by
 cases hok : okB xs.length p s with
 | false =>
  go_enter Tryz.func139, Tryz.ntmps139
  go_wp2_with (go_at_call 145; refine (a48 a ca xs.length p s _ hn).mono ?_; rintro e w' ⟨rfl, rfl⟩)
  go_ret2
  simp [a0A, hok]
 | true =>
  have hy := a8k hok
  obtain ⟨P, rfl⟩ := Int.eq_ofNat_of_zero_le hy.2.1
  obtain ⟨S, rfl⟩ : ∃ S : Nat, s = S := ⟨s.toNat, by omega⟩
  have hS : S = 1 ∨ S = 2 ∨ S = 4 := by omega
  have hP : P + S ≤ xs.length := by omega
  clear hy
  go_enter Tryz.func139, Tryz.ntmps139
  go_wp2_with (go_at_call 145; refine (a48 a ca xs.length P S _ hn).mono ?_; rintro e w' ⟨rfl, rfl⟩)
  go_loop [8, 16, 9] (fun v i _ => ∃ k : Nat, k ≤ S ∧ i = .int .i64 k ∧ v = .int .u32 (X7 xs P k)) (fun _ i _ => S - (intOf i).toNat)
  case atStart => exact ⟨0, Nat.zero_le _, rfl, rfl⟩
  case round =>
   obtain ⟨k, hk, rfl, rfl⟩ := hrel
   by_cases hlt : k < S
   ·obtain ⟨b, o, rfl, h1⟩ := ha.addr (k := P + k) (by omega)
    have c1 := h1 (P + k) (by omega)
    clear ha h1
    go_wp2
    go_round
    case rel => exact ⟨k + 1, by omega, by go_num, a8e xs P k (by omega) (by omega)⟩
    case measure => simp [intOf]; omega
   ·obtain rfl : k = S := by omega
    go_wp2
    go_ret2
    simp [a0A, hok]

open Go.RowKit Go.Shelf

attribute [local go_sem] Oper.semAt_some
def Kp (n : Nat) (S : Nat → Prop) (W W' : World) : Prop := Below n W W' ∧ ∀ k o, S k → W.heap[k]? = some o → o.isCells = true → W'.heap[k]? = some o
theorem Kp.refl (n : Nat) (S : Nat → Prop) (W : World) : Kp n S W W := ⟨Below.refl _ _, fun _ _ _ h _ => h⟩
theorem Kp.trans {n : Nat} {S : Nat → Prop} {A B C : World} (h : Kp n S A B) (k : Kp n S B C) : Kp n S A C := ⟨h.1.trans k.1, fun i o hi ho hc => k.2 i o hi (h.2 i o hi ho hc) hc⟩
theorem Kp.book {n : Nat} {S : Nat → Prop} {w : World} (hn : n ≤ w.heap.size) (W : World) (l : Nat) (o o' : Obj) (hl : w.heap.size ≤ l) (h : W.heap[l]? = some o) (hc : o.isCells = false) (hw : o.isWalk = false) : Kp n S W (W.putObj l o') :=
 ⟨belowK_b hn W l o o' hl h hc hw, fun k o2 _ h2 hc2 => by
  by_cases e : k = l
  ·subst e; rw [h] at h2; cases h2; rw [hc] at hc2; cases hc2
  ·exact (World.putObj_heap_other e).trans h2⟩
theorem Kp.cell {n : Nat} {S : Nat → Prop} {W W' : World} (K : Kp n S W W') {a : Addr} {v : Value} (hs : a.block < n ∨ S a.block) (h : W.cell? a = some v) : W'.cell? a = some v := by
 rcases hs with hs | hs
 ·exact (K.1.cell hs).trans h
 ·obtain ⟨o, ho, hc⟩ : ∃ o : Obj, W.heap[a.block]? = some o ∧ o.isCells = true := by
   unfold World.cell? at h
   cases ho : W.heap[a.block]? with
   | none => simp [ho] at h
   | some o => exact ⟨o, rfl, by cases o <;> simp_all [Obj.isCells]⟩
  have e := K.2 a.block o hs ho hc
  rw [a3J a (e.trans ho.symm)]
  exact h
theorem Kp.drewN {n : Nat} {S : Nat → Prop} (W : World) (m : Nat) (hn : n ≤ W.heap.size) : Kp n S W (W.drewN m) :=
 ⟨(Below.refl _ _).grown (f8 W m none) hn (by simp), fun k o _ h _ => ((f8 W m none).block k (Array.getElem?_eq_some_iff.1 h).1 (by simp)).trans h⟩
abbrev a2l (p : Nat × List UInt8) : Array Value := #[.int .i64 (p.1 : Int), str p.2]
theorem a3t (s m : ByteArray) (w : World) :
  Calls Tryz.prog 129 #[.string s, .string m] w fun e w' => e = .returned (.func (.func 134) #[] #[.pointer (some ⟨w.heap.size, 0, none⟩), .pointer (some ⟨w.heap.size + 1, 0, none⟩)]) ∧ w' = (w.alloc (.cells #[.string s] 9)).alloc (.cells #[.string m] 9) := by
 go_enter Tryz.func129, Tryz.ntmps129
 go_wp2
 go_ret
 exact ⟨rfl, rfl⟩
def a7z (r m : Value) : Nat := match m with
 | .bool true => a1s r + 1
 | _ => 0
theorem a5s (q : List UInt8) : a1s (str q) = q.length := by show (⟨q.toArray⟩ : ByteArray).size = _; rw [← j0]; rfl
theorem a8T (n : Nat) (hn : 1 ≤ n) (l Bs Bm n₀ : Nat) (S : Nat → Prop) (b : UInt8) (s : List UInt8) (hs : s.length ≤ 1048576) (hS : S Bm ∨ Bm < n₀) (h3 : 6 < n₀) (J Jx : List (Nat × List UInt8) → World → Prop)
  (hY : ∀ pre x W, J pre W → pre.length < (f9 b s).length → YieldAt Fence.wide (n - 1) Tryz.prog l (a2l x) W fun e W' =>
   (e = .returned (.bool true) ∧ J (pre ++ [x]) W' ∧ Kp n₀ S W W') ∨ (e = .returned (.bool false) ∧ Jx (pre ++ [x]) W'))
  (W : World) (hJ : AbidesFrom W.heap.size J) (T : x5 W) (hBs : W.cell? ⟨Bs, 0, none⟩ = some (str s)) (hBm : W.cell? ⟨Bm, 0, none⟩ = some (.string ⟨#[b]⟩)) (h0 : J [] W) :
  CallsIn Fence.wide n Tryz.prog 134 #[.func (.yield l) #[] #[], .pointer (some ⟨Bs, 0, none⟩), .pointer (some ⟨Bm, 0, none⟩)] W fun e W' => (∃ v, e = .returned v) ∧
   ((∃ ys, ys = y7 0 (f9 b s) ∧ J ys W') ∨ (∃ pre, pre <+: y7 0 (f9 b s) ∧ Jx pre W')) := by
 refine callsIn_of_wp Tryz.func134 rfl trivial ?_ rfl
 simp only [Tryz.ntmps134, List.size_toArray, List.length_cons, List.length_nil, Nat.reduceAdd, Nat.reduceSub, Array.replicate_succ, Array.replicate_zero, List.push_toArray, List.append_toArray, List.nil_append, List.cons_append]
 gi_wp2
 gi_loopw [4, 5, 6] (fun r m i wr => ∃ (pre : List (Nat × List UInt8)) (q : List UInt8) (mo : Bool), r = str q ∧ m = .bool mo ∧ i = .int .i64 (pre.length : Int) ∧ q.length ≤ 1048576 ∧ Hid (y7 0 (f9 b s) = pre ++ (if mo = true then y7 pre.length (f9 b q) else [])) ∧ J pre wr ∧ wr.cell? ⟨Bm, 0, none⟩ = some (.string ⟨#[b]⟩) ∧ Hid (x5 wr) ∧ W.heap.size ≤ wr.heap.size) (fun r m _ _ => a7z r m)
 case atStart => exact ⟨[], s, true, rfl, rfl, rfl, hs, (show y7 0 (f9 b s) = _ from rfl), h0, hBm, T, Nat.le_refl _⟩
 case round =>
  clear h0 hBs hBm T
  obtain ⟨pre, q, mo, rfl, rfl, rfl, hq, HN, hJs, hcm, HT, hsz⟩ := hrel
  cases mo with
  | false =>
   have HN2 : Hid (pre = y7 0 (f9 b s)) := by
    have := HN.out
    simp at this
    exact this.symm
   gi_wp2
   go_end0
   exact ⟨⟨_, rfl⟩, .inl ⟨pre, HN2.out, hJs⟩⟩
  | true =>
   have CC := a6D b q wr (by omega) HT.out
   have HL : Hid ((f9 b s).length = pre.length + (f9 b q).length) := by
    have := congrArg List.length HN.out
    simp only [if_true, List.length_append, a4G] at this
    exact this
   have hm1 := a1r b [] s
   have hsl : (f9 b s).length ≤ 1048577 := by unfold f9; omega
   clear hm1
   gi_wp2_with (refine ⟨trivial, ?_⟩; gi_at_call 131; refine (callsIn_wide.2 CC).mono ?_; rintro e w1 ⟨⟨x, y, m, rfl, hm⟩, k, rfl⟩)
   have hpos : 1 ≤ (f9 b q).length := by
    rcases hm with ⟨-, -, -, h⟩ | ⟨-, h, -⟩ <;> rw [h] <;> simp
   have hJ1 : J pre (wr.drewN k) := hJ pre wr _ none hJs (f8 wr k none) (fun r e => by cases e)
   obtain ⟨fn, tmps, assign, body, hy, hR⟩ := hY pre (pre.length, x) (wr.drewN k) hJ1 (by have := HL.out; omega)
   dsimp only [a2l] at hy
   have hpl : pre.length ≤ 1048577 := by have := HL.out; omega
   have HM : Hid ((m = false ∧ x = q ∧ y = [] ∧ f9 b q = [q]) ∨ (m = true ∧ f9 b q = x :: f9 b y ∧ x.length + y.length + 1 = q.length)) := hm
   have HTk : Hid (x5 (wr.drewN k)) := HT.out.grown (f8 wr k none)
   have hcm1 : (wr.drewN k).cell? ⟨Bm, 0, none⟩ = some (.string ⟨#[b]⟩) := (f8 wr k none).cell hcm (by simp)
   have hsz1 : W.heap.size ≤ (wr.drewN k).heap.size := Nat.le_trans hsz (f8 wr k none).size
   have HN3 : Hid (y7 0 (f9 b s) = (pre ++ [(pre.length, x)]) ++ (if m = true then y7 (pre ++ [(pre.length, x)]).length (f9 b y) else [])) := by
    show _ = _
    have h := HN.out
    simp only [if_true] at h
    rw [h]
    rcases hm with ⟨rfl, rfl, rfl, h⟩ | ⟨rfl, h, -⟩
    ·rw [h]
     simp [y7]
    ·rw [h]
     simp [y7]
   clear hm CC hcm hJs HN HT hsz hJ1
   generalize wr.drewN k = wk at *
   gi_wp2
   rw [hy, Oper.uponIn_round]
   refine ⟨fun _ => hn, hR.mono ?_⟩
   rintro e W3 (⟨rfl, hJ3, hk3⟩ | ⟨rfl, hJx3⟩)
   ·have hcm3 := hk3.cell (a := ⟨Bm, 0, none⟩) (hS.elim .inr .inl) hcm1
    have HT3 : Hid (x5 W3) := HTk.out.below h3 hk3.1
    have hsz3 : W.heap.size ≤ W3.heap.size := Nat.le_trans hsz1 hk3.1.size
    clear hcm1 HTk hsz1
    gi_wp2
    go_roundw
    case rel =>
     refine ⟨pre ++ [(pre.length, x)], y, m, rfl, rfl, by simp, ?_, HN3, hJ3, hcm3, HT3, hsz3⟩
     rcases HM.out with ⟨-, -, rfl, -⟩ | ⟨-, -, h⟩
     ·simp
     ·omega
    case measure =>
     rcases HM.out with ⟨rfl, -, -, -⟩ | ⟨rfl, -, h⟩
     ·show 0 < a1s (str q) + 1
      omega
     ·show a1s (str y) + 1 < a1s (str q) + 1
      rw [a5s, a5s]
      omega
   ·gi_wp2
    refine bodyPost_ret (results_none rfl _ _ _) rfl ?_
    exact ⟨⟨_, rfl⟩, .inr ⟨pre ++ [(pre.length, x)], ⟨_, HN3.out.symm⟩, hJx3⟩⟩
theorem a4U (n : Nat) (hn : 1 ≤ n) (Bs Bm n₀ : Nat) (S : Nat → Prop) (b : UInt8) (s : List UInt8) (hs : s.length ≤ 1048576) (hS : S Bm ∨ Bm < n₀) (h3 : 6 < n₀) (w : World) (T : x5 w) (hBs : w.cell? ⟨Bs, 0, none⟩ = some (str s)) (hBm : w.cell? ⟨Bm, 0, none⟩ = some (.string ⟨#[b]⟩)) :
  SeqStopsK Fence.wide n Tryz.prog 134 #[.pointer (some ⟨Bs, 0, none⟩), .pointer (some ⟨Bm, 0, none⟩)] a2l (Kp n₀ S) (fun ys => ys = y7 0 (f9 b s)) (fun pre => pre <+: y7 0 (f9 b s)) (f9 b s).length w := fun l J Jx W hW hJ _ hY h0 => by
 have lt : ∀ {a : Addr} {v : Value}, w.cell? a = some v → a.block < w.heap.size := fun {a v} h => by
  by_cases hb : a.block < w.heap.size
  ·exact hb
  ·unfold World.cell? at h
   rw [Array.getElem?_eq_none (by omega)] at h
   simp at h
 exact a8T n hn l Bs Bm n₀ S b s hs hS h3 J Jx hY W hJ (T.below T.size hW) ((hW.cell (p := ⟨Bs, 0, none⟩) (lt hBs)).trans hBs) ((hW.cell (p := ⟨Bm, 0, none⟩) (lt hBm)).trans hBm) h0

end Go.Proofs.YtlfmddjppejmaaaGreatDoor
