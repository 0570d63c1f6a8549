import Derived.Test.YtghbbephhoniaaaGreatDoorLotP39
import Derived.Test.YtghbbephhoniaaaGreatDoorLotP1
import Derived.RangeFuncNested
import Derived.RangeFuncBound
import Derived.RangeFuncCalls
import Derived.RangeFuncLeaves
import Derived.RangeFuncBox
import Derived.Shelf.Abstract
import Derived.Shelf.RegionOpen
import Derived.WalkKit
import Derived.OwnWalkIn
import Derived.TacticsInMore
import Derived.LoopNIn
import Derived.LoopIn
import Derived.Test.YtghbbephhoniaaaGreatDoorLotP37
import Derived.Test.YtghbbephhoniaaaGreatDoorLotP3
import Derived.Test.YtghbbephhoniaaaGreatDoorLotP2
namespace Go.Proofs.YtghbbephhoniaaaGreatDoor
open Go.RowKit
set_option maxRecDepth 100000

section
variable {c : PC} {w : World} {i nest bud : Nat} {vt vp : Value} {ts : List Tk} {ns : List (Nd × Nat)}
theorem ask_in {x : List UInt8} (h : wordsL.contains x = true) : Asked x := ask_w (by simpa using h)
set_option maxHeartbeats 1000000 in
theorem side_any (h : PS c w i vt vp ts nest bud ns) :
  Calls Tryz.prog 119 #[.pointer (some ⟨c.g, 0, none⟩)] w fun e w' => e = .returned (.int .i64 (sideN ts : Int)) ∧ Ret c w vt vp (sideR ts) nest bud ns w' := by
 have C1 := skip_any h wSrc (ask_in (by decide))
 have HC2 : Hid (∀ W, w.grownBy W none → Calls Tryz.prog 118 #[.pointer (some ⟨c.g, 0, none⟩), str wDst] W fun e w' => e = .returned (.bool (isB ts wDst)) ∧ SkipP c W vt vp ts nest bud ns (isB ts wDst) w') := fun W G => skip_any (h.keep G) wDst (ask_in (by decide))
 have HP : Hid (PS c w i vt vp ts nest bud ns) := h
 unfold sideR sideN
 cases h1 : isB ts wSrc with
 | true =>
  rw [h1] at C1
  clear h HC2
  rw [if_pos rfl]
  go_enter Tryz.func119, Tryz.ntmps119
  go_wp2_with fail
  refine C1.mono ?_
  rintro e w1 ⟨rfl, R⟩
  clear C1
  go_wp2
  go_ret
  exact ⟨rfl, Ret.less R (Nat.le_succ _)⟩
 | false =>
  rw [h1] at C1
  rw [if_neg (by simp)]
  cases h2 : isB ts wDst with
  | true =>
   rw [h2] at HC2
   rw [if_pos rfl]
   clear h
   go_enter Tryz.func119, Tryz.ntmps119
   go_wp2_with fail
   refine C1.mono ?_
   rintro e w1 ⟨rfl, hG⟩
   have G1 : w.grownBy w1 none := hG
   clear C1 hG
   go_wp2_with fail
   refine (HC2.out w1 G1).mono ?_
   rintro e w2 ⟨rfl, R⟩
   clear HC2
   go_wp2
   go_ret
   exact ⟨rfl, Ret.of (GB.non G1) (fun _ _ h => h) (Ret.less R (Nat.le_succ _))⟩
  | false =>
   rw [h2] at HC2
   rw [if_neg (by simp)]
   clear h
   go_enter Tryz.func119, Tryz.ntmps119
   go_wp2_with fail
   refine C1.mono ?_
   rintro e w1 ⟨rfl, hG⟩
   have G1 : w.grownBy w1 none := hG
   clear C1 hG
   go_wp2_with fail
   refine (HC2.out w1 G1).mono ?_
   rintro e w2 ⟨rfl, hG⟩
   have G2 : w1.grownBy w2 none := hG
   clear HC2 hG
   go_wp2
   go_ret
   have G := grown_trans G1 G2
   exact ⟨rfl, Ret.same (HP.out.keep G) (GB.non G)⟩
set_option maxHeartbeats 1000000 in
theorem proto_any (h : PS c w i vt vp ts nest bud ns) :
  Calls Tryz.prog 115 #[.pointer (some ⟨c.g, 0, none⟩)] w (TellP c w vt vp nest (bud + 1) ns (fun n : Nat => .int .u32 (n : Int)) (thenE (mustV wProto ts) numT)) := by
 have C1 := must_any h wProto (ask_in (by decide))
 cases hr : mustV wProto ts with
 | error er =>
  rw [hr] at C1
  rw [thenE_er]
  clear h hr
  go_enter Tryz.func115, Tryz.ntmps115
  go_wp2_with fail
  refine C1.mono ?_
  rintro e w1 ⟨rfl, G⟩
  go_wp2
  exact ⟨rfl, rfl, G⟩
 | ok r =>
  rw [hr] at C1
  rw [thenE_ok]
  obtain ⟨nr, hnr⟩ : ∃ x, numT r = x := ⟨_, rfl⟩
  have HN : Hid (numT r = nr) := hnr
  rw [hnr]
  clear h hr hnr
  go_enter Tryz.func115, Tryz.ntmps115
  go_wp2_with fail
  refine C1.mono ?_
  rintro e w1 ⟨rfl, i1, vt1, vp1, H1, G1, F1⟩
  clear C1
  have CN := rnumber_any (H1.less (Nat.le_succ bud))
  rw [HN.out] at CN
  clear H1
  go_wp2_with fail
  refine CN.mono ?_
  clear CN
  cases nr with
  | error er =>
   rintro e w2 ⟨rfl, G2⟩
   go_wp2
   exact ⟨rfl, rfl, G1.trans G2 F1⟩
  | ok v =>
   obtain ⟨m, r2⟩ := v
   rintro e w2 ⟨rfl, R2⟩
   go_wp2
   go_ret
   exact ⟨rfl, Ret.of G1 F1 R2⟩
theorem nd0_cells : nd0.cells.toArray = #[.int .i64 0, .int .i64 0, .int .u32 0, .int .u32 0, .int .i64 0, .int .i64 0, .int .i64 0, .int .u8 0, .int .u8 0, .int .u8 0, .int .u8 0, .int .u8 0, .int .u8 0, .int .u8 0, .int .u8 0, .int .u8 0, .int .u8 0, .int .u8 0, .int .u8 0, .int .u8 0, .int .u8 0, .int .u8 0, .int .u8 0, .int .i64 0] := by kernel_rfl
theorem sizeNd (x : Nd) : (Tryz.prog.info? 28).map (·.size) = some x.cells.toArray.size := size28
theorem all_nd (x : Nd) : x.cells.toArray.all (·.oneCell') = true := all_oneCell_toArray x.cells_one
theorem portN0_cells (of side : Nat) : (portN of side 0 0).cells.toArray = #[.int .i64 16, .int .i64 0, .int .u32 0, .int .u32 0, .int .i64 0, .int .i64 (of : Int), .int .i64 (side : Int), .int .u8 0, .int .u8 0, .int .u8 0, .int .u8 0, .int .u8 0, .int .u8 0, .int .u8 0, .int .u8 0, .int .u8 0, .int .u8 0, .int .u8 0, .int .u8 0, .int .u8 0, .int .u8 0, .int .u8 0, .int .u8 0, .int .i64 0] := by kernel_rfl
structure PV (c : PC) (w : World) (vt vp : Value) (W : World) (i' : Nat) (vt' vp' : Value) (ts' : List Tk) (nest bud' : Nat) (ns : List (Nd × Nat)) (R V : Nat) (y x : Nd) : Prop where
 ps : PS c W i' vt' vp' ts' nest bud' ns
 gb : GB w W (foot c.g vt vp)
 sh : ∀ x, x < w.heap.size → foot c.g vt' vp' x → foot c.g vt vp x
 fV : ¬ foot c.g vt' vp' V
 fR : ¬ foot c.g vt' vp' R
 var : VAt W V 28 x.cells.toArray
 res : VAt W R 28 y.cells.toArray
 lV : w.heap.size ≤ V
 lR : w.heap.size ≤ R
 ne : R ≠ V
theorem PV.keep {W W2 : World} {i1 bud1 R V : Nat} {vt1 vp1 : Value} {ts1 : List Tk} {y x : Nd} (h : PV c w vt vp W i1 vt1 vp1 ts1 nest bud1 ns R V y x) (G : W.grownBy W2 none) : PV c w vt vp W2 i1 vt1 vp1 ts1 nest bud1 ns R V y x :=
 { h with ps := h.ps.keep G, gb := h.gb.trans (GB.non (S := foot c.g vt vp) G) (fun _ _ h => h), var := h.var.kept G, res := h.res.kept G }
theorem PV.less {W : World} {i1 bud1 b R V : Nat} {vt1 vp1 : Value} {ts1 : List Tk} {y x : Nd} (h : PV c w vt vp W i1 vt1 vp1 ts1 nest bud1 ns R V y x) (hb : b ≤ bud1) : PV c w vt vp W i1 vt1 vp1 ts1 nest b ns R V y x := { h with ps := h.ps.less hb }
theorem PV.step {W W2 : World} {i1 bud1 bud2 R V : Nat} {vt1 vp1 : Value} {ts1 ts2 : List Tk} {y x : Nd} (h : PV c w vt vp W i1 vt1 vp1 ts1 nest bud1 ns R V y x) (r : Ret c W vt1 vp1 ts2 nest bud2 ns W2) : ∃ i2 vt2 vp2, PV c w vt vp W2 i2 vt2 vp2 ts2 nest bud2 ns R V y x := by
 obtain ⟨i2, vt2, vp2, p, g, f⟩ := r
 exact ⟨i2, vt2, vp2, p, h.gb.trans g h.sh, fun x hx k => h.sh x hx (f x (Nat.lt_of_lt_of_le hx h.gb.size) k), fun e => h.fV (f V h.var.lt e), fun e => h.fR (f R h.res.lt e), g.vat h.var h.fV, g.vat h.res h.fR, h.lV, h.lR, h.ne⟩
theorem PV.err {W W2 : World} {i1 bud1 R V : Nat} {vt1 vp1 : Value} {ts1 : List Tk} {y x : Nd} (h : PV c w vt vp W i1 vt1 vp1 ts1 nest bud1 ns R V y x) (g : GB W W2 (foot c.g vt1 vp1)) : GB w W2 (foot c.g vt vp) := h.gb.trans g h.sh
theorem PV.away {i0 nest0 bud0 : Nat} {ts0 : List Tk} {ns0 : List (Nd × Nat)} {S : Nat → Prop} {W W2 : World} {i1 bud1 R V : Nat} {vt1 vp1 : Value} {ts1 : List Tk} {y x y2 x2 : Nd} (hw : PS c w i0 vt vp ts0 nest0 bud0 ns0) (h : PV c w vt vp W i1 vt1 vp1 ts1 nest bud1 ns R V y x) (K : GB W W2 S) (hS : ∀ z, S z → z = V ∨ z = R) (A : VAt W2 V 28 x2.cells.toArray) (B : VAt W2 R 28 y2.cells.toArray) : PV c w vt vp W2 i1 vt1 vp1 ts1 nest bud1 ns R V y2 x2 :=
 { h with
  ps := h.ps.awayG K (fun z hz => by
   have hz2 : w.heap.size ≤ z ∧ ¬ foot c.g vt1 vp1 z := by
    rcases hS z hz with rfl | rfl
    ·exact ⟨h.lV, h.fV⟩
    ·exact ⟨h.lR, h.fR⟩
   exact ⟨hz2.2, fun e => by have := (hw.toks.lt z e).2; omega, Nat.le_trans hw.grown.size hz2.1⟩)
  gb := h.gb.trans K (fun z hz hs => by have := h.lV; have := h.lR; rcases hS z hs with rfl | rfl <;> omega)
  var := A, res := B }
theorem PV.set {i0 nest0 bud0 : Nat} {ts0 : List Tk} {ns0 : List (Nd × Nat)} {W : World} {i1 bud1 R V : Nat} {vt1 vp1 : Value} {ts1 : List Tk} {y x : Nd} (hw : PS c w i0 vt vp ts0 nest0 bud0 ns0) (h : PV c w vt vp W i1 vt1 vp1 ts1 nest bud1 ns R V y x) (k : Nat) (v : Value) (x2 : Nd) (e : x.cells.toArray.setIfInBounds k v = x2.cells.toArray) : PV c w vt vp (W.setCell ⟨V, k, none⟩ v) i1 vt1 vp1 ts1 nest bud1 ns R V y x2 :=
 PV.away hw h (GB.of (S := fun z => z = V) (grown_set W V k v) (fun z hz => by cases hz; rfl)) (fun z hz => .inl hz) (by have := h.var.set k v; rw [e] at this; exact this) (h.res.setOther v h.ne)
theorem PV.setR {i0 nest0 bud0 : Nat} {ts0 : List Tk} {ns0 : List (Nd × Nat)} {W : World} {i1 bud1 R V : Nat} {vt1 vp1 : Value} {ts1 : List Tk} {y x : Nd} (hw : PS c w i0 vt vp ts0 nest0 bud0 ns0) (h : PV c w vt vp W i1 vt1 vp1 ts1 nest bud1 ns R V y x) (y2 : Nd) : PV c w vt vp (W.setRow R y2.cells.toArray) i1 vt1 vp1 ts1 nest bud1 ns R V y2 x :=
 PV.away hw h (GB.of (S := fun z => z = R) (vgrown_setRow (World.grownBy.refl W (some R)) R _ (.inl rfl)) (fun z hz => by cases hz; rfl)) (fun z hz => .inr hz) (h.var.other _ (fun e => h.ne e.symm)) (h.res.setRow _)
theorem PV.ret {W : World} {i1 bud1 R V : Nat} {vt1 vp1 : Value} {ts1 : List Tk} {y x : Nd} (h : PV c w vt vp W i1 vt1 vp1 ts1 nest bud1 ns R V y x) : Ret c w vt vp ts1 nest bud1 ns W := ⟨i1, vt1, vp1, h.ps, h.gb, h.sh⟩
set_option maxHeartbeats 4000000 in
theorem port_any (h : PS c w i vt vp ts nest bud ns) (of side : Nat) :
  Calls Tryz.prog 121 #[.pointer (some ⟨c.g, 0, none⟩), .int .i64 (of : Int), .int .i64 (side : Int)] w (TellP c w vt vp nest (bud + 1) ns (fun x : Nd => .agg x.cells.toArray) (portV of side ts)) := by
 have HP : Hid (PS c w i vt vp ts nest bud ns) := h
 obtain ⟨ans, hans⟩ : ∃ a, portV of side ts = a := ⟨_, rfl⟩
 have HANS : Hid (portV of side ts = ans) := hans
 rw [hans]
 have K1 := World.grownBy_alloc w (.cells nd0.cells.toArray 28) none
 have RA := VAt.alloc w 28 nd0.cells.toArray
 clear h hans
 go_enter Tryz.func121, Tryz.ntmps121
 go_upto_region 1 with fail
 rw [← nd0_cells]
 generalize w.alloc (.cells nd0.cells.toArray 28) = w1 at *
 obtain ⟨R, hR⟩ : ∃ R, w.heap.size = R := ⟨_, rfl⟩
 rw [hR] at RA ⊢
 have HR2 : Hid (w.heap.size ≤ R) := Nat.le_of_eq hR
 clear hR
 have VA0 := VAt.alloc w1 28 nd0.cells.toArray
 rw [nd0_cells] at VA0
 go_upto_region 2 with (refine wpList_store_row rfl 28 (.tmp 7) (.tmp 10) rfl w1.heap.size (portN of side 0 0).cells.toArray rfl (by kernel_rfl) 28 _ VA0 (sizeNd _) rfl (all_nd _) ?_)
 rw [World.setRow_alloc_new]
 rw [← portN0_cells of side]
 clear VA0
 have K2 := World.grownBy_alloc w1 (.cells (portN of side 0 0).cells.toArray 28) none
 have RA2 := RA.kept K2
 have VA := VAt.alloc w1 28 (portN of side 0 0).cells.toArray
 have HV : Hid (w.heap.size ≤ w1.heap.size ∧ R ≠ w1.heap.size) := ⟨K1.size, fun e => by have := RA.lt; omega⟩
 have G := grown_trans K1 K2
 clear K1 K2 RA
 generalize w1.alloc (.cells (portN of side 0 0).cells.toArray 28) = w2 at *
 generalize w1.heap.size = V at *
 have HP2 : Hid (PS c w2 i vt vp ts nest bud ns) := HP.out.keep G
 have C1 := skip_any HP2.out wPort (ask_in (by decide))
 cases hb : isB ts wPort with
 | true =>
  rw [hb] at C1
  have HA2 : Hid (thenE (numT ts.tail) (fun p => .ok (portN of side p.1 p.1, p.2)) = ans) := by
   show _ = ans
   rw [← HANS.out, portV, if_pos hb]
  clear hb HANS
  obtain ⟨nr, hnr⟩ : ∃ x, numT ts.tail = x := ⟨_, rfl⟩
  have HN : Hid (numT ts.tail = nr) := hnr
  rw [hnr] at HA2
  clear hnr
  go_wp2_with fail
  refine C1.mono ?_
  rintro e w3 ⟨rfl, i3, vt3, vp3, H3, G3, F3⟩
  clear C1
  have HF : Hid (∀ x, w.heap.size ≤ x → x < w2.heap.size → ¬ foot c.g vt3 vp3 x) := fun x hx hx2 e => HP.out.not_foot hx (F3 x hx2 e)
  have VA3 := G3.vat VA (HP.out.not_foot HV.out.1)
  have RA3 := G3.vat RA2 (HP.out.not_foot HR2.out)
  have HG3 : Hid (GB w w3 (foot c.g vt vp) ∧ ∀ x, x < w.heap.size → foot c.g vt3 vp3 x → foot c.g vt vp x) := ⟨(GB.non G).trans G3 (fun _ _ h => h), fun x hx => F3 x (Nat.lt_of_lt_of_le hx G.size)⟩
  have HVL : Hid (V < w2.heap.size ∧ R < w2.heap.size) := ⟨VA.lt, RA2.lt⟩
  have CN := rnumber_any (H3.less (Nat.le_succ bud))
  rw [HN.out] at CN
  clear G G3 F3 VA RA2 H3 HP2
  go_wp2_with fail
  refine CN.mono ?_
  clear CN
  cases nr with
  | error er =>
   have HA3 : Hid (ans = .error er) := HA2.out.symm
   rintro e w4 ⟨rfl, G4⟩
   go_wp2
   refine ⟨rfl, ?_⟩
   rw [HA3.out]
   exact ⟨rfl, HG3.out.1.trans G4 HG3.out.2⟩
  | ok v =>
   obtain ⟨m, r2⟩ := v
   have HA3 : Hid (ans = .ok (portN of side m m, r2)) := HA2.out.symm
   rintro e w4 ⟨rfl, i4, vt4, vp4, H4, G4, F4⟩
   have VA4 := G4.vat VA3 (HF.out V HV.out.1 HVL.out.1)
   have RA4 := G4.vat RA3 (HF.out R HR2.out HVL.out.2)
   have HQ : Hid (PS c w4 i4 vt4 vp4 r2 nest (bud + 1) ns ∧ GB w w4 (foot c.g vt vp) ∧ (∀ x, x < w.heap.size → foot c.g vt4 vp4 x → foot c.g vt vp x) ∧ ¬ foot c.g vt4 vp4 V ∧ ¬ foot c.g vt4 vp4 R) :=
    ⟨H4, HG3.out.1.trans G4 HG3.out.2, fun x hx h => HG3.out.2 x hx (F4 x (Nat.lt_of_lt_of_le hx HG3.out.1.size) h), fun e => HF.out V HV.out.1 HVL.out.1 (F4 V VA3.lt e), fun e => HF.out R HR2.out HVL.out.2 (F4 R RA3.lt e)⟩
   clear HA2 HG3 HF HVL H4 G4 F4 VA3 RA3
   have v2 : w4.cell? ⟨V, 2, none⟩ = some (.int .u32 0) := VA4.cell 2
   have v2f := VA4.free 2
   have VA5 := VA4.set 2 (.int .u32 (m : Int))
   rw [show (portN of side 0 0).cells.toArray.setIfInBounds 2 (.int .u32 (m : Int)) = (portN of side m 0).cells.toArray by kernel_rfl] at VA5
   have RA5 := RA4.setOther (k := V) (i := 2) (.int .u32 (m : Int)) HV.out.2
   have HK5 : Hid (GB w4 (w4.setCell ⟨V, 2, none⟩ (.int .u32 (m : Int))) (fun x => x = V ∨ x = R)) := GB.of (grown_set w4 V 2 _) (fun x hx => by cases hx; exact .inl rfl)
   go_upto_region 4 with fail
   generalize w4.setCell ⟨V, 2, none⟩ (.int .u32 (m : Int)) = w5 at *
   clear v2 v2f VA4 RA4
   have v2 : w5.cell? ⟨V, 2, none⟩ = some (.int .u32 (m : Int)) := VA5.cell 2
   have v3 : w5.cell? ⟨V, 3, none⟩ = some (.int .u32 0) := VA5.cell 3
   have v3f := VA5.free 3
   have VA6 := VA5.set 3 (.int .u32 (m : Int))
   rw [show (portN of side m 0).cells.toArray.setIfInBounds 3 (.int .u32 (m : Int)) = (portN of side m m).cells.toArray by kernel_rfl] at VA6
   have RA6 := RA5.setOther (k := V) (i := 3) (.int .u32 (m : Int)) HV.out.2
   have HK6 : Hid (GB w4 (w5.setCell ⟨V, 3, none⟩ (.int .u32 (m : Int))) (fun x => x = V ∨ x = R)) := HK5.out.trans (GB.of (S := fun x => x = V ∨ x = R) (grown_set w5 V 3 (.int .u32 (m : Int))) (fun x hx => by cases hx; exact .inl rfl)) (fun _ _ h => h)
   go_upto_region 5 with fail
   generalize w5.setCell ⟨V, 3, none⟩ (.int .u32 (m : Int)) = w6 at *
   clear v2 v3 v3f VA5 RA5 HK5
   obtain ⟨X, hX⟩ : ∃ X, portN of side m m = X := ⟨_, rfl⟩
   rw [hX] at VA6
   have HX : Hid (portN of side m m = X) := hX
   clear hX
   go_wp2_with (first
    | refine wpList_load_row rfl 28 (.tmp 7) rfl V rfl 28 _ (0, 0) _ VA6 Tryz.underlying28 rfl (sizeNd _) ?_
    | refine wpList_store_row rfl 28 (.tmp 6) (.tmp 23) rfl R X.cells.toArray rfl rfl 28 _ RA6 (sizeNd _) rfl (all_nd _) ?_)
   refine bodyPost_ret (retRow1 rfl _ _ R _ _ rfl (RA6.setRow _) Tryz.underlying28 rfl (sizeNd _)) rfl ?_
   rw [HA3.out, HX.out]
   obtain ⟨H4, G4, F4, fV, fR⟩ := HQ.out
   refine ⟨rfl, Ret.finG HP.out G4 F4 H4 (HK6.out.trans (GB.of (S := fun x => x = V ∨ x = R) (vgrown_setRow (World.grownBy.refl w6 (some R)) R X.cells.toArray (.inl rfl)) (fun x hx => by cases hx; exact .inr rfl)) (fun _ _ h => h)) ?_⟩
   rintro x (rfl | rfl)
   ·exact ⟨HV.out.1, fV⟩
   ·exact ⟨HR2.out, fR⟩
 | false =>
  rw [hb] at C1
  have HA2 : Hid (thenE (mustV wPortrange ts) (fun r => thenE (numT r) fun p => thenE (mustV [45] p.2) fun r2 => thenE (numT r2) fun q => .ok (portN of side p.1 q.1, q.2)) = ans) := by
   show _ = ans
   rw [← HANS.out, portV, if_neg (by rw [hb]; simp)]
  have Q2 : PV c w vt vp w2 i vt vp ts nest bud ns R V nd0 (portN of side 0 0) := ⟨HP2.out, GB.non G, fun _ _ h => h, HP.out.not_foot HV.out.1, HP.out.not_foot HR2.out, VA, RA2, HV.out.1, HR2.out, HV.out.2⟩
  clear hb HANS VA RA2 G HP2
  go_wp2_with fail
  refine C1.mono ?_
  rintro e w3 ⟨rfl, hG⟩
  have G3 : w2.grownBy w3 none := hG
  have Q3 := Q2.keep G3
  have C2 := must_any Q3.ps wPortrange (ask_in (by decide))
  clear C1 hG G3 Q2
  generalize mustV wPortrange ts = mr at *
  go_wp2_with fail
  refine C2.mono ?_
  clear C2
  cases mr with
  | error er =>
   have HA3 : Hid (ans = .error er) := HA2.out.symm
   rintro e w4 ⟨rfl, G4⟩
   go_wp2
   refine ⟨rfl, ?_⟩
   rw [HA3.out]
   exact ⟨rfl, Q3.err G4⟩
  | ok r =>
   rintro e w4 ⟨rfl, R4⟩
   obtain ⟨i4, vt4, vp4, Q4⟩ := Q3.step R4
   have C3 := rnumber_any (Q4.ps.less (Nat.le_succ bud))
   rw [thenE_ok] at HA2
   clear Q3 R4
   generalize numT r = nr at *
   go_wp2_with fail
   refine C3.mono ?_
   clear C3
   cases nr with
   | error er =>
    have HA3 : Hid (ans = .error er) := HA2.out.symm
    rintro e w5 ⟨rfl, G5⟩
    go_wp2
    refine ⟨rfl, ?_⟩
    rw [HA3.out]
    exact ⟨rfl, Q4.err G5⟩
   | ok v =>
    obtain ⟨n, r5⟩ := v
    rintro e w5 ⟨rfl, R5⟩
    obtain ⟨i5, vt5, vp5, Q5⟩ := Q4.step R5
    rw [thenE_ok] at HA2
    clear Q4 R5
    have Q6 := PV.set HP.out Q5 2 (.int .u32 (n : Int)) (portN of side n 0) (by kernel_rfl)
    have v2 : w5.cell? ⟨V, 2, none⟩ = some (.int .u32 0) := Q5.var.cell 2
    have v2f := Q5.var.free 2
    clear Q5
    go_upto_region 8 with fail
    generalize w5.setCell ⟨V, 2, none⟩ (.int .u32 (n : Int)) = w6 at *
    have C4 := must_any (Q6.ps.less (Nat.le_succ bud)) [45] (ask_s (by decide) (by kernel_rfl))
    clear v2 v2f
    generalize mustV [45] r5 = mr at *
    go_wp2_with fail
    refine C4.mono ?_
    clear C4
    cases mr with
    | error er =>
     have HA3 : Hid (ans = .error er) := HA2.out.symm
     rintro e w7 ⟨rfl, G7⟩
     go_wp2
     refine ⟨rfl, ?_⟩
     rw [HA3.out]
     exact ⟨rfl, Q6.err G7⟩
    | ok r7 =>
     rintro e w7 ⟨rfl, R7⟩
     obtain ⟨i7, vt7, vp7, Q7⟩ := Q6.step R7
     have C5 := rnumber_any (Q7.ps.less (Nat.le_succ bud))
     rw [thenE_ok] at HA2
     clear Q6 R7
     generalize numT r7 = nr at *
     go_wp2_with fail
     refine C5.mono ?_
     clear C5
     cases nr with
     | error er =>
      have HA3 : Hid (ans = .error er) := HA2.out.symm
      rintro e w8 ⟨rfl, G8⟩
      go_wp2
      refine ⟨rfl, ?_⟩
      rw [HA3.out]
      exact ⟨rfl, Q7.err G8⟩
     | ok v =>
      obtain ⟨m, r8⟩ := v
      rintro e w8 ⟨rfl, R8⟩
      obtain ⟨i8, vt8, vp8, Q8⟩ := Q7.step R8
      have HA3 : Hid (ans = .ok (portN of side n m, r8)) := HA2.out.symm
      clear Q7 R8 HA2
      have Q9 := PV.set HP.out Q8 3 (.int .u32 (m : Int)) (portN of side n m) (by kernel_rfl)
      have v3 : w8.cell? ⟨V, 3, none⟩ = some (.int .u32 0) := Q8.var.cell 3
      have v3f := Q8.var.free 3
      clear Q8
      go_upto_region 10 with fail
      generalize w8.setCell ⟨V, 3, none⟩ (.int .u32 (m : Int)) = w9 at *
      clear v3 v3f
      generalize portN of side n m = X at *
      have VA9 := Q9.var
      have RA9 := Q9.res
      have HQ : Hid (PV c w vt vp (w9.setRow R X.cells.toArray) i8 vt8 vp8 r8 nest (bud + 1) ns R V X X) := PV.setR HP.out Q9 X
      clear Q9
      go_wp2_with (first
       | refine wpList_load_row rfl 28 (.tmp 7) rfl V rfl 28 _ (0, 0) _ VA9 Tryz.underlying28 rfl (sizeNd _) ?_
       | refine wpList_store_row rfl 28 (.tmp 6) (.tmp 42) rfl R X.cells.toArray rfl rfl 28 _ RA9 (sizeNd _) rfl (all_nd _) ?_)
      refine bodyPost_ret (retRow1 rfl _ _ R _ _ rfl (RA9.setRow _) Tryz.underlying28 rfl (sizeNd _)) rfl ?_
      rw [HA3.out]
      exact ⟨rfl, HQ.out.ret⟩

end
set_option maxHeartbeats 400000 in
theorem holds_any (a : Option Addr) (ca n : Nat) (p s : Int) (w : World) (hn : n ≤ 140737488355328) :
  Calls Tryz.prog 143 #[.slice a n ca, .int .i64 p, .int .i64 s] w fun e w' => e = .returned (.bool (okB n p s)) ∧ w = w' := by
 by_cases h : s = 1 ∨ s = 2 ∨ s = 4
 ·rcases h with rfl | rfl | rfl
  all_goals
   go_enter Tryz.func143, Tryz.ntmps143
   go_wp2
   ·go_ret
    exact ⟨ret_bool (okB_of (by omega)), rfl⟩
   ·go_ret
    exact ⟨ret_bool (okB_no (by omega)), rfl⟩
 ·have h1 : (s != 1) = true := by rw [bne_iff_ne]; omega
  have h2 : (s != 2) = true := by rw [bne_iff_ne]; omega
  have h3 : (s != 4) = true := by rw [bne_iff_ne]; omega
  go_enter Tryz.func143, Tryz.ntmps143
  go_wp2
  go_ret
  exact ⟨ret_bool (okB_no (by omega)), rfl⟩
set_option maxHeartbeats 400000 in
theorem get_any (a : Option Addr) (ca : Nat) (xs : List UInt8) (p s : Int) (w : World) (ha : Cells w a xs) (hn : xs.length ≤ 140737488355328) :
  Calls Tryz.prog 137 #[.slice a xs.length ca, .int .i64 p, .int .i64 s] w fun e w' => e = .returned (.tuple #[.int .u32 (getV xs p s), .bool (okB xs.length p s)]) ∧ w = w' := by
 cases hok : okB xs.length p s with
 | false =>
  go_enter Tryz.func137, Tryz.ntmps137
  go_wp2_with (go_at_call 143; refine (holds_any a ca xs.length p s _ hn).mono ?_; rintro e w' ⟨rfl, rfl⟩)
  go_ret2
  simp [getV, hok]
 | true =>
  have hy := okB_yes hok
  obtain ⟨P, rfl⟩ := Int.eq_ofNat_of_zero_le hy.2.1
  obtain ⟨S, rfl⟩ : ∃ S : Nat, s = S := ⟨s.toNat, by omega⟩
  have hS : S = 1 ∨ S = 2 ∨ S = 4 := by omega
  have hP : P + S ≤ xs.length := by omega
  clear hy
  go_enter Tryz.func137, Tryz.ntmps137
  go_wp2_with (go_at_call 143; refine (holds_any a ca xs.length P S _ hn).mono ?_; rintro e w' ⟨rfl, rfl⟩)
  go_loop [8, 16, 9] (fun v i _ => ∃ k : Nat, k ≤ S ∧ i = .int .i64 k ∧ v = .int .u32 (numAt xs P k)) (fun _ i _ => S - (intOf i).toNat)
  case atStart => exact ⟨0, Nat.zero_le _, rfl, rfl⟩
  case round =>
   obtain ⟨k, hk, rfl, rfl⟩ := hrel
   by_cases hlt : k < S
   ·obtain ⟨b, o, rfl, h1⟩ := ha.addr (k := P + k) (by omega)
    have c1 := h1 (P + k) (by omega)
    clear ha h1
    go_wp2
    go_round
    case rel => exact ⟨k + 1, by omega, by go_num, numAt_step xs P k (by omega) (by omega)⟩
    case measure => simp [intOf]; omega
   ·obtain rfl : k = S := by omega
    go_wp2
    go_ret2
    simp [getV, hok]

open Go.RowKit Go.Shelf

attribute [local go_sem] Oper.semAt_some
def Kp (n : Nat) (S : Nat → Prop) (W W' : World) : Prop := Below n W W' ∧ ∀ k o, S k → W.heap[k]? = some o → o.isCells = true → W'.heap[k]? = some o
theorem Kp.refl (n : Nat) (S : Nat → Prop) (W : World) : Kp n S W W := ⟨Below.refl _ _, fun _ _ _ h _ => h⟩
theorem Kp.trans {n : Nat} {S : Nat → Prop} {A B C : World} (h : Kp n S A B) (k : Kp n S B C) : Kp n S A C := ⟨h.1.trans k.1, fun i o hi ho hc => k.2 i o hi (h.2 i o hi ho hc) hc⟩
theorem Kp.book {n : Nat} {S : Nat → Prop} {w : World} (hn : n ≤ w.heap.size) (W : World) (l : Nat) (o o' : Obj) (hl : w.heap.size ≤ l) (h : W.heap[l]? = some o) (hc : o.isCells = false) (hw : o.isWalk = false) : Kp n S W (W.putObj l o') :=
 ⟨belowK_b hn W l o o' hl h hc hw, fun k o2 _ h2 hc2 => by
  by_cases e : k = l
  ·subst e; rw [h] at h2; cases h2; rw [hc] at hc2; cases hc2
  ·exact (World.putObj_heap_other e).trans h2⟩
theorem Kp.cell {n : Nat} {S : Nat → Prop} {W W' : World} (K : Kp n S W W') {a : Addr} {v : Value} (hs : a.block < n ∨ S a.block) (h : W.cell? a = some v) : W'.cell? a = some v := by
 rcases hs with hs | hs
 ·exact (K.1.cell hs).trans h
 ·obtain ⟨o, ho, hc⟩ : ∃ o : Obj, W.heap[a.block]? = some o ∧ o.isCells = true := by
   unfold World.cell? at h
   cases ho : W.heap[a.block]? with
   | none => simp [ho] at h
   | some o => exact ⟨o, rfl, by cases o <;> simp_all [Obj.isCells]⟩
  have e := K.2 a.block o hs ho hc
  rw [cell_same a (e.trans ho.symm)]
  exact h
theorem Kp.drewN {n : Nat} {S : Nat → Prop} (W : World) (m : Nat) (hn : n ≤ W.heap.size) : Kp n S W (W.drewN m) :=
 ⟨(Below.refl _ _).grown (grown_drewN W m none) hn (by simp), fun k o _ h _ => ((grown_drewN W m none).block k (Array.getElem?_eq_some_iff.1 h).1 (by simp)).trans h⟩
abbrev encP (p : Nat × List UInt8) : Array Value := #[.int .i64 (p.1 : Int), str p.2]
set_option maxHeartbeats 1000000 in
theorem parts_any (s m : ByteArray) (w : World) :
  Calls Tryz.prog 127 #[.string s, .string m] w fun e w' => e = .returned (.func (.func 132) #[] #[.pointer (some ⟨w.heap.size, 0, none⟩), .pointer (some ⟨w.heap.size + 1, 0, none⟩)]) ∧ w' = (w.alloc (.cells #[.string s] 9)).alloc (.cells #[.string m] 9) := by
 go_enter Tryz.func127, Tryz.ntmps127
 go_wp2
 go_ret
 exact ⟨rfl, rfl⟩
def leftP (r m : Value) : Nat := match m with
 | .bool true => strLen r + 1
 | _ => 0
theorem strLen_str (q : List UInt8) : strLen (str q) = q.length := by show (⟨q.toArray⟩ : ByteArray).size = _; rw [← sl_len]; rfl
set_option maxRecDepth 100000 in
set_option maxHeartbeats 2000000 in
theorem parts1_in (n : Nat) (hn : 1 ≤ n) (l Bs Bm n₀ : Nat) (S : Nat → Prop) (b : UInt8) (s : List UInt8) (hs : s.length ≤ 1048576) (hS : S Bm ∨ Bm < n₀) (h3 : 6 < n₀) (J Jx : List (Nat × List UInt8) → World → Prop)
  (hY : ∀ pre x W, J pre W → pre.length < (splitV b s).length → YieldAt Fence.wide (n - 1) Tryz.prog l (encP x) W fun e W' =>
   (e = .returned (.bool true) ∧ J (pre ++ [x]) W' ∧ Kp n₀ S W W') ∨ (e = .returned (.bool false) ∧ Jx (pre ++ [x]) W'))
  (W : World) (hJ : AbidesFrom W.heap.size J) (T : TabA W) (hBs : W.cell? ⟨Bs, 0, none⟩ = some (str s)) (hBm : W.cell? ⟨Bm, 0, none⟩ = some (.string ⟨#[b]⟩)) (h0 : J [] W) :
  CallsIn Fence.wide n Tryz.prog 132 #[.func (.yield l) #[] #[], .pointer (some ⟨Bs, 0, none⟩), .pointer (some ⟨Bm, 0, none⟩)] W fun e W' => (∃ v, e = .returned v) ∧
   ((∃ ys, ys = numF 0 (splitV b s) ∧ J ys W') ∨ (∃ pre, pre <+: numF 0 (splitV b s) ∧ Jx pre W')) := by
 refine callsIn_of_wp Tryz.func132 rfl trivial ?_ rfl
 simp only [Tryz.ntmps132, List.size_toArray, List.length_cons, List.length_nil, Nat.reduceAdd, Nat.reduceSub, Array.replicate_succ, Array.replicate_zero, List.push_toArray, List.append_toArray, List.nil_append, List.cons_append]
 gi_wp2
 gi_loopw [4, 5, 6] (fun r m i wr => ∃ (pre : List (Nat × List UInt8)) (q : List UInt8) (mo : Bool), r = str q ∧ m = .bool mo ∧ i = .int .i64 (pre.length : Int) ∧ q.length ≤ 1048576 ∧ Hid (numF 0 (splitV b s) = pre ++ (if mo = true then numF pre.length (splitV b q) else [])) ∧ J pre wr ∧ wr.cell? ⟨Bm, 0, none⟩ = some (.string ⟨#[b]⟩) ∧ Hid (TabA wr) ∧ W.heap.size ≤ wr.heap.size) (fun r m _ _ => leftP r m)
 case atStart => exact ⟨[], s, true, rfl, rfl, rfl, hs, (show numF 0 (splitV b s) = _ from rfl), h0, hBm, T, Nat.le_refl _⟩
 case round =>
  clear h0 hBs hBm T
  obtain ⟨pre, q, mo, rfl, rfl, rfl, hq, HN, hJs, hcm, HT, hsz⟩ := hrel
  cases mo with
  | false =>
   have HN2 : Hid (pre = numF 0 (splitV b s)) := by
    have := HN.out
    simp at this
    exact this.symm
   gi_wp2
   go_end0
   exact ⟨⟨_, rfl⟩, .inl ⟨pre, HN2.out, hJs⟩⟩
  | true =>
   have CC := cut1_any b q wr (by omega) HT.out
   have HL : Hid ((splitV b s).length = pre.length + (splitV b q).length) := by
    have := congrArg List.length HN.out
    simp only [if_true, List.length_append, numF_len] at this
    exact this
   have hm1 := splitG_many b [] s
   have hsl : (splitV b s).length ≤ 1048577 := by unfold splitV; omega
   clear hm1
   gi_wp2_with (refine ⟨trivial, ?_⟩; gi_at_call 129; refine (callsIn_wide.2 CC).mono ?_; rintro e w1 ⟨⟨x, y, m, rfl, hm⟩, k, rfl⟩)
   have hpos : 1 ≤ (splitV b q).length := by
    rcases hm with ⟨-, -, -, h⟩ | ⟨-, h, -⟩ <;> rw [h] <;> simp
   have hJ1 : J pre (wr.drewN k) := hJ pre wr _ none hJs (grown_drewN wr k none) (fun r e => by cases e)
   obtain ⟨fn, tmps, assign, body, hy, hR⟩ := hY pre (pre.length, x) (wr.drewN k) hJ1 (by have := HL.out; omega)
   dsimp only [encP] at hy
   have hpl : pre.length ≤ 1048577 := by have := HL.out; omega
   have HM : Hid ((m = false ∧ x = q ∧ y = [] ∧ splitV b q = [q]) ∨ (m = true ∧ splitV b q = x :: splitV b y ∧ x.length + y.length + 1 = q.length)) := hm
   have HTk : Hid (TabA (wr.drewN k)) := HT.out.grown (grown_drewN wr k none)
   have hcm1 : (wr.drewN k).cell? ⟨Bm, 0, none⟩ = some (.string ⟨#[b]⟩) := (grown_drewN wr k none).cell hcm (by simp)
   have hsz1 : W.heap.size ≤ (wr.drewN k).heap.size := Nat.le_trans hsz (grown_drewN wr k none).size
   have HN3 : Hid (numF 0 (splitV b s) = (pre ++ [(pre.length, x)]) ++ (if m = true then numF (pre ++ [(pre.length, x)]).length (splitV b y) else [])) := by
    show _ = _
    have h := HN.out
    simp only [if_true] at h
    rw [h]
    rcases hm with ⟨rfl, rfl, rfl, h⟩ | ⟨rfl, h, -⟩
    ·rw [h]
     simp [numF]
    ·rw [h]
     simp [numF]
   clear hm CC hcm hJs HN HT hsz hJ1
   generalize wr.drewN k = wk at *
   gi_wp2
   rw [hy, Oper.uponIn_round]
   refine ⟨fun _ => hn, hR.mono ?_⟩
   rintro e W3 (⟨rfl, hJ3, hk3⟩ | ⟨rfl, hJx3⟩)
   ·have hcm3 := hk3.cell (a := ⟨Bm, 0, none⟩) (hS.elim .inr .inl) hcm1
    have HT3 : Hid (TabA W3) := HTk.out.below h3 hk3.1
    have hsz3 : W.heap.size ≤ W3.heap.size := Nat.le_trans hsz1 hk3.1.size
    clear hcm1 HTk hsz1
    gi_wp2
    go_roundw
    case rel =>
     refine ⟨pre ++ [(pre.length, x)], y, m, rfl, rfl, by simp, ?_, HN3, hJ3, hcm3, HT3, hsz3⟩
     rcases HM.out with ⟨-, -, rfl, -⟩ | ⟨-, -, h⟩
     ·simp
     ·omega
    case measure =>
     rcases HM.out with ⟨rfl, -, -, -⟩ | ⟨rfl, -, h⟩
     ·show 0 < strLen (str q) + 1
      omega
     ·show strLen (str y) + 1 < strLen (str q) + 1
      rw [strLen_str, strLen_str]
      omega
   ·gi_wp2
    refine bodyPost_ret (results_none rfl _ _ _) rfl ?_
    exact ⟨⟨_, rfl⟩, .inr ⟨pre ++ [(pre.length, x)], ⟨_, HN3.out.symm⟩, hJx3⟩⟩
theorem parts_stops (n : Nat) (hn : 1 ≤ n) (Bs Bm n₀ : Nat) (S : Nat → Prop) (b : UInt8) (s : List UInt8) (hs : s.length ≤ 1048576) (hS : S Bm ∨ Bm < n₀) (h3 : 6 < n₀) (w : World) (T : TabA w) (hBs : w.cell? ⟨Bs, 0, none⟩ = some (str s)) (hBm : w.cell? ⟨Bm, 0, none⟩ = some (.string ⟨#[b]⟩)) :
  SeqStopsK Fence.wide n Tryz.prog 132 #[.pointer (some ⟨Bs, 0, none⟩), .pointer (some ⟨Bm, 0, none⟩)] encP (Kp n₀ S) (fun ys => ys = numF 0 (splitV b s)) (fun pre => pre <+: numF 0 (splitV b s)) (splitV b s).length w := fun l J Jx W hW hJ _ hY h0 => by
 have lt : ∀ {a : Addr} {v : Value}, w.cell? a = some v → a.block < w.heap.size := fun {a v} h => by
  by_cases hb : a.block < w.heap.size
  ·exact hb
  ·unfold World.cell? at h
   rw [Array.getElem?_eq_none (by omega)] at h
   simp at h
 exact parts1_in n hn l Bs Bm n₀ S b s hs hS h3 J Jx hY W hJ (T.below T.size hW) ((hW.cell (p := ⟨Bs, 0, none⟩) (lt hBs)).trans hBs) ((hW.cell (p := ⟨Bm, 0, none⟩) (lt hBm)).trans hBm) h0
theorem num_mono {m : Nat} : ∀ (v : Nat) (d : List UInt8) (n : Nat), numFrom m v d = some n → v ≤ n
 | v, [], n, h => by simp [numFrom] at h; omega
 | v, c :: d, n, h => by
  rw [numFrom] at h
  split at h
  ·split at h
   ·cases h
   ·have := num_mono _ d n h; omega
  ·cases h
theorem num_cut {a b : Nat} (hab : a ≤ b) : ∀ (d : List UInt8) (v : Nat), v ≤ a → numFrom a v d = (numFrom b v d).bind fun u => if a < u then none else some u
 | [], v, hv => by simp [numFrom]; omega
 | c :: d, v, hv => by
  rw [numFrom, numFrom]
  split
  ·by_cases h1 : a < 10 * v + (c.toNat - 48)
   ·rw [if_pos h1]
    split
    ·rfl
    ·cases hn : numFrom b (10 * v + (c.toNat - 48)) d with
     | none => rfl
     | some u =>
      have := num_mono _ d u hn
      simp only [Option.bind_some]
      rw [if_pos (by omega)]
   ·rw [if_neg h1, if_neg (by omega)]
    exact num_cut hab d _ (by omega)
  ·rfl
def OctPost (s : ByteArray) (e : Ending) : Prop := ∃ n : Nat, e = .returned (.tuple #[.int .u8 (n : Int), .bool (numberV 255 (sl s)).isSome]) ∧ n < 256 ∧ ∀ u, numberV 255 (sl s) = some u → n = u
theorem oct_none {s : ByteArray} {e : Ending} (h : numberV 255 (sl s) = none) (he : e = .returned (.tuple #[.int .u8 0, .bool false])) : OctPost s e :=
 ⟨0, by rw [h]; exact he, by decide, fun u hu => by rw [h] at hu; cases hu⟩
set_option maxHeartbeats 2000000 in
theorem octet_any (s : ByteArray) (w : World) :
  Calls Tryz.prog 128 #[.string s] w fun e w' => OctPost s e ∧ w = w' := by
 have hl := sl_len s
 by_cases h0 : s.size = 0
 ·have hn : numberV 255 (sl s) = none := by
   have : sl s = [] := List.eq_nil_of_length_eq_zero (by rw [sl_len]; exact h0)
   simp [numberV, this]
  have HN : Hid (numberV 255 (sl s) = none) := hn
  have hq : (s.size : Int) < 1 := by omega
  clear hn
  go_enter Tryz.func128, Tryz.ntmps128
  go_wp2
  go_ret2
  exact ⟨oct_none HN.out rfl, rfl⟩
 ·have hq : ¬ (s.size : Int) < 1 := by omega
  by_cases h3 : 3 < s.size
  ·have hq3 : (3 : Int) < (s.size : Int) := by omega
   have hn : numberV 255 (sl s) = none := by
    rw [numberV]
    split
    ·rfl
    ·rename_i hh
     obtain ⟨a, b, c, d, r, hs⟩ : ∃ a b c d r, sl s = a :: b :: c :: d :: r := by
      match hm : sl s, hl with
      | a :: b :: c :: d :: r, _ => exact ⟨a, b, c, d, r, rfl⟩
      | [], hl => simp at hl; omega
      | [a], hl => simp at hl; omega
      | [a, b], hl => simp at hl; omega
      | [a, b, c], hl => simp at hl; omega
     rw [hs]
     simp only [hs, List.head?_cons, Option.some.injEq, List.length_cons] at hh
     have ha : a ≠ 48 := fun e => hh (.inr ⟨by omega, e⟩)
     simp only [numFrom]
     split
     ·rename_i hd
      have h49 : 49 ≤ a.toNat := by
       have h48 : a.toNat ≠ 48 := fun e => ha (UInt8.toNat_inj.1 e)
       simp [isDig] at hd
       omega
      split
      ·rfl
      ·split
       ·split
        ·rfl
        ·split
         ·split
          ·rfl
          ·split
           ·rw [if_pos (by omega)]
           ·rfl
         ·rfl
       ·rfl
     ·rfl
   have HN : Hid (numberV 255 (sl s) = none) := hn
   clear hn
   go_enter Tryz.func128, Tryz.ntmps128
   go_wp2
   go_ret2
   exact ⟨oct_none HN.out rfl, rfl⟩
  ·have hq3 : ¬ (3 : Int) < (s.size : Int) := by omega
   obtain ⟨b, r, hbr⟩ : ∃ b r, sl s = b :: r := by
    cases h : sl s with
    | nil => rw [h] at hl; simp at hl; omega
    | cons b r => exact ⟨b, r, rfl⟩
   have hb0 : s[0]'(by omega) = b := by
    have := sl_drop s 0 (by omega)
    rw [hbr] at this
    simpa using this.symm
   by_cases hlead : 1 < s.size ∧ b = 48
   ·have hn : numberV 255 (sl s) = none := by
     rw [numberV, if_pos]
     rw [hbr]
     right
     rw [hbr] at hl
     exact ⟨by omega, by rw [hlead.2]; rfl⟩
    have HN : Hid (numberV 255 (sl s) = none) := hn
    clear hn
    obtain ⟨h1, rfl⟩ := hlead
    have h1' : (1 : Int) < (s.size : Int) := by omega
    go_enter Tryz.func128, Tryz.ntmps128
    go_wp2
    go_ret2
    exact ⟨oct_none HN.out rfl, rfl⟩
   ·have e : numberV 255 (sl s) = numFrom 255 0 (sl s) := by
     rw [numberV, if_neg]
     rw [hbr]
     rw [hbr] at hl
     simp only [reduceCtorEq, List.head?_cons, Option.some.injEq, false_or]
     intro ⟨x, y⟩
     exact hlead ⟨by omega, y⟩
    have e2 := num_cut (a := 255) (b := 999) (by decide) (sl s) 0 (by decide)
    have HE : Hid (numberV 255 (sl s) = (numFrom 999 0 (sl s)).bind fun u => if 255 < u then none else some u) := e.trans e2
    have hcase : ((b.toNat : Int) == 48) = false ∨ (((b.toNat : Int) == 48) = true ∧ ¬ (1 : Int) < (s.size : Int)) := by
     by_cases hb : b.toNat = 48
     ·refine .inr ⟨by rw [hb]; rfl, fun h1 => hlead ⟨by omega, UInt8.toNat_inj.1 hb⟩⟩
     ·refine .inl ?_
      rw [beq_eq_false_iff_ne]
      omega
    clear hlead hbr e e2
    rcases hcase with hcb | ⟨hcb, hca⟩
    all_goals
     go_enter Tryz.func128, Tryz.ntmps128
     go_wp2
     try clear hca
     clear hcb hb0
     go_loop [4, 26] (fun x i => ∃ k v : Nat, k ≤ s.size ∧ v < 10 ^ k ∧ i = .int .i64 k ∧ x = .int .i64 v ∧ Hid (numFrom 999 v ((sl s).drop k) = numFrom 999 0 (sl s))) (fun _ i => s.size - (intOf i).toNat)
     case atStart => exact ⟨0, 0, Nat.zero_le _, by decide, rfl, rfl, rfl⟩
     case round =>
      obtain ⟨k, v, hk, hv, rfl, rfl, HI⟩ := hrel
      by_cases hlt : k < s.size
      ·have hki : (k : Int) < (s.size : Int) := by omega
       have HS : Hid ((sl s).drop k = s[k] :: (sl s).drop (k + 1)) := sl_drop s k hlt
       have hb := s[k].toNat_lt
       have hv99 : v ≤ 99 := by
        have : k = 0 ∨ k = 1 ∨ k = 2 := by omega
        rcases this with rfl | rfl | rfl <;> omega
       by_cases hd : isDig s[k] = true
       ·have hd1 : 48 ≤ s[k].toNat := by simp [isDig] at hd; omega
        have hd2 : s[k].toNat ≤ 57 := by simp [isDig] at hd; omega
        have HN : Hid (numFrom 999 (10 * v + (s[k].toNat - 48)) ((sl s).drop (k + 1)) = numFrom 999 0 (sl s)) := by
         show _ = _
         rw [← HI.out, HS.out, numFrom, if_pos hd, if_neg (by omega)]
        have hv2 : 10 * v + (s[k].toNat - 48) < 10 ^ (k + 1) := by rw [Nat.pow_succ]; omega
        go_wp2
        go_round
        case rel => exact ⟨k + 1, 10 * v + (s[k].toNat - 48), by omega, hv2, by go_num, by rw [show ((10 * v + (s[k].toNat - 48) : Nat) : Int) = 10 * (v : Int) + ((s[k].toNat : Int) - 48) by omega], HN⟩
        case measure => simp [intOf]; omega
       ·have HN : Hid (numberV 255 (sl s) = none) := by
         show _ = none
         rw [HE.out, ← HI.out, HS.out, numFrom, if_neg hd]
         rfl
        have hd' : s[k].toNat < 48 ∨ 57 < s[k].toNat := by simp [isDig] at hd; omega
        rcases hd' with hd' | hd'
        all_goals
         go_wp2
         all_goals (first | (exfalso; omega) | (go_ret2; exact ⟨oct_none HN.out rfl, rfl⟩))
      ·obtain rfl : k = s.size := by omega
       have HN : Hid (numberV 255 (sl s) = if 255 < v then none else some v) := by
        show _ = _
        rw [HE.out, ← HI.out, List.drop_eq_nil_of_le (by rw [sl_len]; omega)]
        rfl
       have hv999 : v ≤ 999 := by
        have : s.size = 1 ∨ s.size = 2 ∨ s.size = 3 := by omega
        rcases this with h | h | h <;> rw [h] at hv <;> omega
       by_cases h255 : v ≤ 255
       ·have h255' : (v : Int) ≤ 255 := by omega
        go_wp2
        go_ret2
        exact ⟨⟨v, by rw [HN.out, if_neg (by omega)]; rfl, by omega, fun u hu => by rw [HN.out, if_neg (by omega)] at hu; exact Option.some.inj hu⟩, rfl⟩
       ·have h255' : ¬ (v : Int) ≤ 255 := by omega
        have hw : IntKind.u8.wrap (v : Int) = ((v % 256 : Nat) : Int) := by rw [IntKind.wrap_u8]; omega
        go_wp2
        go_ret2
        exact ⟨⟨v % 256, by rw [HN.out, if_pos (by omega)]; first | rfl | (rw [← hw]; rfl), by omega, fun u hu => by rw [HN.out, if_pos (by omega)] at hu; cases hu⟩, rfl⟩

end Go.Proofs.YtghbbephhoniaaaGreatDoor
